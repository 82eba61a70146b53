/-
  Lemma texts, one behind the other: RSet, RLaw, RPut, RCrash, RCr2. No statement of the seat is proved here.
-/
import Derived.Test.YtahhokhhgamelaaGE
import Derived.Deep.RegionLaw
import Derived.Deep.Slices
import Derived.OrdersHeld
import Derived.Deep.RegionHeld
import Derived.Deep.CutBlock
import Derived.Deep.DeepCutAuto
import Derived.BigQuiet
namespace Go.Proofs.Ytahhokhhgamelaa
open Go.RowKit Go.Maps Go.Sort Go.Shelf

theorem Kept.heapAt {fp : List Nat} {w w' : World} (hk : Kept fp w w') {b : Nat} {o : Obj} (h : w.heap[b]? = some o) (hb : b ∉ fp) : w'.heap[b]? = some o := by
  rw [hk.block b (Array.getElem?_eq_some_iff.1 h).1 hb]
  exact h

theorem RowF.formN {w : World} {v : Value} {fs : List Rf} {n : Nat} (h : RowF w v fs) (hn : fs.length = n) : ∃ a p, v = .slice a n p := by
  subst hn
  rcases h.2 with ⟨rfl, h0⟩ | ⟨g, cap, cur, rfl, _⟩
  · rw [h0]
    exact ⟨_, _, rfl⟩
  · exact ⟨_, _, rfl⟩

theorem IsF.kept {w w' : World} {fp : List Nat} {v : Value} {fs : List Rf} (h : IsF w v fs) (hk : Kept fp w w') (hf : ∀ x ∈ own v, x ∉ fp) : IsF w' v fs := by
  obtain ⟨a, cap, rfl, h1, h2, h3⟩ := h
  refine ⟨a, cap, rfl, h1, fun x hx j u hu => ?_, h3⟩
  have e := h2 x hx j u hu
  have hb := World.block_lt_of_cell? w _ e
  refine hk.cell e (fun hm => ?_)
  have hb2 : (x.add j).block = x.block := by unfold Addr.add; split <;> rfl
  rw [hb2] at hm
  subst hx
  exact hf x.block (by simp [own, Value.ownBlock]) hm

theorem slice_fromF (na : Option Addr) (L cap a : Nat) (ha : a ≤ L) (W : World) :
    (Instr.slice 49 (.slice na L cap) (some (.int .i64 (a : Int))) none none).run Try.prog W = .ok (.slice (if cap = a then na else na.map (·.add (a * 3))) (L - a) (cap - a)) W := by
  obtain ⟨i0, hi, hz0, hz1, hz2⟩ := info_parts Try.infoFile
  simp [Instr.slice, Instr.sliceBounds, Instr.sliceBound, asIntOf, run_underlying Try.underlying49, sizeOf, typeInfo, hi, hz1, ha]

section
variable {w : World} {r : Nat} {lv kv : Value} {fs : List Rf} {l : List Ab} {ks : List Bool} {room ops armed : Int} {down : Bool}

theorem RefAt.fromF (h : RefAt w r lv kv fs l ks room ops armed down) (k : Nat) (hk : k ≤ fs.length) {a : Option Addr} {n cap : Nat} (e : lv = .slice a n cap) :
    IsF w (.slice (if cap = k then a else a.map (·.add (k * 3))) (fs.length - k) (cap - k)) (fs.drop k) := by
  rcases h.form with ⟨e2, rfl⟩ | ⟨g, c2, e2⟩
  · rw [e2] at e
    simp only [Value.slice.injEq] at e
    obtain ⟨rfl, _, rfl⟩ := e
    have : k = 0 := by simpa using hk
    subst this
    exact ⟨none, 0, by simp, by simp, by simp, by simp [rcells]⟩
  · rw [e2] at e
    simp only [Value.slice.injEq] at e
    obtain ⟨rfl, rfl, rfl⟩ := e
    have := h.dropF k hk e2
    simpa using this

/-- Another row of files, all of it new. -/
theorem RefAt.turnL (h : RefAt w r lv kv fs l ks room ops armed down) {w5 : World} {v5 : Value} {gs : List Rf} {m : List Ab} (q : Kept [] w w5) (n5 : Newly w [] (own v5)) (r5 : RowF w5 v5 gs) (hl : gs.length = m.length)
    (hfiles : ∀ i (h1 : i < gs.length) (h2 : i < m.length), isF w gs[i] m[i]) (hg : ∀ f ∈ gs, ∀ x ∈ own f.2.1 ++ own f.2.2, x < w.heap.size ∧ x ≠ r) :
    RefAt (w5.setCell ⟨r, 1, none⟩ v5) r v5 kv gs m ks room ops armed down ∧ Kept [r] w (w5.setCell ⟨r, 1, none⟩ v5) ∧ ∀ x ∈ own v5, w.heap.size ≤ x := by
  have hr : r < w.heap.size := h.low r (by simp [rfeet])
  have k1 : Kept [r] w5 (w5.setCell ⟨r, 1, none⟩ v5) := (Kept.refl _ w5).setCell (p := ⟨r, 1, none⟩) (.inl (by simp)) _
  have nw : ∀ x ∈ own v5, w.heap.size ≤ x := fun x hx => by
    rcases n5 x hx with u | u
    · simp at u
    · exact u
  have K : Kept [r] w (w5.setCell ⟨r, 1, none⟩ v5) := (q.mono (fp' := [r]) (by simp)).trans k1 (Newly.refl _ _)
  have hlow := h.low
  refine ⟨h.putL K ?_ ?_ hl ?_ ?_ ?_ ?_, K, nw⟩
  · have := heap_setCell (q.heapAt h.cells (by simp)) 1 v5
    simpa using this
  · exact ownsRow_kept r5 k1 (fun x hx e => by have := nw x hx; simp at e; omega)
  · intro i h1 h2
    refine (hfiles i h1 h2).kept K (fun y hy e => ?_)
    simp at e
    exact (hg _ (List.getElem_mem h1) y hy).2 e
  · intro x hx
    have h0 := nw x hx
    refine ⟨fun e => ?_, fun f hf => ⟨fun e => ?_, fun e => ?_⟩⟩
    · rcases List.mem_cons.1 e with e | e
      · omega
      · have := hlow x (by simp only [rfeet, List.mem_append]; exact .inl (.inr e))
        omega
    · have := (hg f hf x (List.mem_append.2 (.inl e))).1
      omega
    · have := (hg f hf x (List.mem_append.2 (.inr e))).1
      omega
  · intro f hf
    exact ⟨fun e => (hg f hf r (List.mem_append.2 (.inl e))).2 rfl, fun e => (hg f hf r (List.mem_append.2 (.inr e))).2 rfl⟩
  · intro f hf x hx
    exact Nat.lt_of_lt_of_le (hg f hf x hx).1 K.size

theorem RefAt.filesLow (h : RefAt w r lv kv fs l ks room ops armed down) : ∀ f ∈ fs, ∀ x ∈ own f.2.1 ++ own f.2.2, x < w.heap.size ∧ x ≠ r := by
  intro f hf x hx
  refine ⟨h.low x (by simp only [rfeet, List.mem_append, List.mem_flatMap]; exact .inr ⟨f, hf, by simpa only [List.mem_append] using hx⟩), fun e => ?_⟩
  subst e
  have := (h.free x (by simp)).2 f hf
  rcases List.mem_append.1 hx with u | u
  · exact this.1 u
  · exact this.2 u

theorem keptNewF {w W0 w3 : World} {v v3 : Value} (q : Kept [] w W0) (hn : Newly w [] (own v)) (k : Kept (own v) W0 w3) (n : Newly W0 (own v) (own v3)) : Kept [] w w3 ∧ Newly w [] (own v3) :=
  ⟨q.trans k hn, fun x hx => by
    rcases n x hx with h | h
    · exact hn x h
    · exact .inr (Nat.le_trans q.size h)⟩

theorem RowF.empty (w : World) : RowF (w.alloc (.cells #[] 81)) (.slice (some ⟨w.heap.size, 0, none⟩) 0 0) [] := World.ownsRow_made w #[] 0 (Nat.zero_le _) (by unfold maxLen; omega) rfl

theorem RefAt.facts (h : RefAt w r lv kv fs l ks room ops armed down) {a : Option Addr} {cap : Nat} (e : lv = .slice a fs.length cap) (k k1 : Nat) (hk : k ≤ fs.length) (hk1 : k1 ≤ fs.length) :
    ∀ W, Kept [] w W → W.cell? ⟨r, 1, none⟩ = some lv ∧ W.frozen? ⟨r, 1, none⟩ = false ∧ IsF W (.slice a k cap) (fs.take k) ∧
      IsF W (.slice (if cap = k1 then a else a.map (·.add (k1 * 3))) (fs.length - k1) (cap - k1)) (fs.drop k1) := by
  intro W q
  have hq := q.heapAt h.cells (by simp)
  exact ⟨cell_of_heap hq 1, frozen_of_heap hq 1, (h.takeF k hk e).kept q (by simp), (h.fromF k1 hk1 e).kept q (by simp)⟩

set_option maxRecDepth 100000 in
set_option maxHeartbeats 4000000 in
theorem refCut_any (h : RefAt w r lv kv fs l ks room ops armed down) (k : Nat) (hk : k < l.length) (hf : l.length ≤ 1000000) :
    Calls Try.prog 55 #[.pointer (some ⟨r, 0, none⟩), .int .i64 k] w fun e w' => e = .returned (.tuple #[]) ∧ ∃ lv', RefAt w' r lv' kv (fs.eraseIdx k) (l.eraseIdx k) ks room ops armed down ∧ Kept [r] w w' ∧ ∀ x ∈ own lv', w.heap.size ≤ x := by
  have hlen := h.len
  obtain ⟨a, cap, hlv⟩ := h.slice
  have hcap : fs.length ≤ cap := by
    rcases h.row.2 with ⟨e2, h0⟩ | ⟨g2, cap2, cur, e2, hb, hg, hn, _⟩
    · omega
    · rw [hlv] at e2; simp only [Value.slice.injEq] at e2; omega
  obtain ⟨k1, hk1⟩ : ∃ k1, k1 = k + 1 := ⟨_, rfl⟩
  have FACT := hide (h.facts hlv k k1 (by omega) (by omega))
  obtain ⟨n, hn⟩ : ∃ n, n = fs.length := ⟨_, rfl⟩
  rw [← hn] at hlv hcap FACT
  have sl1 := slice_fromF a n cap k1 (by omega)
  obtain ⟨dp, hdp⟩ : ∃ dp, dp = (if cap = k1 then a else a.map (·.add (k1 * 3))) := ⟨_, rfl⟩
  obtain ⟨n1, hn1⟩ : ∃ n1, n1 = n - k1 := ⟨_, rfl⟩
  obtain ⟨cp1, hcp1⟩ : ∃ cp1, cp1 = cap - k1 := ⟨_, rfl⟩
  rw [← hdp, ← hn1, ← hcp1] at sl1 FACT
  subst hlv
  have H := hide h
  have O2 : Hid (RowF (w.alloc (.cells #[] 81)).drew (.slice (some ⟨w.heap.size, 0, none⟩) 0 0) []) := RowF.empty w
  have EX : Hid ([] ++ fs.take k ++ fs.drop k1 = fs.eraseIdx k) := by show _ = _; rw [hk1, List.eraseIdx_eq_take_drop_succ]; rfl
  obtain ⟨n9, hn9⟩ : ∃ n9, n9 = (fs.eraseIdx k).length := ⟨_, rfl⟩
  have HL9 : Hid ((fs.eraseIdx k).length = n9) := hn9.symm
  clear hn9
  have LEN : Hid ((fs.take k).length = k ∧ (fs.drop k1).length = n1 ∧ n ≤ 1000000 ∧ n1 ≤ 1000000) := ⟨by rw [List.length_take]; omega, by rw [List.length_drop]; omega, by omega, by omega⟩
  have m1 : (k : Int) + 1 = (k1 : Int) := by omega
  have b0 : (0 : Int) ≤ (k : Int) := by omega
  have b1 : (k : Int) ≤ (cap : Int) := by omega
  have b2 : (0 : Int) ≤ (k1 : Int) := by omega
  have b3 : (k1 : Int) ≤ (n : Int) := by omega
  have b4 : (n : Int) ≤ (cap : Int) := by omega
  have wk1 : IntKind.i64.wrap (k1 : Int) = (k1 : Int) := i64_small _ (by omega) (by omega)
  have Q0 : Hid (Kept [] w (w.alloc (.cells #[] 81)).drew) := ((Kept.refl _ w).alloc _).drew
  have N0 : Hid (Newly w [] (own (.slice (some ⟨w.heap.size, 0, none⟩) 0 0))) := fun x hx => by simp [own, Value.ownBlock] at hx; exact .inr (by omega)
  have b5 : k1 ≤ n := by omega
  have b6 : k + 1 ≤ n := by omega
  have b7 : (k : Int) + 1 ≤ (n : Int) := by omega
  have b8 : k1 ≤ cap := by omega
  have c1 := (FACT.out _ (Kept.refl [] w)).1
  have ca1 := (FACT.out _ Q0.out).1
  have ca2 := (FACT.out _ ((Kept.refl [] w).alloc (.cells #[] 81))).1
  have zr := (FACT.out _ (Kept.refl [] w)).2.1
  have HN := hide (And.intro hn (And.intro hk1 (And.intro hlen hk)))
  clear h hn hk1 hlen hk hdp hn1 hcp1 hf
  go_enter Try.func55, Try.ntmps55
  go_wp2_with fail
  go_region_law (first | (refine step_appendF _ ?_ (.tmp 12) (.tmp 19) ?_ v3 (.slice dp n1 cp1) ([] ++ fs.take k) (fs.drop k1) ?_ ?_ ?_ ?_ ?_ ?_; rfl; rfl; rfl; exact r3; rfl; exact (FACT.out _ Q3.out.1).2.2.2; (have q := LEN.out; rw [List.nil_append, q.1, q.2.1]; omega); intro v5 w5 r5 k5 n5; have Q5 := hide (keptNewF Q3.out.1 Q3.out.2 k5 n5); have k6 := (FACT.out _ Q5.out.1).1; have z6 := (FACT.out _ Q5.out.1).2.1; rw [EX.out] at r5; obtain ⟨a5, p5, e5⟩ := r5.formN HL9.out; subst e5; have R5 := hide r5; clear r5 k5 n5) | (refine step_appendF _ ?_ (.tmp 5) (.tmp 11) ?_ (.slice (some ⟨w.heap.size, 0, none⟩) 0 0) (.slice a k cap) [] (fs.take k) ?_ ?_ ?_ ?_ ?_ ?_; rfl; rfl; rfl; exact O2.out; rfl; exact (FACT.out _ Q0.out).2.2.1; (have q := LEN.out; rw [List.length_nil, q.1]; omega); intro v3 w3 r3 k3 n3; have Q3 := hide (keptNewF Q0.out N0.out k3 n3); have k4 := (FACT.out _ Q3.out.1).1; clear k3 n3))
  all_goals
    go_end0
    have hl9 := HN.out.2.2.1
    obtain ⟨t1, t2, t3⟩ := H.out.turnL (gs := fs.eraseIdx k) (m := l.eraseIdx k) Q5.out.1 Q5.out.2 R5.out (by rw [List.length_eraseIdx, List.length_eraseIdx, hl9]) (fun i h1 h2 => by
      rw [List.getElem_eraseIdx, List.getElem_eraseIdx]
      split
      · exact H.out.files _ _ _
      · exact H.out.files _ _ _) (fun f hf => H.out.filesLow f (List.mem_of_mem_eraseIdx hf))
    exact ⟨rfl, _, t1, t2, t3⟩
end

end Go.Proofs.Ytahhokhhgamelaa

namespace Go.Proofs.Ytahhokhhgamelaa
open Go.RowKit Go.Maps Go.Sort Go.Shelf

section
variable {P : Program} {md : Region.Mode} {ops : Array Oper} {Q : Exit → Act → World → Prop} {S : World → Prop} {L : Nat}

/-- Whatever may come up next does, and so on to the end; S holds behind each but the one with number L. -/
def Walk (P : Program) (md : Region.Mode) (ops : Array Oper) (Q : Exit → Act → World → Prop) (S : World → Prop) (L : Nat) : Nat → Array Bool → Act → World → Prop
  | 0, d, a, w => Region.ready md ops d = [] ∧ Q .normal a w
  | n + 1, d, a, w => (Region.ready md ops d = [] → Q .normal a w) ∧ ∀ i ∈ Region.ready md ops d, wpOp P ops Q i (fun b z => (i ≠ L → S z) ∧ Walk P md ops Q S L n (d.setIfInBounds i true) b z) a w

theorem Walk.any : ∀ (n : Nat) (d : Array Bool) (a : Act) (w : World), Walk P md ops Q S L n d a w → wpAny P md ops Q n d a w
  | 0, _, _, _, h => h
  | n + 1, _, _, _, h => ⟨h.1, fun i hi => wpOp_mono (fun b z hz => Walk.any n _ b z hz.2) (h.2 i hi)⟩

/-- Number a waits for number b. -/
def waits (md : Region.Mode) (ops : Array Oper) (a b : Nat) : Bool :=
  match ops[a]? with
  | some o => o.after.any fun e => Region.binds md e && e.on == b
  | none => false

theorem waits.not {a b : Nat} (h : waits md ops a b = true) {d : Array Bool} (hb : d.getD b true = false) : a ∉ Region.ready md ops d := by
  intro ha
  unfold waits at h
  obtain ⟨_, o, ho, hall⟩ := mem_ready.1 ha
  rw [ho] at h
  simp only [Array.any_eq_true] at h
  obtain ⟨k, hk, hx⟩ := h
  simp only [Bool.and_eq_true, beq_iff_eq] at hx
  have := hall _ (Array.getElem_mem hk) hx.1
  rw [hx.2] at this
  rcases Nat.lt_or_ge b d.size with q | q
  · simp [q] at hb this
    rw [hb] at this
    cases this
  · simp [Array.getElem?_eq_none q] at hb

theorem Walk.first {i k : Nat} {oi : Oper} {v : Value} (hw : waits md ops L k = true) (hki : (k == i || waits md ops k i) = true) (hi : ops[i]? = some oi) (hsel : ∀ (j : Nat) (o : Oper) cs b, ops[j]? = some o → o.op ≠ .select cs b)
    (hQ : ∀ c a w, Q (.panic c) (a.put oi.dst v) w → Q (.panic c) a w) : ∀ (n : Nat) (d : Array Bool) (a : Act) (w : World),
      (∀ j oj, ops[j]? = some oj → j ≠ i → d.getD j true = false → (∀ e ∈ oj.after, Region.binds md e = true → e.on ≠ i) → oi.apart ops oj = true) →
      d.getD k true = false → i ∈ Region.ready md ops d → YieldsIf P ops S oi v a → S w → Walk P md ops Q S L n (d.setIfInBounds i true) (a.put oi.dst v) w → Walk P md ops Q S L (n + 1) d a w := by
  intro n
  induction n with
  | zero =>
    intro d a w _ _ hr hy hS H
    refine ⟨fun h => (by rw [h] at hr; cases hr), fun j hj => ?_⟩
    rcases Decidable.em (j = i) with e | e
    · subst e
      exact hy.wpOp hi hS ⟨fun _ => hS, H⟩
    · have q := ready_mono hj e
      rw [H.1] at q
      cases q
  | succ n ih =>
    intro d a w hfree hdk hr hy hS H
    refine ⟨fun h => (by rw [h] at hr; cases hr), fun j hj => ?_⟩
    rcases Decidable.em (j = i) with e | e
    · subst e
      exact hy.wpOp hi hS ⟨fun _ => hS, H⟩
    · have hjL : j ≠ L := fun q => waits.not hw hdk (q ▸ hj)
      have hjk : j ≠ k := fun q => by
        simp only [Bool.or_eq_true, beq_iff_eq] at hki
        rcases hki with u | u
        · exact e (q.trans u)
        · exact waits.not u (mem_ready.1 hr).1 (q ▸ hj)
      obtain ⟨hjun, oj, hoj, hall⟩ := mem_ready.1 hj
      have hnot : ∀ x ∈ oj.after, Region.binds md x = true → x.on ≠ i := fun x hx hb heq => by
        have g1 := hall x hx hb
        have g0 := (mem_ready.1 hr).1
        rw [heq] at g1
        rcases Nat.lt_or_ge i d.size with q | q
        · simp [q] at g0 g1
          rw [g0] at g1
          cases g1
        · simp [Array.getElem?_eq_none q] at g1
      refine wpOp_mono (fun b z g => ⟨fun _ => g.2.1 hjL, ih (d.setIfInBounds j true) b z (fun k2 ok hk hki2 hun hno => hfree k2 ok hk hki2 ?_ hno) (by rw [getD_set_ne true hjk]; exact hdk) (ready_mono hr (Ne.symm e)) g.1 (g.2.1 hjL) ?_⟩) (wpOp_putIf hoj (hfree j oj hoj e hjun hnot) (fun cs b => hsel i oi cs b hi) (fun cs b => hsel j oj cs b hoj) hQ hy (H.2 j (ready_mono hj e)))
      · rcases Decidable.em (j = k2) with q | q
        · subst q; exact hjun
        · rw [getD_set_ne true q] at hun; exact hun
      · rw [Array.setIfInBounds_comm _ _ e]
        exact g.2.2

theorem Walk.take {i : Nat} {oi : Oper} (k : Nat) {v : Value} {n : Nat} {d : Array Bool} {a : Act} {w : World} (hw : waits md ops L k = true) (hki : (k == i || waits md ops k i) = true) (hdk : d.getD k true = false) (hi : ops[i]? = some oi)
    (hs : Region.noSelect ops = true) (hf : Region.free md ops d i = true) (hr : (Region.ready md ops d).contains i = true)
    (hQ : ∀ c a w, Q (.panic c) (a.put oi.dst v) w → Q (.panic c) a w) (hy : YieldsIf P ops S oi v a) (hS : S w)
    (h : Walk P md ops Q S L n (d.setIfInBounds i true) (a.put oi.dst v) w) : Walk P md ops Q S L (n + 1) d a w :=
  Walk.first hw hki hi (Region.noSelect_spec hs) hQ n d a w (Region.free_spec hi hf) hdk (by simpa using hr) hy hS h

/-- Each of those that may come up does. -/
theorem Walk.each {rs : List Nat} {n : Nat} {d : Array Bool} {a : Act} {w : World} (hr : Region.ready md ops d = rs) (hne : rs ≠ [])
    (h : ∀ i ∈ rs, wpOp P ops Q i (fun b z => (i ≠ L → S z) ∧ Walk P md ops Q S L n (d.setIfInBounds i true) b z) a w) : Walk P md ops Q S L (n + 1) d a w :=
  ⟨fun h0 => absurd (hr ▸ h0) hne, hr ▸ h⟩

theorem Walk.done {d : Array Bool} {a : Act} {w : World} (hr : Region.ready md ops d = []) (h : Q .normal a w) : ∀ n, Walk P md ops Q S L n d a w
  | 0 => ⟨hr, h⟩
  | n + 1 => ⟨fun _ => h, fun i hi => by rw [hr] at hi; cases hi⟩

theorem Walk.start {id : Nat} {a : Act} {w : World} (hm : P.follows .mixedOrders = true) (hS : S w.drew) (h : S w.drew → Walk P .any ops Q S L ops.size (Array.replicate ops.size false) a w.drew) : (Code.region id ops true).wp P Q a w :=
  wp_region_any hm (Walk.any _ _ _ _ (h hS))

/-- One of those that may come up: its step, and what is left. -/
theorem Walk.step {n : Nat} {d : Array Bool} {a : Act} {w : World} {i : Nat} {o : Oper} (ho : ops[i]? = some o)
    (h : ∀ K' : Act → World → Prop, Shut (∀ b z, (i ≠ L → S z) → ((i ≠ L → S z) → Walk P md ops Q S L n (d.setIfInBounds i true) b z) → K' b z) → if Region.wanted o (yielded ops a.tmps) = true then Oper.wp P o a w K' Q else K' (a.put o.dst undef) w) :
    wpOp P ops Q i (fun b z => (i ≠ L → S z) ∧ Walk P md ops Q S L n (d.setIfInBounds i true) b z) a w :=
  wpOp_step ho (fun K' hK => h K' (fun b z hS hW => hK b z ⟨hS, hW hS⟩))

end

end Go.Proofs.Ytahhokhhgamelaa

namespace Go.Proofs.Ytahhokhhgamelaa
open Go.RowKit Go.Maps Go.Sort Go.Shelf

/-- The place at which a name is put. -/
def placeP (l : List Ab) (n : List UInt8) : Nat := (l.takeWhile (fun x => decide (x.1 < n))).length

theorem placeP_le (l : List Ab) (n : List UInt8) : placeP l n ≤ l.length := (List.takeWhile_sublist _).length_le

theorem insA_place (l : List Ab) (x : Ab) : insA l x = l.take (placeP l x.1) ++ [x] ++ l.drop (placeP l x.1) := by
  induction l with
  | nil => rfl
  | cons y l ih =>
    unfold insA placeP
    by_cases h : y.1 < x.1
    · rw [if_pos h, List.takeWhile_cons_of_pos (by simpa using h), List.length_cons, List.take_succ_cons, List.drop_succ_cons, ih]
      rfl
    · rw [if_neg h, List.takeWhile_cons_of_neg (by simpa using h)]
      rfl

theorem placeP_at (l : List Ab) (n : List UInt8) (k : Nat) (hk : k ≤ l.length) (hb : ∀ j (h : j < l.length), j < k → l[j].1 < n) (hn : ∀ h : k < l.length, ¬ l[k].1 < n) : placeP l n = k := by
  unfold placeP
  induction l generalizing k with
  | nil => simp at hk; subst hk; rfl
  | cons y l ih =>
    cases k with
    | zero =>
      have := hn (by simp)
      rw [List.takeWhile_cons_of_neg (by simpa using this)]
      rfl
    | succ k =>
      have h0 := hb 0 (by simp) (by omega)
      rw [List.takeWhile_cons_of_pos (by simpa using h0), List.length_cons, ih k (by simpa using hk) (fun j h hj => hb (j + 1) (Nat.succ_lt_succ h) (Nat.succ_lt_succ hj)) (fun h => hn (Nat.succ_lt_succ h))]

theorem placeP_lt (l : List Ab) (n : List UInt8) (k : Nat) (hk : k < placeP l n) : ∃ h : k < l.length, l[k].1 < n := by
  have hl := placeP_le l n
  have h : k < l.length := by omega
  refine ⟨h, ?_⟩
  clear hl
  unfold placeP at hk
  induction l generalizing k with
  | nil => simp at h
  | cons y l ih =>
    by_cases hy : y.1 < n
    · cases k with
      | zero => exact hy
      | succ k =>
        simp only [List.takeWhile_cons_of_pos (p := fun x : Ab => decide (x.1 < n)) (by simpa using hy), List.length_cons] at hk
        exact ih k (by omega) (by simpa using h)
    · simp only [List.takeWhile_cons_of_neg (p := fun x : Ab => decide (x.1 < n)) (by simpa using hy), List.length_nil] at hk
      omega

theorem placeP_end (l : List Ab) (n : List UInt8) (h : placeP l n < l.length) : ¬ l[placeP l n].1 < n := by
  unfold placeP at h ⊢
  induction l with
  | nil => simp at h
  | cons y l ih =>
    by_cases hy : y.1 < n
    · simp only [List.takeWhile_cons_of_pos (p := fun x : Ab => decide (x.1 < n)) (by simpa using hy), List.length_cons] at h ⊢
      exact ih (by omega)
    · simp only [List.takeWhile_cons_of_neg (p := fun x : Ab => decide (x.1 < n)) (by simpa using hy)] at h ⊢
      exact hy

theorem isF_one {w : World} {a : Addr} {f : Rf} (h0 : w.cell? (a.add 0) = some (.string f.1)) (h1 : w.cell? (a.add 1) = some f.2.1) (h2 : w.cell? (a.add 2) = some f.2.2) (o1 : f.2.1.oneCell' = true) (o2 : f.2.2.oneCell' = true) : IsF w (.slice (some a) 1 1) [f] := by
  refine ⟨some a, 1, rfl, by simp, fun x hx j u hu => ?_, fun u hu => ?_⟩
  · simp only [Option.some.injEq] at hx
    subst hx
    match j with
    | 0 => simp [rcells] at hu; subst hu; exact h0
    | 1 => simp [rcells] at hu; subst hu; exact h1
    | 2 => simp [rcells] at hu; subst hu; exact h2
    | j + 3 => simp [rcells] at hu
  · simp [rcells] at hu
    rcases hu with rfl | rfl | rfl
    · rfl
    · exact o1
    · exact o2

theorem drewN_two (w : World) (m n : Nat) : (w.drewN m).drewN n = w.drewN (m + n) := by
  simp [World.drewN, Nat.add_assoc]

/-- Files side by side. -/
def AllF (w : World) (fs : List Rf) (l : List Ab) : Prop := fs.length = l.length ∧ ∀ i (h : i < fs.length) (h' : i < l.length), isF w fs[i] l[i]

theorem AllF.append {w : World} {fs gs : List Rf} {l m : List Ab} (h1 : AllF w fs l) (h2 : AllF w gs m) : AllF w (fs ++ gs) (l ++ m) := by
  refine ⟨by rw [List.length_append, List.length_append, h1.1, h2.1], fun i hi hi' => ?_⟩
  by_cases hlt : i < fs.length
  · rw [List.getElem_append_left hlt, List.getElem_append_left (by rw [← h1.1]; exact hlt)]
    exact h1.2 i hlt _
  · have e1 := h1.1
    have e2 := h2.1
    rw [List.length_append] at hi
    rw [List.getElem_append_right (by omega), List.getElem_append_right (by omega)]
    have e3 : i - fs.length = i - l.length := by omega
    simp only [e3]
    exact h2.2 _ (by omega) _
theorem AllF.take {w : World} {fs : List Rf} {l : List Ab} (h1 : AllF w fs l) (k : Nat) : AllF w (fs.take k) (l.take k) := by
  refine ⟨by rw [List.length_take, List.length_take, h1.1], fun i hi hi' => ?_⟩
  rw [List.getElem_take, List.getElem_take]
  exact h1.2 _ _ _
theorem AllF.drop {w : World} {fs : List Rf} {l : List Ab} (h1 : AllF w fs l) (k : Nat) : AllF w (fs.drop k) (l.drop k) := by
  refine ⟨by rw [List.length_drop, List.length_drop, h1.1], fun i hi hi' => ?_⟩
  rw [List.getElem_drop, List.getElem_drop]
  exact h1.2 _ _ _
theorem AllF.one {w : World} {f : Rf} {x : Ab} (h : isF w f x) : AllF w [f] [x] := ⟨rfl, fun i hi hi' => by
  have : i = 0 := by simpa using hi
  subst this
  exact h⟩

section
variable {w : World} {r : Nat} {lv kv : Value} {fs : List Rf} {l : List Ab} {ks : List Bool} {room ops armed : Int} {down : Bool}

set_option maxRecDepth 100000 in
set_option maxHeartbeats 4000000 in
set_option linter.unusedSimpArgs false in
theorem refPuts_any (h : RefAt w r lv kv fs l ks room ops armed down) (nm : ByteArray) (vn vs : Value) (x : Ab) (hx : isF w (nm, vn, vs) x) (hlow : ∀ z ∈ own vn ++ own vs, z < w.heap.size ∧ z ≠ r) (hf : l.length ≤ 1000000) :
    Calls Try.prog 50 #[.pointer (some ⟨r, 0, none⟩), .agg #[.string nm, vn, vs]] w fun e w' => e = .returned (.tuple #[]) ∧ ∃ lv' gs, RefAt w' r lv' kv gs (insA l x) ks room ops armed down ∧ Kept [r] w w' ∧ (∀ z ∈ own lv', w.heap.size ≤ z) ∧ ∀ f ∈ gs, f ∈ fs ∨ f = (nm, vn, vs) := by
  have H := hide h
  obtain ⟨a, cap, hlv⟩ := h.slice
  have c1 := h.cellAt.2.1
  have hlen := h.len
  subst hlv
  rw [hlen] at c1
  have HLEN := hide hlen
  have HX := hide hx
  obtain ⟨a1, p1, e1, _⟩ := hx.2.1.form
  obtain ⟨a2, p2, e2, _⟩ := hx.2.2.form
  simp only at e1 e2
  obtain ⟨n1, hn1⟩ : ∃ n1, n1 = x.2.1.length := ⟨_, rfl⟩
  obtain ⟨n2, hn2⟩ : ∃ n2, n2 = x.2.2.length := ⟨_, rfl⟩
  rw [← hn1] at e1
  rw [← hn2] at e2
  subst e1 e2
  have HLW := hide hlow
  clear hlow hn1 hn2
  clear h hlen hx
  go_enter Try.func50, Try.ntmps50
  go_wp2
  obtain ⟨W1, hW1⟩ : ∃ W1, W1 = w.alloc (Obj.cells #[Value.string nm, Value.slice a1 n1 p1, Value.slice a2 n2 p2] 81) := ⟨_, rfl⟩
  have B1 : Hid (Below w.heap.size w W1) := by rw [hW1]; exact (Below.refl _ w).alloc (Nat.le_refl _) _
  have hbx : W1.heap[w.heap.size]? = some (.cells #[Value.string nm, Value.slice a1 n1 p1, Value.slice a2 n2 p2] 81) := by rw [hW1]; exact heap_alloc_new w _
  rw [← hW1]
  have HBX := hide hbx
  clear hW1 hbx
  obtain ⟨K, hK⟩ : ∃ K, K = placeP l x.1 := ⟨_, rfl⟩
  have hKl : K ≤ l.length := by rw [hK]; exact placeP_le _ _
  have HK := hide hK
  clear hK
  go_loopw [4] (fun v wr => ∃ k : Nat, v = .int .i64 k ∧ k ≤ K ∧ ∃ m, wr = W1.drewN m) (fun v _ => K + 1 - (intOf v).toNat)
  case atStart => exact ⟨0, rfl, Nat.zero_le _, 0, rfl⟩
  case round =>
    obtain ⟨k, rfl, hk, m, hwr⟩ := hrel
    have BW : Hid (Below w.heap.size w wr) := by rw [hwr]; exact below_drewN B1.out m
    have HB2 : Hid (wr.heap[w.heap.size]? = some (.cells #[Value.string nm, Value.slice a1 n1 p1, Value.slice a2 n2 p2] 81)) := by rw [hwr]; exact HBX.out
    have HWR := hide hwr
    clear hwr
    have HW := hide (H.out.kept (Kept.of_below (fp := []) BW.out) (by simp))
    have d1 : wr.cell? ⟨r, 1, none⟩ = some (.slice a l.length cap) := by have := HW.out.cellAt.2.1; rw [HLEN.out] at this; exact this
    have e0 : wr.cell? ⟨w.heap.size, 0, none⟩ = some (.string nm) := cell_of_heap HB2.out 0
    by_cases hkK : k < K
    · obtain ⟨hkl, hlt⟩ := placeP_lt l x.1 k (by rw [← HK.out]; exact hkK)
      obtain ⟨g, cap', he, d0, _, _⟩ := HW.out.fileAt k (by rw [HLEN.out]; exact hkl)
      simp only [Value.slice.injEq, true_and] at he
      obtain ⟨rfl, rfl⟩ := he
      have hnm := (HW.out.files k (by rw [HLEN.out]; exact hkl) hkl).1
      obtain ⟨t, ht⟩ : ∃ t, t = (fs[k]'(by rw [HLEN.out]; exact hkl)).1 := ⟨_, rfl⟩
      rw [← ht] at d0 hnm
      have hb : Go.Op.bytesLess t.toList nm.toList = true := by
        rw [bytesLess_eq, ByteArray.toList_eq, ByteArray.toList_eq, hnm, HX.out.1]
        simpa using hlt
      have hkl2 : (k : Int) < (l.length : Int) := by omega
      clear ht hnm hlt
      go_wp2
      go_quiet (fail)
      go_wp2
      go_roundw
      case rel => exact ⟨k + 1, by go_num, by omega, _, by rw [HWR.out]; exact drewN_two W1 m _⟩
      case measure => simp [intOf]; omega
    · obtain rfl : k = K := by omega
      have hend : ∀ h : k < l.length, ¬ l[k].1 < x.1 := by
        intro hh
        have h2 := placeP_end l x.1 (by rw [← HK.out]; exact hh)
        have e := HK.out
        simp only [← e] at h2
        exact h2
      have HEND := hide hend
      clear hend
      have hkb : (k : Int) ≤ (l.length : Int) := by omega
      go_upto_region 2 with fail
      go_cut [24] (fun s24 wx => s24 = .bool false ∧ ∃ n, wx = wr.drewN n)
      case first =>
        by_cases hkl : k < l.length
        · obtain ⟨g, cap', he, d0, _, _⟩ := HW.out.fileAt k (by rw [HLEN.out]; exact hkl)
          simp only [Value.slice.injEq, true_and] at he
          obtain ⟨rfl, rfl⟩ := he
          have hnm := (HW.out.files k (by rw [HLEN.out]; exact hkl) hkl).1
          obtain ⟨t, ht⟩ : ∃ t, t = (fs[k]'(by rw [HLEN.out]; exact hkl)).1 := ⟨_, rfl⟩
          rw [← ht] at d0 hnm
          have hb : Go.Op.bytesLess t.toList nm.toList = false := by
            rw [bytesLess_eq, ByteArray.toList_eq, ByteArray.toList_eq, hnm, HX.out.1]
            simpa using HEND.out hkl
          have hkl2 : (k : Int) < (l.length : Int) := by omega
          clear ht hnm
          go_quiet (fail)
          go_wp2
          go_meet
          case rel => exact ⟨rfl, _, rfl⟩
        · have hkl2 : ¬ (k : Int) < (l.length : Int) := by omega
          go_quiet (fail)
          go_wp2
          go_meet
          case rel => exact ⟨rfl, _, rfl⟩
      case rest =>
        obtain ⟨rfl, mm, rfl⟩ := hcut
        go_upto_region 4 with fail
        obtain ⟨w2, hw2⟩ : ∃ w2, w2 = wr.drewN mm := ⟨_, rfl⟩
        have BX : Hid (Below w.heap.size w w2) := by rw [hw2]; exact below_drewN BW.out mm
        have HB3 : Hid (w2.heap[w.heap.size]? = some (.cells #[Value.string nm, Value.slice a1 n1 p1, Value.slice a2 n2 p2] 81)) := by rw [hw2]; exact HB2.out
        rw [← hw2]
        clear hw2 d1 e0
        have h2 := H.out.kept (Kept.of_below (fp := []) BX.out) (by simp)
        have H2 := hide h2
        have FACT := hide (h2.facts rfl k k (by rw [HLEN.out]; omega) (by rw [HLEN.out]; omega))
        have hcap : fs.length ≤ cap := by
          rcases h2.row.2 with ⟨e2, h0⟩ | ⟨g2, cap2, cur, e2, hb, hg, hn, _⟩
          · omega
          · simp only [Value.slice.injEq] at e2; omega
        obtain ⟨n, hn⟩ : ∃ n, n = fs.length := ⟨_, rfl⟩
        have hnl : n = l.length := by rw [hn]; exact HLEN.out
        rw [← hn] at FACT hcap
        have HNN := hide (And.intro hn hnl)
        rw [← hnl] at hKl hf hkb
        have sl1 := slice_fromF a n cap k (by omega)
        obtain ⟨dp, hdp⟩ : ∃ dp, dp = (if cap = k then a else a.map (·.add (k * 3))) := ⟨_, rfl⟩
        obtain ⟨m1, hm1⟩ : ∃ m1, m1 = n - k := ⟨_, rfl⟩
        obtain ⟨cp1, hcp1⟩ : ∃ cp1, cp1 = cap - k := ⟨_, rfl⟩
        rw [← hdp, ← hm1, ← hcp1] at sl1 FACT
        have LEN : Hid ((fs.take k).length = k ∧ (fs.drop k).length = m1 ∧ n ≤ 1000000 ∧ m1 ≤ 1000000 ∧ k ≤ 1000000) := ⟨by rw [List.length_take]; omega, by rw [List.length_drop]; omega, by omega, by omega, by omega⟩
        obtain ⟨F, hF⟩ : ∃ F : Rf, F = (nm, .slice a1 n1 p1, .slice a2 n2 p2) := ⟨_, rfl⟩
        obtain ⟨n9, hn9⟩ : ∃ n9, n9 = ([] ++ fs.take k ++ [F] ++ fs.drop k).length := ⟨_, rfl⟩
        have HL9 : Hid (([] ++ fs.take k ++ [F] ++ fs.drop k).length = n9) := hn9.symm
        have SF : Hid (∀ (W : World) (b : Nat), W.heap[b]? = some (.cells #[Value.string nm, Value.slice a1 n1 p1, Value.slice a2 n2 p2] 81) → IsF W (.slice (some ⟨b, 0, none⟩) 1 1) [F]) := by
          intro W b hb
          rw [hF]
          exact isF_one (cell_of_heap hb 0) (cell_of_heap hb 1) (cell_of_heap hb 2) rfl rfl
        have HF := hide hF
        clear hF hn9 hdp hm1 hcp1 hn hnl
        have b0 : (0 : Int) ≤ (k : Int) := by omega
        have b1 : (k : Int) ≤ (cap : Int) := by omega
        have b4 : (n : Int) ≤ (cap : Int) := by omega
        obtain ⟨oA, hoA⟩ : ∃ oA, oA = Obj.cells #[] 81 := ⟨_, rfl⟩
        obtain ⟨oB, hoB⟩ : ∃ oB, oB = Obj.cells #[Value.string nm, Value.slice a1 n1 p1, Value.slice a2 n2 p2] 81 := ⟨_, rfl⟩
        have hsA : (w2.alloc oA).heap.size = w2.heap.size + 1 := by simp
        have hsB : (w2.alloc oB).heap.size = w2.heap.size + 1 := by simp
        have O1 : Hid (RowF ((w2.alloc oB).alloc oA).drew (.slice (some ⟨w2.heap.size + 1, 0, none⟩) 0 0) []) := by
          show RowF ((w2.alloc oB).alloc oA) _ []
          have e := RowF.empty (w2.alloc oB)
          rw [← hoA, hsB] at e
          exact e
        have O3 : Hid (RowF (w2.alloc oA).drew (.slice (some ⟨w2.heap.size, 0, none⟩) 0 0) []) := by rw [hoA]; exact RowF.empty w2
        have O2 : Hid (RowF ((w2.alloc oA).alloc oB).drew (.slice (some ⟨w2.heap.size, 0, none⟩) 0 0) []) := (World.ownsRow.alloc O3.out oB)
        have Q1 : Hid (Kept [] w2 ((w2.alloc oB).alloc oA).drew) := (((Kept.refl _ w2).alloc _).alloc _).drew
        have Q2 : Hid (Kept [] w2 ((w2.alloc oA).alloc oB).drew) := (((Kept.refl _ w2).alloc _).alloc _).drew
        have Q3 : Hid (Kept [] w2 (w2.alloc oA).drew) := ((Kept.refl _ w2).alloc _).drew
        have Q4 : Hid (Kept [] w2 (w2.alloc oB).drew) := ((Kept.refl _ w2).alloc _).drew
        have N1 : Hid (Newly w2 [] (own (.slice (some ⟨w2.heap.size + 1, 0, none⟩) 0 0))) := fun x hx => by simp [own, Value.ownBlock] at hx; exact .inr (by omega)
        have N2 : Hid (Newly w2 [] (own (.slice (some ⟨w2.heap.size, 0, none⟩) 0 0))) := fun x hx => by simp [own, Value.ownBlock] at hx; exact .inr (by omega)
        have SB1 : Hid (((w2.alloc oB).alloc oA).drew.heap[w2.heap.size]? = some oB) := by
          exact ((Kept.refl [] (w2.alloc oB)).alloc oA).heapAt (heap_alloc_new w2 oB) (by simp)
        have SB2 : Hid (((w2.alloc oA).alloc oB).drew.heap[w2.heap.size + 1]? = some oB) := by
          have e := heap_alloc_new (w2.alloc oA) oB
          rw [hsA] at e
          exact e
        have BXF : Hid (∀ W : World, Kept [] w2 W → W.heap[w.heap.size]? = some oB) := fun W q => by rw [hoB]; exact q.heapAt HB3.out (by simp)
        rw [← hoB] at SF
        have hA1 := fun W q => cell_of_heap (hoB ▸ BXF.out W q) 0
        have hA2 := fun W q => cell_of_heap (hoB ▸ BXF.out W q) 1
        have hA3 := fun W q => cell_of_heap (hoB ▸ BXF.out W q) 2
        have LD : Hid (∀ W, Kept [] w2 W → W.cell? ⟨w.heap.size, 0, none⟩ = some (.string nm) ∧ W.cell? ⟨w.heap.size, 1, none⟩ = some (.slice a1 n1 p1) ∧ W.cell? ⟨w.heap.size, 2, none⟩ = some (.slice a2 n2 p2) ∧ W.cell? ⟨r, 1, none⟩ = some (.slice a n cap)) := fun W q => ⟨hA1 W q, hA2 W q, hA3 W q, (FACT.out W q).1⟩
        clear hA1 hA2 hA3 h2
        have LS : Hid (∀ W, Kept [] w2 W → (W.cell? ⟨w.heap.size, 0, none⟩ = some (.string nm) ∧ W.cell? ⟨w.heap.size, 1, none⟩ = some (.slice a1 n1 p1)) ∧ W.cell? ⟨w.heap.size, 2, none⟩ = some (.slice a2 n2 p2) ∧ W.cell? ⟨r, 1, none⟩ = some (.slice a n cap)) := fun W q => ⟨⟨(LD.out W q).1, (LD.out W q).2.1⟩, (LD.out W q).2.2.1, (LD.out W q).2.2.2⟩
        have FIN : Hid (∀ a5 p5 (w5 : World), RowF w5 (.slice a5 n9 p5) ([] ++ fs.take k ++ [F] ++ fs.drop k) → (Kept [] w2 w5 ∧ Newly w2 [] (own (.slice a5 n9 p5))) →
            ∃ lv' gs, RefAt (w5.setCell ⟨r, 1, none⟩ (.slice a5 n9 p5)) r lv' kv gs (insA l x) ks room ops armed down ∧ Kept [r] w (w5.setCell ⟨r, 1, none⟩ (.slice a5 n9 p5)) ∧ (∀ z ∈ own lv', w.heap.size ≤ z) ∧ ∀ f ∈ gs, f ∈ fs ∨ f = (nm, .slice a1 n1 p1, .slice a2 n2 p2)) := by
          intro a5 p5 w5 R5 P5
          have hall : AllF w2 fs l := ⟨HLEN.out, H2.out.files⟩
          have hone : isF w2 F x := by
            rw [HF.out]
            exact HX.out.kept (Kept.of_below (fp := []) BX.out) (by simp)
          have happ := ((hall.take k).append (AllF.one hone)).append (hall.drop k)
          have hin : insA l x = l.take k ++ [x] ++ l.drop k := by
            rw [insA_place, ← HK.out]
          rw [← hin] at happ
          obtain ⟨t1, t2, t3⟩ := H2.out.turnL (gs := [] ++ fs.take k ++ [F] ++ fs.drop k) (m := insA l x) P5.1 P5.2 R5 happ.1 happ.2 (fun f hf => by
            rcases List.mem_append.1 hf with u | u
            · rcases List.mem_append.1 u with u | u
              · exact H2.out.filesLow f (List.mem_of_mem_take u)
              · have : f = F := by simpa using u
                rw [this, HF.out]
                intro z hz
                exact ⟨Nat.lt_of_lt_of_le (HLW.out z hz).1 BX.out.size, (HLW.out z hz).2⟩
            · exact H2.out.filesLow f (List.mem_of_mem_drop u))
          refine ⟨_, _, t1, ((Kept.of_below (fp := [r]) BX.out)).trans t2 (Newly.refl _ _), fun z hz => Nat.le_trans BX.out.size (t3 z hz), fun f hf => ?_⟩
          rcases List.mem_append.1 hf with u | u
          · rcases List.mem_append.1 u with u | u
            · exact .inl (List.mem_of_mem_take u)
            · have : f = F := by simpa using u
              exact .inr (this.trans HF.out)
          · exact .inl (List.mem_of_mem_drop u)
        subst hoA hoB
        refine Walk.start (S := (fun W => (W.cell? ⟨w.heap.size, 0, none⟩ = some (.string nm) ∧ W.cell? ⟨w.heap.size, 1, none⟩ = some (.slice a1 n1 p1)) ∧ W.cell? ⟨w.heap.size, 2, none⟩ = some (.slice a2 n2 p2) ∧ W.cell? ⟨r, 1, none⟩ = some (.slice a n cap))) (L := 21) (by kernel_rfl) (LS.out _ (Kept.refl [] w2).drew) (fun hHeld => ?_)
        refine Walk.take (L := 21) (i := 0) (oi := { dst := some 27, op := Go.Op.move (Go.Operand.tmp 0), type := 26, pos := "ref.go:105", after := #[], guard := none }) (v := ?_) 0 (by kernel_rfl) (by kernel_rfl) (by kernel_rfl) rfl (by kernel_rfl) (by kernel_rfl) (by kernel_rfl) (fun _ _ _ h => h) (Or.inl ⟨by rfl, ?_⟩) (by assumption) ?_
        rotate_left
        · (intro W hSw; (try dsimp only at hSw); go_simp; (try with_reducible rfl))
        (try simp only [Act.put, List.setIfInBounds_toArray, List.set_cons_zero, List.set_cons_succ])
        refine Walk.take (L := 21) (i := 2) (oi := { dst := some 29, op := Go.Op.move (Go.Operand.tmp 0), type := 26, pos := "ref.go:105", after := #[], guard := none }) (v := ?_) 2 (by kernel_rfl) (by kernel_rfl) (by kernel_rfl) rfl (by kernel_rfl) (by kernel_rfl) (by kernel_rfl) (fun _ _ _ h => h) (Or.inl ⟨by rfl, ?_⟩) (by assumption) ?_
        rotate_left
        · (intro W hSw; (try dsimp only at hSw); go_simp; (try with_reducible rfl))
        (try simp only [Act.put, List.setIfInBounds_toArray, List.set_cons_zero, List.set_cons_succ])
        refine Walk.take (L := 21) (i := 3) (oi := { dst := some 30, op := Go.Op.nilCheck (Go.Operand.tmp 29), type := 0, pos := "ref.go:105", after := #[{ on := 2, ground := Go.Ground.data }], guard := none }) (v := ?_) 3 (by kernel_rfl) (by kernel_rfl) (by kernel_rfl) rfl (by kernel_rfl) (by kernel_rfl) (by kernel_rfl) (fun _ _ _ h => h) (Or.inl ⟨by rfl, ?_⟩) (by assumption) ?_
        rotate_left
        · (intro W hSw; (try dsimp only at hSw); go_simp; (try with_reducible rfl))
        (try simp only [Act.put, List.setIfInBounds_toArray, List.set_cons_zero, List.set_cons_succ])
        refine Walk.take (L := 21) (i := 4) (oi := { dst := some 31, op := Go.Op.fieldAddr 51 (Go.Operand.tmp 30) 1, type := 0, pos := "ref.go:105", after := #[{ on := 3, ground := Go.Ground.data }], guard := none }) (v := ?_) 4 (by kernel_rfl) (by kernel_rfl) (by kernel_rfl) rfl (by kernel_rfl) (by kernel_rfl) (by kernel_rfl) (fun _ _ _ h => h) (Or.inl ⟨by rfl, ?_⟩) (by assumption) ?_
        rotate_left
        · (intro W hSw; (try dsimp only at hSw); go_simp; (try with_reducible rfl))
        (try simp only [Act.put, List.setIfInBounds_toArray, List.set_cons_zero, List.set_cons_succ])
        refine Walk.take (L := 21) (i := 5) (oi := { dst := some 32, op := Go.Op.load 49 (Go.Operand.tmp 31), type := 49, pos := "ref.go:105", after := #[{ on := 4, ground := Go.Ground.data }], guard := none }) (v := ?_) 5 (by kernel_rfl) (by kernel_rfl) (by kernel_rfl) rfl (by kernel_rfl) (by kernel_rfl) (by kernel_rfl) (fun _ _ _ h => h) (Or.inl ⟨by rfl, ?_⟩) (by assumption) ?_
        rotate_left
        · (intro W hSw; (try dsimp only at hSw); go_simp; (try with_reducible rfl))
        (try simp only [Act.put, List.setIfInBounds_toArray, List.set_cons_zero, List.set_cons_succ])
        refine Walk.take (L := 21) (i := 6) (oi := { dst := some 33, op := Go.Op.move (Go.Operand.tmp 4), type := 3, pos := "ref.go:105", after := #[], guard := none }) (v := ?_) 6 (by kernel_rfl) (by kernel_rfl) (by kernel_rfl) rfl (by kernel_rfl) (by kernel_rfl) (by kernel_rfl) (fun _ _ _ h => h) (Or.inl ⟨by rfl, ?_⟩) (by assumption) ?_
        rotate_left
        · (intro W hSw; (try dsimp only at hSw); go_simp; (try with_reducible rfl))
        (try simp only [Act.put, List.setIfInBounds_toArray, List.set_cons_zero, List.set_cons_succ])
        refine Walk.take (L := 21) (i := 7) (oi := { dst := some 34, op := Go.Op.slice 49 (Go.Operand.tmp 32) none (some (Go.Operand.tmp 33)) none, type := 49, pos := "ref.go:105", after := #[{ on := 5, ground := Go.Ground.data }, { on := 6, ground := Go.Ground.data }], guard := none }) (v := ?_) 7 (by kernel_rfl) (by kernel_rfl) (by kernel_rfl) rfl (by kernel_rfl) (by kernel_rfl) (by kernel_rfl) (fun _ _ _ h => h) (Or.inl ⟨by rfl, ?_⟩) (by assumption) ?_
        rotate_left
        · (intro W hSw; (try dsimp only at hSw); go_simp; (try with_reducible rfl))
        (try simp only [Act.put, List.setIfInBounds_toArray, List.set_cons_zero, List.set_cons_succ])
        refine Walk.take (L := 21) (i := 9) (oi := { dst := some 36, op := Go.Op.load 81 (Go.Operand.tmp 3), type := 81, pos := "ref.go:105", after := #[], guard := none }) (v := ?_) 9 (by kernel_rfl) (by kernel_rfl) (by kernel_rfl) rfl (by kernel_rfl) (by kernel_rfl) (by kernel_rfl) (fun _ _ _ h => h) (Or.inl ⟨by rfl, ?_⟩) (by assumption) ?_
        rotate_left
        · (intro W hSw; (try dsimp only at hSw); go_simp; (try with_reducible rfl))
        (try simp only [Act.put, List.setIfInBounds_toArray, List.set_cons_zero, List.set_cons_succ])
        refine Walk.take (L := 21) (i := 12) (oi := { dst := some 39, op := Go.Op.move (Go.Operand.tmp 0), type := 26, pos := "ref.go:105", after := #[], guard := none }) (v := ?_) 12 (by kernel_rfl) (by kernel_rfl) (by kernel_rfl) rfl (by kernel_rfl) (by kernel_rfl) (by kernel_rfl) (fun _ _ _ h => h) (Or.inl ⟨by rfl, ?_⟩) (by assumption) ?_
        rotate_left
        · (intro W hSw; (try dsimp only at hSw); go_simp; (try with_reducible rfl))
        (try simp only [Act.put, List.setIfInBounds_toArray, List.set_cons_zero, List.set_cons_succ])
        refine Walk.take (L := 21) (i := 13) (oi := { dst := some 40, op := Go.Op.nilCheck (Go.Operand.tmp 39), type := 0, pos := "ref.go:105", after := #[{ on := 12, ground := Go.Ground.data }], guard := none }) (v := ?_) 13 (by kernel_rfl) (by kernel_rfl) (by kernel_rfl) rfl (by kernel_rfl) (by kernel_rfl) (by kernel_rfl) (fun _ _ _ h => h) (Or.inl ⟨by rfl, ?_⟩) (by assumption) ?_
        rotate_left
        · (intro W hSw; (try dsimp only at hSw); go_simp; (try with_reducible rfl))
        (try simp only [Act.put, List.setIfInBounds_toArray, List.set_cons_zero, List.set_cons_succ])
        refine Walk.take (L := 21) (i := 14) (oi := { dst := some 41, op := Go.Op.fieldAddr 51 (Go.Operand.tmp 40) 1, type := 0, pos := "ref.go:105", after := #[{ on := 13, ground := Go.Ground.data }], guard := none }) (v := ?_) 14 (by kernel_rfl) (by kernel_rfl) (by kernel_rfl) rfl (by kernel_rfl) (by kernel_rfl) (by kernel_rfl) (fun _ _ _ h => h) (Or.inl ⟨by rfl, ?_⟩) (by assumption) ?_
        rotate_left
        · (intro W hSw; (try dsimp only at hSw); go_simp; (try with_reducible rfl))
        (try simp only [Act.put, List.setIfInBounds_toArray, List.set_cons_zero, List.set_cons_succ])
        refine Walk.take (L := 21) (i := 15) (oi := { dst := some 42, op := Go.Op.load 49 (Go.Operand.tmp 41), type := 49, pos := "ref.go:105", after := #[{ on := 14, ground := Go.Ground.data }], guard := none }) (v := ?_) 15 (by kernel_rfl) (by kernel_rfl) (by kernel_rfl) rfl (by kernel_rfl) (by kernel_rfl) (by kernel_rfl) (fun _ _ _ h => h) (Or.inl ⟨by rfl, ?_⟩) (by assumption) ?_
        rotate_left
        · (intro W hSw; (try dsimp only at hSw); go_simp; (try with_reducible rfl))
        (try simp only [Act.put, List.setIfInBounds_toArray, List.set_cons_zero, List.set_cons_succ])
        refine Walk.take (L := 21) (i := 16) (oi := { dst := some 43, op := Go.Op.move (Go.Operand.tmp 4), type := 3, pos := "ref.go:105", after := #[], guard := none }) (v := ?_) 16 (by kernel_rfl) (by kernel_rfl) (by kernel_rfl) rfl (by kernel_rfl) (by kernel_rfl) (by kernel_rfl) (fun _ _ _ h => h) (Or.inl ⟨by rfl, ?_⟩) (by assumption) ?_
        rotate_left
        · (intro W hSw; (try dsimp only at hSw); go_simp; (try with_reducible rfl))
        (try simp only [Act.put, List.setIfInBounds_toArray, List.set_cons_zero, List.set_cons_succ])
        refine Walk.take (L := 21) (i := 17) (oi := { dst := some 44, op := Go.Op.slice 49 (Go.Operand.tmp 42) (some (Go.Operand.tmp 43)) none none, type := 49, pos := "ref.go:105", after := #[{ on := 15, ground := Go.Ground.data }, { on := 16, ground := Go.Ground.data }], guard := none }) (v := ?_) 17 (by kernel_rfl) (by kernel_rfl) (by kernel_rfl) rfl (by kernel_rfl) (by kernel_rfl) (by kernel_rfl) (fun _ _ _ h => h) (Or.inl ⟨by rfl, ?_⟩) (by assumption) ?_
        rotate_left
        · (intro W hSw; (try dsimp only at hSw); go_simp; (try with_reducible rfl))
        (try simp only [Act.put, List.setIfInBounds_toArray, List.set_cons_zero, List.set_cons_succ])
        refine Walk.each (rs := [1, 10]) (by kernel_rfl) (by simp) ?_
        intro i hi
        simp only [List.mem_cons, List.not_mem_nil, or_false] at hi
        rcases hi with rfl | rfl
        · refine Walk.step (L := 21) rfl (fun K hK => ?_)
          go_simp
          refine hK.out _ _ (fun _ => LS.out _ ((Kept.refl [] w2).alloc _).drew) (fun hH => ?_)
          have hHeld := hH (by decide)
          clear hH hK K
          (try simp only [Act.put, List.setIfInBounds_toArray, List.set_cons_zero, List.set_cons_succ])
          refine Walk.each (rs := [8, 10]) (by kernel_rfl) (by simp) ?_
          intro i hi
          simp only [List.mem_cons, List.not_mem_nil, or_false] at hi
          rcases hi with rfl | rfl
          · refine Walk.step (L := 21) rfl (fun K hK => ?_)
            refine step_appendF _ rfl (.tmp 28) (.tmp 34) rfl (.slice (some ⟨w2.heap.size, 0, none⟩) 0 0) (.slice a k cap) [] (fs.take k) rfl O3.out rfl (FACT.out _ Q3.out).2.2.1 (by have q := LEN.out; rw [List.length_nil, q.1]; omega) ?_
            intro v3 w3 r3 k3 n3
            have P3 := hide (keptNewF Q3.out N2.out k3 n3)
            have R3 := hide r3
            clear r3 k3 n3
            refine hK.out _ _ (fun _ => LS.out _ P3.out.1) (fun hH => ?_)
            have hHeld := hH (by decide)
            clear hH hK K
            (try simp only [Act.put, List.setIfInBounds_toArray, List.set_cons_zero, List.set_cons_succ])
            refine Walk.each (rs := [10]) (by kernel_rfl) (by simp) ?_
            intro i hi
            obtain rfl : i = 10 := by simpa using hi
            refine Walk.step (L := 21) rfl (fun K hK => ?_)
            go_simp
            refine hK.out _ _ (fun _ => LS.out _ (P3.out.1.alloc _)) (fun hH => ?_)
            have hHeld := hH (by decide)
            clear hH hK K
            (try simp only [Act.put, List.setIfInBounds_toArray, List.set_cons_zero, List.set_cons_succ])
            refine Walk.each (rs := [11]) (by kernel_rfl) (by simp) ?_
            intro i hi
            obtain rfl : i = 11 := by simpa using hi
            refine Walk.step (L := 21) rfl (fun K hK => ?_)
            refine step_appendF _ rfl (.tmp 35) (.tmp 37) rfl v3 (.slice (some ⟨w3.heap.size, 0, none⟩) 1 1) ([] ++ fs.take k) [F] rfl (World.ownsRow.alloc R3.out (Obj.cells #[Value.string nm, Value.slice a1 n1 p1, Value.slice a2 n2 p2] 81)) rfl (SF.out _ _ (heap_alloc_new w3 _)) (by have q := LEN.out; rw [List.length_append, List.length_nil, q.1, List.length_singleton]; omega) ?_
            intro v4 w4 r4 k4 n4
            have P4 := hide (keptNewF (P3.out.1.alloc (Obj.cells #[Value.string nm, Value.slice a1 n1 p1, Value.slice a2 n2 p2] 81)) P3.out.2 k4 n4)
            have R4 := hide r4
            clear r4 k4 n4
            refine hK.out _ _ (fun _ => LS.out _ P4.out.1) (fun hH => ?_)
            have hHeld := hH (by decide)
            clear hH hK K
            (try simp only [Act.put, List.setIfInBounds_toArray, List.set_cons_zero, List.set_cons_succ])
            refine Walk.each (rs := [18]) (by kernel_rfl) (by simp) ?_
            intro i hi
            obtain rfl : i = 18 := by simpa using hi
            refine Walk.step (L := 21) rfl (fun K hK => ?_)
            refine step_appendF _ rfl (.tmp 38) (.tmp 44) rfl v4 (.slice dp m1 cp1) ([] ++ fs.take k ++ [F]) (fs.drop k) rfl R4.out rfl (FACT.out _ P4.out.1).2.2.2 (by have q := LEN.out; rw [List.length_append, List.length_append, List.length_nil, q.1, q.2.1, List.length_singleton]; omega) ?_
            intro v5 w5 r5 k5 n5
            have P5 := hide (keptNewF P4.out.1 P4.out.2 k5 n5)
            have k6 := (FACT.out _ P5.out.1).1
            have z6 := (FACT.out _ P5.out.1).2.1
            obtain ⟨a5, p5, e5⟩ := r5.formN HL9.out
            subst e5
            have R5 := hide r5
            clear r5 k5 n5
            refine hK.out _ _ (fun _ => LS.out _ P5.out.1) (fun hH => ?_)
            have hHeld := hH (by decide)
            clear hH hK K
            (try simp only [Act.put, List.setIfInBounds_toArray, List.set_cons_zero, List.set_cons_succ])
            refine Walk.take (L := 21) (i := 19) (oi := { dst := some 46, op := Go.Op.nilCheck (Go.Operand.tmp 27), type := 0, pos := "ref.go:105", after := #[{ on := 0, ground := Go.Ground.data }, { on := 0, ground := Go.Ground.phase }, { on := 1, ground := Go.Ground.phase }, { on := 2, ground := Go.Ground.phase }, { on := 3, ground := Go.Ground.phase }, { on := 4, ground := Go.Ground.phase }, { on := 5, ground := Go.Ground.phase }, { on := 6, ground := Go.Ground.phase }, { on := 7, ground := Go.Ground.phase }, { on := 8, ground := Go.Ground.phase }, { on := 9, ground := Go.Ground.phase }, { on := 10, ground := Go.Ground.phase }, { on := 11, ground := Go.Ground.phase }, { on := 12, ground := Go.Ground.phase }, { on := 13, ground := Go.Ground.phase }, { on := 14, ground := Go.Ground.phase }, { on := 15, ground := Go.Ground.phase }, { on := 16, ground := Go.Ground.phase }, { on := 17, ground := Go.Ground.phase }, { on := 18, ground := Go.Ground.phase }], guard := none }) (v := ?_) 20 (by kernel_rfl) (by kernel_rfl) (by kernel_rfl) rfl (by kernel_rfl) (by kernel_rfl) (by kernel_rfl) (fun _ _ _ h => h) (Or.inl ⟨by rfl, ?_⟩) (by assumption) ?_
            rotate_left
            · (intro W hSw; (try dsimp only at hSw); go_simp; (try with_reducible rfl))
            (try simp only [Act.put, List.setIfInBounds_toArray, List.set_cons_zero, List.set_cons_succ])
            refine Walk.take (L := 21) (i := 20) (oi := { dst := some 47, op := Go.Op.fieldAddr 51 (Go.Operand.tmp 46) 1, type := 0, pos := "ref.go:105", after := #[{ on := 19, ground := Go.Ground.data }, { on := 0, ground := Go.Ground.phase }, { on := 1, ground := Go.Ground.phase }, { on := 2, ground := Go.Ground.phase }, { on := 3, ground := Go.Ground.phase }, { on := 4, ground := Go.Ground.phase }, { on := 5, ground := Go.Ground.phase }, { on := 6, ground := Go.Ground.phase }, { on := 7, ground := Go.Ground.phase }, { on := 8, ground := Go.Ground.phase }, { on := 9, ground := Go.Ground.phase }, { on := 10, ground := Go.Ground.phase }, { on := 11, ground := Go.Ground.phase }, { on := 12, ground := Go.Ground.phase }, { on := 13, ground := Go.Ground.phase }, { on := 14, ground := Go.Ground.phase }, { on := 15, ground := Go.Ground.phase }, { on := 16, ground := Go.Ground.phase }, { on := 17, ground := Go.Ground.phase }, { on := 18, ground := Go.Ground.phase }], guard := none }) (v := ?_) 20 (by kernel_rfl) (by kernel_rfl) (by kernel_rfl) rfl (by kernel_rfl) (by kernel_rfl) (by kernel_rfl) (fun _ _ _ h => h) (Or.inl ⟨by rfl, ?_⟩) (by assumption) ?_
            rotate_left
            · (intro W hSw; (try dsimp only at hSw); go_simp; (try with_reducible rfl))
            (try simp only [Act.put, List.setIfInBounds_toArray, List.set_cons_zero, List.set_cons_succ])
            refine Walk.each (rs := [21]) (by kernel_rfl) (by simp) ?_
            intro i hi
            obtain rfl : i = 21 := by simpa using hi
            refine Walk.step (L := 21) rfl (fun K hK => ?_)
            go_simp
            refine hK.out _ _ (fun h => absurd rfl h) (fun hH => ?_)
            clear hH hK K
            (try simp only [Act.put, List.setIfInBounds_toArray, List.set_cons_zero, List.set_cons_succ])
            refine Walk.done (by kernel_rfl) ?_ _
            go_end0
            exact ⟨rfl, FIN.out a5 p5 w5 R5.out P5.out⟩
          · refine Walk.step (L := 21) rfl (fun K hK => ?_)
            go_simp
            refine hK.out _ _ (fun _ => LS.out _ (((Kept.refl [] w2).alloc _).alloc _).drew) (fun hH => ?_)
            have hHeld := hH (by decide)
            clear hH hK K
            (try simp only [Act.put, List.setIfInBounds_toArray, List.set_cons_zero, List.set_cons_succ])
            refine Walk.each (rs := [8]) (by kernel_rfl) (by simp) ?_
            intro i hi
            obtain rfl : i = 8 := by simpa using hi
            refine Walk.step (L := 21) rfl (fun K hK => ?_)
            refine step_appendF _ rfl (.tmp 28) (.tmp 34) rfl (.slice (some ⟨w2.heap.size, 0, none⟩) 0 0) (.slice a k cap) [] (fs.take k) rfl O2.out rfl (FACT.out _ Q2.out).2.2.1 (by have q := LEN.out; rw [List.length_nil, q.1]; omega) ?_
            intro v3 w3 r3 k3 n3
            have P3 := hide (keptNewF Q2.out N2.out k3 n3)
            have S3 := hide (k3.heapAt SB2.out (by simp [own, Value.ownBlock]))
            have R3 := hide r3
            clear r3 k3 n3
            refine hK.out _ _ (fun _ => LS.out _ P3.out.1) (fun hH => ?_)
            have hHeld := hH (by decide)
            clear hH hK K
            (try simp only [Act.put, List.setIfInBounds_toArray, List.set_cons_zero, List.set_cons_succ])
            refine Walk.each (rs := [11]) (by kernel_rfl) (by simp) ?_
            intro i hi
            obtain rfl : i = 11 := by simpa using hi
            refine Walk.step (L := 21) rfl (fun K hK => ?_)
            refine step_appendF _ rfl (.tmp 35) (.tmp 37) rfl v3 (.slice (some ⟨w2.heap.size + 1, 0, none⟩) 1 1) ([] ++ fs.take k) [F] rfl R3.out rfl (SF.out _ _ S3.out) (by have q := LEN.out; rw [List.length_append, List.length_nil, q.1, List.length_singleton]; omega) ?_
            intro v4 w4 r4 k4 n4
            have P4 := hide (keptNewF P3.out.1 P3.out.2 k4 n4)
            have R4 := hide r4
            clear r4 k4 n4
            refine hK.out _ _ (fun _ => LS.out _ P4.out.1) (fun hH => ?_)
            have hHeld := hH (by decide)
            clear hH hK K
            (try simp only [Act.put, List.setIfInBounds_toArray, List.set_cons_zero, List.set_cons_succ])
            refine Walk.each (rs := [18]) (by kernel_rfl) (by simp) ?_
            intro i hi
            obtain rfl : i = 18 := by simpa using hi
            refine Walk.step (L := 21) rfl (fun K hK => ?_)
            refine step_appendF _ rfl (.tmp 38) (.tmp 44) rfl v4 (.slice dp m1 cp1) ([] ++ fs.take k ++ [F]) (fs.drop k) rfl R4.out rfl (FACT.out _ P4.out.1).2.2.2 (by have q := LEN.out; rw [List.length_append, List.length_append, List.length_nil, q.1, q.2.1, List.length_singleton]; omega) ?_
            intro v5 w5 r5 k5 n5
            have P5 := hide (keptNewF P4.out.1 P4.out.2 k5 n5)
            have k6 := (FACT.out _ P5.out.1).1
            have z6 := (FACT.out _ P5.out.1).2.1
            obtain ⟨a5, p5, e5⟩ := r5.formN HL9.out
            subst e5
            have R5 := hide r5
            clear r5 k5 n5
            refine hK.out _ _ (fun _ => LS.out _ P5.out.1) (fun hH => ?_)
            have hHeld := hH (by decide)
            clear hH hK K
            (try simp only [Act.put, List.setIfInBounds_toArray, List.set_cons_zero, List.set_cons_succ])
            refine Walk.take (L := 21) (i := 19) (oi := { dst := some 46, op := Go.Op.nilCheck (Go.Operand.tmp 27), type := 0, pos := "ref.go:105", after := #[{ on := 0, ground := Go.Ground.data }, { on := 0, ground := Go.Ground.phase }, { on := 1, ground := Go.Ground.phase }, { on := 2, ground := Go.Ground.phase }, { on := 3, ground := Go.Ground.phase }, { on := 4, ground := Go.Ground.phase }, { on := 5, ground := Go.Ground.phase }, { on := 6, ground := Go.Ground.phase }, { on := 7, ground := Go.Ground.phase }, { on := 8, ground := Go.Ground.phase }, { on := 9, ground := Go.Ground.phase }, { on := 10, ground := Go.Ground.phase }, { on := 11, ground := Go.Ground.phase }, { on := 12, ground := Go.Ground.phase }, { on := 13, ground := Go.Ground.phase }, { on := 14, ground := Go.Ground.phase }, { on := 15, ground := Go.Ground.phase }, { on := 16, ground := Go.Ground.phase }, { on := 17, ground := Go.Ground.phase }, { on := 18, ground := Go.Ground.phase }], guard := none }) (v := ?_) 20 (by kernel_rfl) (by kernel_rfl) (by kernel_rfl) rfl (by kernel_rfl) (by kernel_rfl) (by kernel_rfl) (fun _ _ _ h => h) (Or.inl ⟨by rfl, ?_⟩) (by assumption) ?_
            rotate_left
            · (intro W hSw; (try dsimp only at hSw); go_simp; (try with_reducible rfl))
            (try simp only [Act.put, List.setIfInBounds_toArray, List.set_cons_zero, List.set_cons_succ])
            refine Walk.take (L := 21) (i := 20) (oi := { dst := some 47, op := Go.Op.fieldAddr 51 (Go.Operand.tmp 46) 1, type := 0, pos := "ref.go:105", after := #[{ on := 19, ground := Go.Ground.data }, { on := 0, ground := Go.Ground.phase }, { on := 1, ground := Go.Ground.phase }, { on := 2, ground := Go.Ground.phase }, { on := 3, ground := Go.Ground.phase }, { on := 4, ground := Go.Ground.phase }, { on := 5, ground := Go.Ground.phase }, { on := 6, ground := Go.Ground.phase }, { on := 7, ground := Go.Ground.phase }, { on := 8, ground := Go.Ground.phase }, { on := 9, ground := Go.Ground.phase }, { on := 10, ground := Go.Ground.phase }, { on := 11, ground := Go.Ground.phase }, { on := 12, ground := Go.Ground.phase }, { on := 13, ground := Go.Ground.phase }, { on := 14, ground := Go.Ground.phase }, { on := 15, ground := Go.Ground.phase }, { on := 16, ground := Go.Ground.phase }, { on := 17, ground := Go.Ground.phase }, { on := 18, ground := Go.Ground.phase }], guard := none }) (v := ?_) 20 (by kernel_rfl) (by kernel_rfl) (by kernel_rfl) rfl (by kernel_rfl) (by kernel_rfl) (by kernel_rfl) (fun _ _ _ h => h) (Or.inl ⟨by rfl, ?_⟩) (by assumption) ?_
            rotate_left
            · (intro W hSw; (try dsimp only at hSw); go_simp; (try with_reducible rfl))
            (try simp only [Act.put, List.setIfInBounds_toArray, List.set_cons_zero, List.set_cons_succ])
            refine Walk.each (rs := [21]) (by kernel_rfl) (by simp) ?_
            intro i hi
            obtain rfl : i = 21 := by simpa using hi
            refine Walk.step (L := 21) rfl (fun K hK => ?_)
            go_simp
            refine hK.out _ _ (fun h => absurd rfl h) (fun hH => ?_)
            clear hH hK K
            (try simp only [Act.put, List.setIfInBounds_toArray, List.set_cons_zero, List.set_cons_succ])
            refine Walk.done (by kernel_rfl) ?_ _
            go_end0
            exact ⟨rfl, FIN.out a5 p5 w5 R5.out P5.out⟩
        · refine Walk.step (L := 21) rfl (fun K hK => ?_)
          go_simp
          refine hK.out _ _ (fun _ => LS.out _ ((Kept.refl [] w2).alloc _).drew) (fun hH => ?_)
          have hHeld := hH (by decide)
          clear hH hK K
          (try simp only [Act.put, List.setIfInBounds_toArray, List.set_cons_zero, List.set_cons_succ])
          refine Walk.each (rs := [1]) (by kernel_rfl) (by simp) ?_
          intro i hi
          obtain rfl : i = 1 := by simpa using hi
          refine Walk.step (L := 21) rfl (fun K hK => ?_)
          go_simp
          refine hK.out _ _ (fun _ => LS.out _ (((Kept.refl [] w2).alloc _).alloc _).drew) (fun hH => ?_)
          have hHeld := hH (by decide)
          clear hH hK K
          (try simp only [Act.put, List.setIfInBounds_toArray, List.set_cons_zero, List.set_cons_succ])
          refine Walk.each (rs := [8]) (by kernel_rfl) (by simp) ?_
          intro i hi
          obtain rfl : i = 8 := by simpa using hi
          refine Walk.step (L := 21) rfl (fun K hK => ?_)
          refine step_appendF _ rfl (.tmp 28) (.tmp 34) rfl (.slice (some ⟨w2.heap.size + 1, 0, none⟩) 0 0) (.slice a k cap) [] (fs.take k) rfl O1.out rfl (FACT.out _ Q1.out).2.2.1 (by have q := LEN.out; rw [List.length_nil, q.1]; omega) ?_
          intro v3 w3 r3 k3 n3
          have P3 := hide (keptNewF Q1.out N1.out k3 n3)
          have S3 := hide (k3.heapAt SB1.out (by simp [own, Value.ownBlock]))
          have R3 := hide r3
          clear r3 k3 n3
          refine hK.out _ _ (fun _ => LS.out _ P3.out.1) (fun hH => ?_)
          have hHeld := hH (by decide)
          clear hH hK K
          (try simp only [Act.put, List.setIfInBounds_toArray, List.set_cons_zero, List.set_cons_succ])
          refine Walk.each (rs := [11]) (by kernel_rfl) (by simp) ?_
          intro i hi
          obtain rfl : i = 11 := by simpa using hi
          refine Walk.step (L := 21) rfl (fun K hK => ?_)
          refine step_appendF _ rfl (.tmp 35) (.tmp 37) rfl v3 (.slice (some ⟨w2.heap.size, 0, none⟩) 1 1) ([] ++ fs.take k) [F] rfl R3.out rfl (SF.out _ _ S3.out) (by have q := LEN.out; rw [List.length_append, List.length_nil, q.1, List.length_singleton]; omega) ?_
          intro v4 w4 r4 k4 n4
          have P4 := hide (keptNewF P3.out.1 P3.out.2 k4 n4)
          have R4 := hide r4
          clear r4 k4 n4
          refine hK.out _ _ (fun _ => LS.out _ P4.out.1) (fun hH => ?_)
          have hHeld := hH (by decide)
          clear hH hK K
          (try simp only [Act.put, List.setIfInBounds_toArray, List.set_cons_zero, List.set_cons_succ])
          refine Walk.each (rs := [18]) (by kernel_rfl) (by simp) ?_
          intro i hi
          obtain rfl : i = 18 := by simpa using hi
          refine Walk.step (L := 21) rfl (fun K hK => ?_)
          refine step_appendF _ rfl (.tmp 38) (.tmp 44) rfl v4 (.slice dp m1 cp1) ([] ++ fs.take k ++ [F]) (fs.drop k) rfl R4.out rfl (FACT.out _ P4.out.1).2.2.2 (by have q := LEN.out; rw [List.length_append, List.length_append, List.length_nil, q.1, q.2.1, List.length_singleton]; omega) ?_
          intro v5 w5 r5 k5 n5
          have P5 := hide (keptNewF P4.out.1 P4.out.2 k5 n5)
          have k6 := (FACT.out _ P5.out.1).1
          have z6 := (FACT.out _ P5.out.1).2.1
          obtain ⟨a5, p5, e5⟩ := r5.formN HL9.out
          subst e5
          have R5 := hide r5
          clear r5 k5 n5
          refine hK.out _ _ (fun _ => LS.out _ P5.out.1) (fun hH => ?_)
          have hHeld := hH (by decide)
          clear hH hK K
          (try simp only [Act.put, List.setIfInBounds_toArray, List.set_cons_zero, List.set_cons_succ])
          refine Walk.take (L := 21) (i := 19) (oi := { dst := some 46, op := Go.Op.nilCheck (Go.Operand.tmp 27), type := 0, pos := "ref.go:105", after := #[{ on := 0, ground := Go.Ground.data }, { on := 0, ground := Go.Ground.phase }, { on := 1, ground := Go.Ground.phase }, { on := 2, ground := Go.Ground.phase }, { on := 3, ground := Go.Ground.phase }, { on := 4, ground := Go.Ground.phase }, { on := 5, ground := Go.Ground.phase }, { on := 6, ground := Go.Ground.phase }, { on := 7, ground := Go.Ground.phase }, { on := 8, ground := Go.Ground.phase }, { on := 9, ground := Go.Ground.phase }, { on := 10, ground := Go.Ground.phase }, { on := 11, ground := Go.Ground.phase }, { on := 12, ground := Go.Ground.phase }, { on := 13, ground := Go.Ground.phase }, { on := 14, ground := Go.Ground.phase }, { on := 15, ground := Go.Ground.phase }, { on := 16, ground := Go.Ground.phase }, { on := 17, ground := Go.Ground.phase }, { on := 18, ground := Go.Ground.phase }], guard := none }) (v := ?_) 20 (by kernel_rfl) (by kernel_rfl) (by kernel_rfl) rfl (by kernel_rfl) (by kernel_rfl) (by kernel_rfl) (fun _ _ _ h => h) (Or.inl ⟨by rfl, ?_⟩) (by assumption) ?_
          rotate_left
          · (intro W hSw; (try dsimp only at hSw); go_simp; (try with_reducible rfl))
          (try simp only [Act.put, List.setIfInBounds_toArray, List.set_cons_zero, List.set_cons_succ])
          refine Walk.take (L := 21) (i := 20) (oi := { dst := some 47, op := Go.Op.fieldAddr 51 (Go.Operand.tmp 46) 1, type := 0, pos := "ref.go:105", after := #[{ on := 19, ground := Go.Ground.data }, { on := 0, ground := Go.Ground.phase }, { on := 1, ground := Go.Ground.phase }, { on := 2, ground := Go.Ground.phase }, { on := 3, ground := Go.Ground.phase }, { on := 4, ground := Go.Ground.phase }, { on := 5, ground := Go.Ground.phase }, { on := 6, ground := Go.Ground.phase }, { on := 7, ground := Go.Ground.phase }, { on := 8, ground := Go.Ground.phase }, { on := 9, ground := Go.Ground.phase }, { on := 10, ground := Go.Ground.phase }, { on := 11, ground := Go.Ground.phase }, { on := 12, ground := Go.Ground.phase }, { on := 13, ground := Go.Ground.phase }, { on := 14, ground := Go.Ground.phase }, { on := 15, ground := Go.Ground.phase }, { on := 16, ground := Go.Ground.phase }, { on := 17, ground := Go.Ground.phase }, { on := 18, ground := Go.Ground.phase }], guard := none }) (v := ?_) 20 (by kernel_rfl) (by kernel_rfl) (by kernel_rfl) rfl (by kernel_rfl) (by kernel_rfl) (by kernel_rfl) (fun _ _ _ h => h) (Or.inl ⟨by rfl, ?_⟩) (by assumption) ?_
          rotate_left
          · (intro W hSw; (try dsimp only at hSw); go_simp; (try with_reducible rfl))
          (try simp only [Act.put, List.setIfInBounds_toArray, List.set_cons_zero, List.set_cons_succ])
          refine Walk.each (rs := [21]) (by kernel_rfl) (by simp) ?_
          intro i hi
          obtain rfl : i = 21 := by simpa using hi
          refine Walk.step (L := 21) rfl (fun K hK => ?_)
          go_simp
          refine hK.out _ _ (fun h => absurd rfl h) (fun hH => ?_)
          clear hH hK K
          (try simp only [Act.put, List.setIfInBounds_toArray, List.set_cons_zero, List.set_cons_succ])
          refine Walk.done (by kernel_rfl) ?_ _
          go_end0
          exact ⟨rfl, FIN.out a5 p5 w5 R5.out P5.out⟩
end

end Go.Proofs.Ytahhokhhgamelaa

namespace Go.Proofs.Ytahhokhhgamelaa
open Go.RowKit Go.Maps Go.Sort Go.Shelf

theorem rcells_set1 (fs : List Rf) (i : Nat) (h : i < fs.length) (v : Value) : (rcells fs).set (i * 3 + 1) v = rcells (fs.set i (fs[i].1, v, fs[i].2.2)) := by
  induction fs generalizing i with
  | nil => simp at h
  | cons f fs ih =>
    have e : ∀ (g : Rf) (gs : List Rf), rcells (g :: gs) = .string g.1 :: g.2.1 :: g.2.2 :: rcells gs := fun _ _ => rfl
    cases i with
    | zero => simp [e]
    | succ i =>
      have h' : i < fs.length := by simpa using h
      rw [e, show (i + 1) * 3 + 1 = i * 3 + 1 + 1 + 1 + 1 by omega, List.set_cons_succ, List.set_cons_succ, List.set_cons_succ, ih i h', List.set_cons_succ, e]
      rfl
theorem rcells_set2 (fs : List Rf) (i : Nat) (h : i < fs.length) (v : Value) : (rcells fs).set (i * 3 + 2) v = rcells (fs.set i (fs[i].1, fs[i].2.1, v)) := by
  induction fs generalizing i with
  | nil => simp at h
  | cons f fs ih =>
    have e : ∀ (g : Rf) (gs : List Rf), rcells (g :: gs) = .string g.1 :: g.2.1 :: g.2.2 :: rcells gs := fun _ _ => rfl
    cases i with
    | zero => simp [e]
    | succ i =>
      have h' : i < fs.length := by simpa using h
      rw [e, show (i + 1) * 3 + 2 = i * 3 + 2 + 1 + 1 + 1 by omega, List.set_cons_succ, List.set_cons_succ, List.set_cons_succ, ih i h', List.set_cons_succ, e]
      rfl

theorem RowB.storedR {w : World} {g n cap : Nat} {bs : List Int} (h : RowB w (.slice (some ⟨g, 0, none⟩) n cap) bs) (j : Nat) (z : Int) (hz : 0 ≤ z ∧ z ≤ 255) : RowB (w.setCell ⟨g, j, none⟩ (.int .u8 z)) (.slice (some ⟨g, 0, none⟩) n cap) (bs.set j z) := by
  have hn : n = bs.length := by
    rcases h.form with ⟨e, _⟩ | ⟨g', cap', e, _⟩
    · cases e
    · cases e
      rfl
  subst hn
  obtain ⟨h1, h2⟩ := h
  have hs := (World.ownsRow.stored h1 j (.int .u8 z)).1
  rw [← List.map_set] at hs
  refine ⟨by simpa using hs, fun x hx => ?_⟩
  rcases List.mem_or_eq_of_mem_set hx with u | u
  · exact h2 x u
  · rw [u]; exact hz

section
variable {w : World} {r : Nat} {lv kv : Value} {fs : List Rf} {l : List Ab} {ks : List Bool} {room ops armed : Int} {down : Bool}

/-- A file's bytes are others. -/
theorem RefAt.setF (h : RefAt w r lv kv fs l ks room ops armed down) {g n cap : Nat} (e : lv = .slice (some ⟨g, 0, none⟩) n cap) (i c : Nat) (v : Value) (f' : Rf) (x' : Ab)
    (hc : (rcells fs).set (i * 3 + c) v = rcells (fs.set i f')) (hx : isF w f' x') (hlow : ∀ z ∈ own f'.2.1 ++ own f'.2.2, z < w.heap.size ∧ z ∉ r :: own lv) :
    RefAt (w.setCell ⟨g, i * 3 + c, none⟩ v) r lv kv (fs.set i f') (l.set i x') ks room ops armed down ∧ Kept (own lv) w (w.setCell ⟨g, i * 3 + c, none⟩ v) := by
  have hg : g ∈ own lv := by rw [e]; simp [own, Value.ownBlock]
  have hgr : g ≠ r := fun q => h.apart (q ▸ hg)
  have hlv : ∀ z ∈ own lv, z = g := fun z hz => by rw [e] at hz; simpa [own, Value.ownBlock] using hz
  have hk : Kept (own lv) w (w.setCell ⟨g, i * 3 + c, none⟩ v) := (Kept.refl _ w).setCell (p := ⟨g, i * 3 + c, none⟩) (.inl hg) _
  have hfr := h.free g (List.mem_cons_of_mem _ hg)
  have hsz : (w.setCell ⟨g, i * 3 + c, none⟩ v).heap.size = w.heap.size := by simp [World.setCell]
  refine ⟨⟨?_, ?_, ?_, ?_, ?_, h.apart, ?_, ?_⟩, hk⟩
  · rw [hk.block r (h.low r (by simp [rfeet])) h.apart]
    exact h.cells
  · have hrow := h.row
    rw [e] at hrow ⊢
    have hn : n = fs.length := by
      rcases h.form with ⟨q, _⟩ | ⟨g', cap', q⟩
      · rw [e] at q; cases q
      · rw [e] at q; simp only [Value.slice.injEq] at q; omega
    subst hn
    have := (World.ownsRow.stored hrow (i * 3 + c) v).1
    rw [hc] at this
    simpa using this
  · rw [List.length_set, List.length_set]; exact h.long
  · intro j h1 h2
    rw [List.length_set] at h1 h2
    by_cases hij : i = j
    · subst hij
      rw [List.getElem_set_self, List.getElem_set_self]
      exact hx.kept hk (fun y hy e2 => (hlow y hy).2 (List.mem_cons_of_mem _ e2))
    · rw [List.getElem_set_ne hij, List.getElem_set_ne hij]
      refine (h.files j h1 h2).kept hk (fun y hy e2 => ?_)
      have q := hlv y e2
      subst q
      have := hfr.2 _ (List.getElem_mem h1)
      rcases List.mem_append.1 hy with u | u
      · exact this.1 u
      · exact this.2 u
  · refine h.keep.kept hk (fun _ y hy e2 => ?_)
    have q := hlv y e2
    subst q
    exact hfr.1 hy
  · intro y hy
    rw [hsz]
    simp only [rfeet, List.mem_append, List.mem_flatMap] at hy
    rcases hy with (hy | hy) | ⟨f, hf, hy⟩
    · exact h.low y (by simp only [rfeet, List.mem_append]; exact .inl (.inl hy))
    · exact h.low y (by simp only [rfeet, List.mem_append]; exact .inl (.inr hy))
    · rcases List.mem_or_eq_of_mem_set hf with u | u
      · exact h.low y (by simp only [rfeet, List.mem_append, List.mem_flatMap]; exact .inr ⟨f, u, hy⟩)
      · rw [u] at hy
        exact (hlow y (List.mem_append.2 hy)).1
  · intro y hy
    refine ⟨(h.free y hy).1, fun f hf => ?_⟩
    rcases List.mem_or_eq_of_mem_set hf with u | u
    · exact (h.free y hy).2 f u
    · rw [u]
      exact ⟨fun q => (hlow y (List.mem_append.2 (.inl q))).2 hy, fun q => (hlow y (List.mem_append.2 (.inr q))).2 hy⟩
end

end Go.Proofs.Ytahhokhhgamelaa

namespace Go.Proofs.Ytahhokhhgamelaa
open Go.RowKit Go.Maps Go.Sort Go.Shelf

def zsR (m : Nat) : List Int := List.replicate m 0
theorem zsR_snoc (m : Nat) : zsR m ++ [0] = zsR (m + 1) := by simp [zsR, List.replicate_succ']
theorem zsR_length (m : Nat) : (zsR m).length = m := by simp [zsR]

/-- The bytes that are laid together: a row of its own, all of it new. -/
structure OutS (W0 wr : World) (v : Value) (bs : List Int) : Prop where
  row : RowB wr v bs
  fresh : ∀ x ∈ own v, W0.heap.size ≤ x
  kept : Kept [] W0 wr

theorem OutS.turn {W0 wr wm w3 : World} {v v3 : Value} {bs bs3 : List Int} (h : OutS W0 wr v bs) (hm : Kept [] wr wm) (r3 : RowB w3 v3 bs3) (k3 : Kept (own v) wm w3) (n3 : Newly wm (own v) (own v3)) : OutS W0 w3 v3 bs3 := by
  have q := h.kept.trans hm (Newly.refl _ _)
  refine ⟨r3, fun x hx => ?_, q.trans k3 (fun x hx => .inr (h.fresh x hx))⟩
  rcases n3 x hx with u | u
  · exact h.fresh x u
  · exact Nat.le_trans q.size u

theorem OutS.drewN {W0 wr : World} {v : Value} {bs : List Int} (h : OutS W0 wr v bs) (n : Nat) : OutS W0 (wr.drewN n) v bs := ⟨h.row, h.fresh, h.kept.drewN n⟩

theorem OutS.stored {W0 wr : World} {g n cap : Nat} {bs : List Int} (h : OutS W0 wr (.slice (some ⟨g, 0, none⟩) n cap) bs) (j : Nat) (z : Int) (hz : 0 ≤ z ∧ z ≤ 255) : OutS W0 (wr.setCell ⟨g, j, none⟩ (.int .u8 z)) (.slice (some ⟨g, 0, none⟩) n cap) (bs.set j z) :=
  ⟨h.row.storedR j z hz, h.fresh, h.kept.setCell (p := ⟨g, j, none⟩) (.inr (h.fresh g (by simp [own, Value.ownBlock]))) _⟩

theorem IsK.cellAt {w : World} {a : Option Addr} {n cap : Nat} {ks : List Bool} (h : IsK w (.slice a n cap) ks) (j : Nat) (hj : j < ks.length) : ∃ b off, a = some ⟨b, off, none⟩ ∧ w.cell? ⟨b, off + j, none⟩ = some (.bool (ks[j]?.getD false)) := by
  obtain ⟨a', cap', e, h1, h2, h3⟩ := h
  simp only [Value.slice.injEq] at e
  obtain ⟨rfl, rfl, rfl⟩ := e
  cases a with
  | none => rw [(h2 rfl).1] at hj; simp at hj
  | some x =>
    obtain ⟨b, off, spot⟩ := x
    have hc := h3 _ rfl 0 (by omega)
    have hspot : spot = none := by simpa [Addr.add] using World.cell?_spot hc
    subst hspot
    have := h3 _ rfl j hj
    rw [Addr.add_lit] at this
    exact ⟨b, off, rfl, this⟩

theorem one0R (w : World) : IsB (w.alloc (.cells #[.int .u8 0] 5)) (.slice (some ⟨w.heap.size, 0, none⟩) 1 1) [0] := by
  refine ⟨_, _, rfl, Nat.le_refl _, by simp, fun x hx j hj => ?_, by simp⟩
  simp only [Option.some.injEq] at hx
  subst hx
  rw [Addr.add_lit]
  have hj0 : j = 0 := by simpa using hj
  subst hj0
  exact cell_of_heap (heap_alloc_new w _) 0

theorem rowR_cell {w : World} {g n cap : Nat} {bs : List Int} (h : RowB w (.slice (some ⟨g, 0, none⟩) n cap) bs) (j : Nat) (hj : j < bs.length) : (∃ z, w.cell? ⟨g, j, none⟩ = some z) ∧ w.frozen? ⟨g, j, none⟩ = false := by
  have hn : n = bs.length := by
    rcases h.form with ⟨e, _⟩ | ⟨g', cap', e, _⟩
    · cases e
    · cases e
      rfl
  subst hn
  obtain ⟨h1, h2⟩ := h
  refine ⟨⟨.int .u8 bs[j], ?_⟩, World.ownsRow.frozenAt h1 j⟩
  rw [World.ownsRow.cellAt h1 j (by omega), List.getElem?_map, List.getElem?_eq_getElem hj]
  rfl

def lenR : Value → Nat | .slice _ l _ => l | _ => 0

/-- The bytes up to j are laid over. -/
def overTo (base now : List Int) (a j : Nat) : List Int := base.take a ++ (seg now a j ++ base.drop j)

theorem overTo_length (base now : List Int) (a j : Nat) (h1 : a ≤ j) (h2 : j ≤ base.length) (h3 : j ≤ now.length) : (overTo base now a j).length = base.length := by
  simp [overTo, seg]
  omega

theorem overTo_zero (base now : List Int) (a : Nat) : overTo base now a a = base := by simp [overTo, seg]

theorem overTo_step (base now : List Int) (a j : Nat) (h1 : a ≤ j) (h2 : j < base.length) (h3 : j < now.length) : (overTo base now a j).set j now[j] = overTo base now a (j + 1) := by
  have hl : (base.take a).length = a := by rw [List.length_take]; omega
  have hs := seg_length now a j (by omega)
  unfold overTo
  rw [List.set_append_right _ _ (by omega), hl, List.set_append_right _ _ (by omega), hs, Nat.sub_self, List.drop_eq_getElem_cons h2, List.set_cons_zero]
  have e : seg now a (j + 1) = seg now a j ++ [now[j]] := by
    unfold seg
    rw [show j + 1 - a = (j - a) + 1 by omega, List.take_add_one, List.getElem?_drop, show a + (j - a) = j by omega, List.getElem?_eq_getElem h3]
    rfl
  rw [e]
  simp

theorem overTo_end (rest now : List Int) (a en m : Nat) (hae : a ≤ en) (hen : en ≤ now.length) (hm : m = en - rest.length) : overTo (rest ++ zsR m) now a en = over rest a (seg now a en) := by
  have hs := seg_length now a en hen
  unfold overTo over zsR
  rw [hs, show a + (en - a) = en by omega, hm]

section
variable {w w' : World} {r i : Nat} {lv kv u : Value} {fs gs : List Rf} {l : List Ab} {ks0 ks : List Bool} {room ops armed : Int} {down : Bool}

/-- In the middle of Crash: the files up to i are torn. -/
structure CrR (w wr : World) (r : Nat) (lv kv : Value) (fs : List Rf) (l : List Ab) (ks0 ks : List Bool) (room ops : Int) (u : Value) (i : Nat) (gs : List Rf) : Prop where
  disk : RefAt wr r lv kv gs ((torn ks (l.take i) 0).1 ++ l.drop i) ks0 room ops 0 true
  kept : Kept (r :: own lv) w wr
  isk : IsK wr u ks
  new : ∀ f ∈ gs, ∀ x ∈ own f.2.1 ++ own f.2.2, x ∈ rfeet r lv kv fs ∨ w.heap.size ≤ x

theorem CrR.len (h : CrR w w' r lv kv fs l ks0 ks room ops u i gs) : gs.length = l.length := by
  have := h.disk.len
  rw [List.length_append, torn_length, List.length_take, List.length_drop] at this
  omega

theorem set_mid {α : Type} (A B : List α) (i : Nat) (hA : A.length = i) (hB : 0 < B.length) (y : α) : (A ++ B).set i y = A ++ y :: B.tail := by
  subst hA
  rw [List.set_append_right _ _ (Nat.le_refl _), Nat.sub_self]
  cases B with
  | nil => simp at hB
  | cons b B => rfl

theorem CrR.new' (h : CrR w w' r lv kv fs l ks0 ks room ops u i gs) : ∀ x ∈ own lv, x < w'.heap.size := fun x hx => h.disk.row_lt x (List.mem_cons_of_mem _ hx)

/-- The file's bytes are what is left. -/
theorem CrR.putNow (h : CrR w w' r lv kv fs l ks0 ks room ops u i gs) (hi : i < l.length) {wr : World} (q : Kept [] w' wr) {g n cap : Nat} (e : lv = .slice (some ⟨g, 0, none⟩) n cap) {vo : Value} {rest : List Int} (ro : RowB wr vo rest) (fr : ∀ x ∈ own vo, w'.heap.size ≤ x) (nm : List UInt8) (now syn : List Int) (t : ByteArray) (vn vs : Value) (hF : gs[i]'(by rw [h.len]; exact hi) = (t, vn, vs)) (hg : isF w' (t, vn, vs) (nm, now, syn)) :
    RefAt (wr.setCell ⟨g, i * 3 + 1, none⟩ vo) r lv kv (gs.set i (t, vo, vs)) ((torn ks (l.take i) 0).1 ++ (nm, rest, syn) :: l.drop (i + 1)) ks0 room ops 0 true ∧ Kept (own lv) wr (wr.setCell ⟨g, i * 3 + 1, none⟩ vo) := by
  have hd := h.disk.kept q (by simp)
  have hil : i < gs.length := by rw [h.len]; exact hi
  have hlow := h.disk.filesLow (t, vn, vs) (by rw [← hF]; exact List.getElem_mem hil)
  have hfree := fun y hy => (h.disk.free y hy).2 (t, vn, vs) (by rw [← hF]; exact List.getElem_mem hil)
  have hrl := h.disk.row_lt
  have hs := hd.setF e i 1 vo (t, vo, vs) (nm, rest, syn) (by rw [rcells_set1 gs i hil vo, hF]) ⟨hg.1, ro.isB, (hg.2.2).kept q (by simp)⟩ (fun z hz => by
    rcases List.mem_append.1 hz with u | u
    · exact ⟨ro.lt z u, fun e2 => by have := fr z u; have := hrl z e2; omega⟩
    · exact ⟨Nat.lt_of_lt_of_le (hlow z (List.mem_append.2 (.inr u))).1 q.size, fun e2 => (hfree z e2).2 u⟩)
  rw [set_mid _ _ i (by rw [torn_length, List.length_take]; omega) (by rw [List.length_drop]; omega), List.tail_drop] at hs
  exact hs

/-- .. and so are those that were synced. -/
theorem CrR.putSyn (h : CrR w w' r lv kv fs l ks0 ks room ops u i gs) (hi : i < l.length) {wr : World} (q : Kept [] w' wr) {g n cap : Nat} (e : lv = .slice (some ⟨g, 0, none⟩) n cap) {vo : Value} {rest : List Int} (ro : RowB wr vo rest) (fr : ∀ x ∈ own vo, w'.heap.size ≤ x) (nm : List UInt8) (now syn : List Int) (hx : l[i] = (nm, now, syn)) (t : ByteArray) (vn vs : Value) (hF : gs[i]'(by rw [h.len]; exact hi) = (t, vn, vs)) (hg : isF w' (t, vn, vs) (nm, now, syn)) (hux : ks ≠ [] → ∀ x ∈ own u, x ∉ r :: own lv)
    {w5 : World} {v5 : Value} (q5 : Kept [] (wr.setCell ⟨g, i * 3 + 1, none⟩ vo) w5) (r5 : RowB w5 v5 rest) (fr5 : ∀ x ∈ own v5, w'.heap.size ≤ x) (k : Nat) (ht : tearB ks now syn (torn ks (l.take i) 0).2 = (rest, k)) :
    CrR w (w5.setCell ⟨g, i * 3 + 2, none⟩ v5) r lv kv fs l ks0 ks room ops u (i + 1) (gs.set i (t, vo, v5)) ∧ (torn ks (l.take (i + 1)) 0).2 = k := by
  obtain ⟨d1, k1⟩ := h.putNow hi q e ro fr nm now syn t vn vs hF hg
  have hil : i < gs.length := by rw [h.len]; exact hi
  have hd := d1.kept q5 (by simp)
  have hrl := h.disk.row_lt
  have hs0 : (wr.setCell ⟨g, i * 3 + 1, none⟩ vo).heap.size = wr.heap.size := by simp [World.setCell]
  have hov : ∀ x ∈ own vo, x ∉ own lv := fun x hx e2 => by have := fr x hx; have := hrl x (List.mem_cons_of_mem _ e2); omega
  have ro5 : RowB w5 vo rest := (ro.kept k1 hov).kept q5 (by simp)
  have hil2 : i < (gs.set i (t, vo, vs)).length := by rw [List.length_set]; exact hil
  have hs := hd.setF e i 2 v5 (t, vo, v5) (nm, rest, rest) (by rw [rcells_set2 _ i hil2 v5]; simp) ⟨hg.1, ro5.isB, r5.isB⟩ (fun z hz => by
    rcases List.mem_append.1 hz with u | u
    · exact ⟨ro5.lt z u, fun e2 => by have := fr z u; have := hrl z e2; omega⟩
    · exact ⟨r5.lt z u, fun e2 => by have := fr5 z u; have := hrl z e2; omega⟩)
  rw [List.set_set, set_mid _ _ i (by rw [torn_length, List.length_take]; omega) (by simp), List.tail_cons] at hs
  have htk : l.take (i + 1) = l.take i ++ [l[i]] := by rw [List.take_add_one, List.getElem?_eq_getElem hi]; rfl
  have htn := torn_snoc ks (l.take i) l[i] 0
  rw [← htk] at htn
  rw [hx] at htn
  simp only [ht] at htn
  refine ⟨⟨?_, ?_, ?_, ?_⟩, by rw [htn]⟩
  · rw [htn]
    simpa using hs.1
  · have a1 : Kept (r :: own lv) w wr := h.kept.trans (q.mono (fp' := r :: own lv) (by simp)) (Newly.refl _ _)
    have a2 := a1.trans (k1.mono (fp' := r :: own lv) (fun x hx => List.mem_cons_of_mem _ hx)) (Newly.refl _ _)
    have a3 := a2.trans (q5.mono (fp' := r :: own lv) (by simp)) (Newly.refl _ _)
    exact a3.trans (hs.2.mono (fp' := r :: own lv) (fun x hx => List.mem_cons_of_mem _ hx)) (Newly.refl _ _)
  · have b1 := h.isk.kept q (by simp)
    have b2 := b1.kept k1 (fun hne x hx e2 => hux hne x hx (List.mem_cons_of_mem _ e2))
    have b3 := b2.kept q5 (by simp)
    exact b3.kept hs.2 (fun hne x hx e2 => hux hne x hx (List.mem_cons_of_mem _ e2))
  · intro f hf x hx2
    rcases List.mem_or_eq_of_mem_set hf with u | u
    · exact h.new f u x hx2
    · rw [u] at hx2
      rcases List.mem_append.1 hx2 with v | v
      · exact .inr (Nat.le_trans h.kept.size (fr x v))
      · exact .inr (Nat.le_trans h.kept.size (fr5 x v))

set_option maxRecDepth 100000 in
set_option maxHeartbeats 8000000 in
theorem refCrash_up (h : RefAt w r lv kv fs l ks0 room ops armed false) (u : Value) (ks : List Bool) (hu : IsK w u ks) (hux : ks ≠ [] → ∀ x ∈ own u, x ∉ r :: own lv) (hll : l.length ≤ 1048576) (hb : ∀ x ∈ l, x.2.1.length ≤ 1073741824 ∧ x.2.2.length ≤ x.2.1.length) (hus : usedB l ≤ 67108864) :
    Calls Try.prog 36 #[.pointer (some ⟨r, 0, none⟩), u] w fun e w' => e = .returned (.tuple #[]) ∧ ∃ fs', RefAt w' r lv kv fs' (torn ks l 0).1 ks0 room ops 0 true ∧ Kept (r :: own lv) w w' ∧ ∀ f ∈ fs', ∀ x ∈ own f.2.1 ++ own f.2.2, x ∈ rfeet r lv kv fs ∨ w.heap.size ≤ x := by
  obtain ⟨c0, c1, c2, c3, c4, c5⟩ := h.cellAt
  have hz3 := frozen_of_heap h.cells 3
  have hz5 := frozen_of_heap h.cells 5
  obtain ⟨W2, hW2⟩ : ∃ W2, W2 = (w.setCell ⟨r, 3, none⟩ (.int .i64 0)).setCell ⟨r, 5, none⟩ (.bool true) := ⟨_, rfl⟩
  have k2 : Kept [r] w W2 := by rw [hW2]; exact ((Kept.refl _ w).setCell (p := ⟨r, 3, none⟩) (.inl (by simp)) _).setCell (p := ⟨r, 5, none⟩) (.inl (by simp)) _
  have d2 : RefAt W2 r lv kv fs l ks0 room ops 0 true := by
    refine h.put k2 ?_
    rw [hW2]
    have e := heap_setCell (heap_setCell h.cells 3 (.int .i64 0)) 5 (.bool true)
    simpa using e
  have C0 : Hid (CrR w W2 r lv kv fs l ks0 ks room ops u 0 fs) := ⟨by simpa [torn] using d2, k2.mono (by simp), hu.kept k2 (fun hne x hx e => hux hne x hx (by simp at e; simp [e])), fun f hf x hx => .inl (by simp only [rfeet, List.mem_append, List.mem_flatMap]; exact .inr ⟨f, hf, by simpa only [List.mem_append] using hx⟩)⟩
  have HB := hide hb
  have HUS := hide hus
  have HUX := hide hux
  have hlen := h.len
  obtain ⟨a, cap, hlv⟩ := h.slice
  rw [hlen] at hlv
  obtain ⟨n, hn⟩ : ∃ n, n = l.length := ⟨_, rfl⟩
  rw [← hn] at hlv hll
  have HN := hide hn
  have HLV := hide hlv
  have c1' := c1
  rw [hlv] at c1'
  obtain ⟨ua, uc, rfl, _⟩ := hu
  have HW := hide hW2
  clear h hb hus hux hlen hn k2 d2 c1 c2
  go_enter Try.func36, Try.ntmps36
  go_wp2
  rw [← HW.out]
  clear c0 c3 c4 c5 c1' hz3 hz5
  go_loopw [4, 5] (fun vk vi wr => ∃ (i : Nat) (gs : List Rf), vi = .int .i64 (i : Int) ∧ i ≤ n ∧ vk = .int .i64 (((torn ks (l.take i) 0).2 : Nat) : Int) ∧ Hid (CrR w wr r lv kv fs l ks0 ks room ops (.slice ua ks.length uc) i gs)) (fun _ vi _ => n - (intOf vi).toNat)
  case atStart => exact ⟨0, fs, rfl, Nat.zero_le _, by simp [torn], C0⟩
  case round =>
    obtain ⟨i, gs, rfl, hi, rfl, HC⟩ := hrel
    obtain ⟨w6, rfl⟩ : ∃ w6, w6 = wr := ⟨_, rfl⟩
    have hglen := HC.out.disk.len
    rw [List.length_append, torn_length, List.length_take, List.length_drop, ← HN.out] at hglen
    have hgl : gs.length = n := by omega
    have d0 := HC.out.disk.cellAt.2.1
    rw [HLV.out] at d0
    obtain ⟨k0, hk0⟩ : ∃ k0, k0 = (torn ks (l.take i) 0).2 := ⟨_, rfl⟩
    have hkb : (k0 : Int) ≤ 67108864 := by
      have h1 := (torn_used ks (l.take i) 0 (fun x hx => (HB.out x (List.mem_of_mem_take hx)).2)).2
      have h2 := usedB_take l i
      have h3 := HUS.out
      rw [hk0]
      omega
    rw [← hk0]
    have HK0 := hide hk0
    clear hk0 hglen
    by_cases hin : i < n
    · obtain ⟨g, cap', he, f0, f1, f2⟩ := HC.out.disk.fileAt i (by omega)
      have hil : i < l.length := by rw [← HN.out]; exact hin
      have hfx : isF w6 (gs[i]'(by omega)) l[i] := by
        have := HC.out.disk.files i (by omega) (by rw [List.length_append, torn_length, List.length_take, List.length_drop]; omega)
        rw [List.getElem_append_right (by rw [torn_length, List.length_take]; omega)] at this
        simp only [torn_length, List.length_take, List.getElem_drop, show i + (i - min i l.length) = i by omega] at this
        exact this
      have hbx := HB.out l[i] (List.getElem_mem hil)
      obtain ⟨x, hx⟩ : ∃ x, x = l[i] := ⟨_, rfl⟩
      obtain ⟨F, hF⟩ : ∃ F, F = gs[i]'(by omega) := ⟨_, rfl⟩
      rw [← hF] at f0 f1 f2 hfx
      rw [← hx] at hfx hbx
      have HX := hide hx
      have HF := hide hF
      clear hx hF
      obtain ⟨t, vn, vs⟩ := F
      obtain ⟨xt, now, syn⟩ := x
      have HFX := hide hfx
      obtain ⟨hnm, hnow, hsyn⟩ := hfx
      simp only at f0 f1 f2 hnm hnow hsyn hbx
      rw [HLV.out] at he
      simp only [Value.slice.injEq] at he
      obtain ⟨rfl, hn2, rfl⟩ := he
      clear hn2
      obtain ⟨na, ncap, hvn, hnc⟩ := hnow.form
      obtain ⟨sa, scap, hvs, hsc⟩ := hsyn.form
      obtain ⟨L, hL⟩ : ∃ L, L = now.length := ⟨_, rfl⟩
      obtain ⟨M, hM⟩ : ∃ M, M = syn.length := ⟨_, rfl⟩
      rw [← hL] at hvn hnc hbx
      rw [← hM] at hvs hsc hbx
      obtain ⟨hL1, hML⟩ := hbx
      subst hvn hvs
      obtain ⟨W1, hW1⟩ : ∃ W1, W1 = w6.alloc (.cells #[.string t, .slice na L ncap, .slice sa M scap] 81) := ⟨_, rfl⟩
      have k61 : Kept [] w6 W1 := by rw [hW1]; exact (Kept.refl _ _).alloc _
      have hbox : W1.heap[w6.heap.size]? = some (.cells #[.string t, .slice na L ncap, .slice sa M scap] 81) := by rw [hW1]; exact heap_alloc_new w6 _
      have hs1 : W1.heap.size = w6.heap.size + 1 := by rw [hW1]; simp
      obtain ⟨b, hbb⟩ : ∃ b, b = w6.heap.size := ⟨_, rfl⟩
      rw [← hbb] at hbox
      have HK : Hid (∀ W, Kept [] W1 W → (W.cell? ⟨b, 0, none⟩ = some (.string t) ∧ W.cell? ⟨b, 1, none⟩ = some (.slice na L ncap) ∧ W.cell? ⟨b, 2, none⟩ = some (.slice sa M scap)) ∧ IsB W (.slice na L ncap) now ∧ IsB W (.slice sa M scap) syn ∧ IsK W (.slice ua ks.length uc) ks) := by
        intro W q
        have hq := q.heapAt hbox (by simp)
        exact ⟨⟨cell_of_heap hq 0, cell_of_heap hq 1, cell_of_heap hq 2⟩, (hnow.kept k61 (by simp)).kept q (by simp), (hsyn.kept k61 (by simp)).kept q (by simp), (HC.out.isk.kept k61 (by simp)).kept q (by simp)⟩
      have hrow0 : RowB (W1.alloc (.cells #[] 5)) (.slice (some ⟨w6.heap.size + 1, 0, none⟩) 0 0) [] := by
        rw [← hs1]
        exact ⟨World.ownsRow_made W1 #[] 0 (Nat.zero_le _) (by unfold maxLen; omega) rfl, by simp⟩
      have q0 : Kept [] W1 (W1.alloc (.cells #[] 5)) := (Kept.refl _ _).alloc _
      have c2a := (HK.out W1 (Kept.refl _ _)).1.2.2
      have c2b := (HK.out _ q0).1.2.2
      have HS0 := hide (HK.out _ q0).2.2.1
      have HR0 := hide hrow0
      have HLM : Hid (L = now.length ∧ M = syn.length ∧ L ≤ 1073741824 ∧ M ≤ L) := ⟨hL, hM, hL1, hML⟩
      have HBB := hide (And.intro hbb (And.intro hs1 k61))
      have HNM := hide hnm
      have HW1 := hide hW1
      clear hL hM hnow hsyn hbox hrow0 hnm
      have hin' : (i : Int) < (n : Int) := by omega
      have hlen0 : ([] : List Int).length + syn.length ≤ 1099511627776 := by have := HLM.out; simp; omega
      have HLN0 := hide hlen0
      clear hlen0
      have HQ0 := hide q0
      have hfr0 : ∀ x ∈ own (.slice (some ⟨w6.heap.size + 1, 0, none⟩) 0 0), W1.heap.size ≤ x := fun x hx => by rw [hs1]; simp [own, Value.ownBlock] at hx; omega
      have OS0 : Hid (OutS W1 (W1.alloc (.cells #[] 5)) (.slice (some ⟨w6.heap.size + 1, 0, none⟩) 0 0) []) := ⟨HR0.out, hfr0, q0⟩
      clear hs1 k61 q0 hfr0
      have hw1e := HW1.out
      subst hw1e
      go_wp2_with (at_builtin; refine wp_appendR _ rfl _ _ rfl (.slice (some ⟨w6.heap.size + 1, 0, none⟩) 0 0) (.slice sa M scap) [] syn rfl HR0.out rfl HS0.out HLN0.out ?_; intro v3 w3 r3 k3 n3 _; have OS1 := hide (OS0.out.turn (Kept.refl [] _) r3 k3 n3); clear r3 k3 n3; have c1z := (HK.out _ OS1.out.kept).1.2.1)
      obtain ⟨W1, hW1⟩ : ∃ W1, W1 = w6.alloc (.cells #[.string t, .slice na L ncap, .slice sa M scap] 81) := ⟨_, rfl⟩
      rw [← hW1] at HK OS1 HBB HR0 HS0 HQ0 OS0
      rw [← HBB.out.1]
      clear hbb HR0 HS0 HQ0 OS0 HLN0 c2a c2b HW1
      have HW1 := hide hW1
      clear hW1
      rw [List.nil_append] at OS1
      obtain ⟨oa3, oc3, hv3, _⟩ := OS1.out.row.isB.form
      rw [← HLM.out.2.1] at hv3
      subst hv3
      go_loopw [4, 7, 8] (fun vk vo va wr => ∃ (j a k q : Nat) (rest : List Int) (oa : Option Addr) (oc : Nat), Hid (a = 16 * j) ∧ a < L + 16 ∧ va = .int .i64 (a : Int) ∧ vk = .int .i64 (k : Int) ∧ vo = .slice oa q oc ∧ Hid (rest.length = q) ∧ Hid (tearTo ks now syn k0 j = (rest, k)) ∧ Hid (OutS W1 wr (.slice oa q oc) rest)) (fun _ _ va _ => L + 16 - (intOf va).toNat)
      case atStart => exact ⟨0, 0, k0, M, syn, oa3, oc3, rfl, by omega, rfl, rfl, rfl, HLM.out.2.1.symm, rfl, OS1⟩
      case round =>
        obtain ⟨j, a, k, q, rest, oa, oc, HAJ, hab, rfl, rfl, rfl, HRQ, HT, HO⟩ := hrel
        have HTL := tearTo_len ks now syn k0 j (by have := HLM.out.1; have := HAJ.out; omega) (by have := HLM.out; omega)
        rw [HT.out] at HTL
        simp only at HTL
        obtain ⟨hr1, _, hr3, _⟩ := HTL
        rw [HRQ.out, ← HLM.out.1] at hr1
        have hL1 := HLM.out.2.2.1
        have hML := HLM.out.2.2.2
        have hkb2 : k ≤ 201326592 := by have := HAJ.out; omega
        have hqL : q ≤ 1073741824 := by omega
        have HTLen : Hid (q ≤ L) := hr1
        clear hr1 hr3
        obtain ⟨⟨e0, e1, e2⟩, _⟩ := HK.out wr HO.out.kept
        have hw16 : IntKind.i64.wrap ((a : Int) + 16) = (a : Int) + 16 := i64_small _ (by omega) (by omega)
        have hwk : IntKind.i64.wrap ((k : Int) + 1) = (k : Int) + 1 := i64_small _ (by omega) (by omega)
        by_cases hlt : a < L
        · obtain ⟨en, hen⟩ : ∃ en, en = min (a + 16) L := ⟨_, rfl⟩
          have hmin : ∀ (ts : Array TypeId) (t : TypeId) (W : World), (Builtin.min_ ts t #[.int .i64 ((a : Int) + 16), .int .i64 (L : Int)]).run Try.prog W = .ok (.int .i64 (en : Int)) W := by
            intro ts t W
            rw [run_min_int2]
            congr 2
            split <;> omega
          have hae : a < en := by omega
          have heL : en ≤ L := by omega
          have he16 : en ≤ a + 16 := by omega
          have HEN := hide hen
          clear hen
          have hlt' : (a : Int) < (L : Int) := by omega
          obtain ⟨sb, hsb⟩ : ∃ sb, sb = sameB now syn a en := ⟨_, rfl⟩
          have HSB := hide hsb
          clear hsb
          have HSM : Hid (sameB now syn (16 * j) (min (16 * j + 16) now.length) = sb) := by
            show _ = _
            rw [HSB.out, HEN.out, HAJ.out, HLM.out.1]
          have HSEG : Hid (seg now (16 * j) (min (16 * j + 16) now.length) = seg now a en) := by
            show _ = _
            rw [HEN.out, HAJ.out, HLM.out.1]
          go_upto_region 13 with fail
          go_cut [73] (fun s73 wx => s73 = .bool sb ∧ ∃ m, wx = wr.drewN m)
          case first =>
            by_cases hem : en ≤ M
            · obtain ⟨nb, no, nc, hne, _, _⟩ := (HK.out wr HO.out.kept).2.1.opened (by have := HLM.out.1; omega)
              obtain ⟨sb0, so, sc, hse, _, _⟩ := (HK.out wr HO.out.kept).2.2.1.opened (by have := HLM.out.2.1; omega)
              simp only [Value.slice.injEq] at hne hse
              obtain ⟨rfl, hz1, rfl⟩ := hne
              obtain ⟨rfl, hz2, rfl⟩ := hse
              clear hz1 hz2
              have X : ∀ m, (convert 28 9 (.slice (some ⟨nb, no + a, none⟩) (en - a) (ncap - a))).run Try.prog (wr.drewN m) = .ok (.string (strOfNums (seg now a en))) (wr.drewN m) := fun m => conv_isB (((HK.out _ (HO.out.kept.drewN m)).2.1).mid a (en - a) (by omega))
              have Y : ∀ m, (convert 28 9 (.slice (some ⟨sb0, so + a, none⟩) (en - a) (scap - a))).run Try.prog (wr.drewN m) = .ok (.string (strOfNums (seg syn a en))) (wr.drewN m) := fun m => conv_isB (((HK.out _ (HO.out.kept.drewN m)).2.2.1).mid a (en - a) (by omega))
              have hq : ((strOfNums (seg now a en)).toList == (strOfNums (seg syn a en)).toList) = sb := by
                rw [HSB.out]
                unfold sameB
                have e1 : decide (en ≤ syn.length) = true := by rw [← HLM.out.2.1]; simpa using hem
                rw [e1, Bool.true_and]
                by_cases hss : seg now a en = seg syn a en
                · rw [hss]; simp
                · rw [decide_eq_false hss]
                  refine str_ne (fun e => hss (strOfNums_inj (fun z hz => ?_) (fun z hz => ?_) e))
                  · exact ((HK.out wr HO.out.kept).2.1).bytes z (List.mem_of_mem_drop (List.mem_of_mem_take hz))
                  · exact ((HK.out wr HO.out.kept).2.2.1).bytes z (List.mem_of_mem_drop (List.mem_of_mem_take hz))
              generalize strOfNums (seg now a en) = str1 at X hq
              generalize strOfNums (seg syn a en) = str2 at Y hq
              have b1 : (en : Int) ≤ (M : Int) := by omega
              have b2 : (a : Int) ≤ (en : Int) := by omega
              have b3 : (en : Int) ≤ (ncap : Int) := by omega
              have b4 : (en : Int) ≤ (scap : Int) := by omega
              have b5 : ¬ ncap = a := by omega
              have b6 : ¬ scap = a := by omega
              have b7 : a ≤ en := by omega
              have b8 : en ≤ ncap := by omega
              have b9 : en ≤ scap := by omega
              go_quiet (fail)
              go_wp2
              go_meet
              case rel => exact ⟨rfl, _, rfl⟩
            · have hsf : sb = false := by rw [HSB.out]; unfold sameB; rw [← HLM.out.2.1]; simp [hem]
              subst hsf
              have b1 : ¬ (en : Int) ≤ (M : Int) := by omega
              go_quiet (fail)
              go_wp2
              go_meet
              case rel => exact ⟨rfl, _, rfl⟩
          case rest =>
            obtain ⟨rfl, mq, hwc⟩ := hcut
            have HO8 : Hid (OutS W1 wc (.slice oa q oc) rest) := by rw [hwc]; exact HO.out.drewN mq
            clear hwc e0 e1 e2
            obtain ⟨⟨e0, e1, e2⟩, _⟩ := HK.out wc HO8.out.kept
            obtain ⟨w8, rfl⟩ : ∃ w8, w8 = wc := ⟨_, rfl⟩
            by_cases hsb1 : sb = true
            · subst hsb1
              have HT2 : Hid (tearTo ks now syn k0 (j + 1) = (rest, k)) := by
                show _ = _
                rw [tearTo, HSM.out, if_pos rfl]
                exact HT.out
              go_wp2
              go_roundw
              case rel => exact ⟨j + 1, a + 16, k, q, rest, oa, oc, (by show _ = _; have := HAJ.out; omega), by omega, by go_num, rfl, rfl, HRQ, HT2, HO8⟩
              case measure => simp [intOf]; omega
            · have hsf : sb = false := by simpa using hsb1
              subst hsf
              clear hsb1
              go_upto_region 14 with fail
              go_cut [83] (fun s83 wx => s83 = .bool (staysB ks k) ∧ wx = w8)
              case first =>
                by_cases hkl2 : k < ks.length
                · obtain ⟨kb, ko, hke, hkc⟩ := ((HK.out w8 HO8.out.kept).2.2.2).cellAt k hkl2
                  subst hke
                  obtain ⟨bk, hbk⟩ : ∃ bk, bk = ks[k]?.getD false := ⟨_, rfl⟩
                  rw [← hbk] at hkc
                  have HBK := hide hbk
                  clear hbk
                  have hkl3 : (k : Int) < (ks.length : Int) := by omega
                  go_wp2
                  go_meet
                  case rel => exact ⟨by rw [HBK.out]; rfl, rfl⟩
                · have hkl3 : ¬ (k : Int) < (ks.length : Int) := by omega
                  have hsf : staysB ks k = false := by
                    unfold staysB
                    rw [List.getElem?_eq_none (by omega)]
                    rfl
                  have HSF := hide hsf
                  clear hsf
                  go_wp2
                  go_meet
                  case rel => exact ⟨by rw [HSF.out], rfl⟩
              case rest =>
                obtain ⟨rfl, hwc⟩ := hcut
                subst hwc
                by_cases hst : staysB ks k = true
                · have HT2 : Hid (tearTo ks now syn k0 (j + 1) = (over rest a (seg now a en), k + 1)) := by
                    show _ = _
                    rw [tearTo, HSM.out, if_neg (by simp), HT.out, HSEG.out]
                    simp [hst, HAJ.out]
                  rw [hst]
                  clear hst
                  go_wp2
                  go_loopw [7] (fun vo wr => ∃ (m : Nat) (oa2 : Option Addr) (oc2 : Nat), vo = .slice oa2 (q + m) oc2 ∧ (q + m ≤ en ∨ m = 0) ∧ Hid (OutS W1 wr (.slice oa2 (q + m) oc2) (rest ++ zsR m))) (fun vo _ => en - lenR vo)
                  case atStart => exact ⟨0, oa, oc, rfl, .inr rfl, by show OutS W1 _ (.slice oa (q + 0) oc) (rest ++ zsR 0); simpa [zsR] using HO8.out⟩
                  case round =>
                    obtain ⟨m, oa2, oc2, rfl, hme, HO9⟩ := hrel
                    by_cases hmq : q + m < en
                    · have hmq' : (q : Int) + (m : Int) < (en : Int) := by omega
                      have row2 := hide (HO9.out.row.kept (fp := []) ((Kept.refl [] wr).alloc (.cells #[.int .u8 0] 5)) (by simp))
                      have hlz : (rest ++ zsR m).length + [(0 : Int)].length ≤ 1099511627776 := by
                        rw [List.length_append, zsR_length, HRQ.out]
                        simp
                        omega
                      have HLZ := hide hlz
                      have HLE : Hid ((rest ++ zsR (m + 1)).length = q + (m + 1)) := by
                        show _ = _
                        rw [List.length_append, zsR_length, HRQ.out]
                      clear hlz
                      go_wp2_with (at_builtin; refine wp_appendR _ rfl _ _ rfl (.slice oa2 (q + m) oc2) (.slice (some ⟨wr.heap.size, 0, none⟩) 1 1) (rest ++ zsR m) [0] rfl row2.out rfl (one0R wr) HLZ.out ?_; intro v3 w3 r3 k3 n3 _; have OS3 := hide (HO9.out.turn ((Kept.refl [] wr).alloc (.cells #[.int .u8 0] 5)) r3 k3 n3); rw [List.append_assoc, zsR_snoc] at r3 OS3; obtain ⟨ya, yc, hy, _⟩ := r3.isB.form; rw [HLE.out] at hy; subst hy; clear r3 k3 n3)
                      go_roundw
                      case rel => exact ⟨m + 1, ya, yc, rfl, .inl (by omega), OS3⟩
                      case measure => simp [lenR]; omega
                    · have hmq' : ¬ (q : Int) + (m : Int) < (en : Int) := by omega
                      obtain ⟨base, hbase⟩ : ∃ base, base = rest ++ zsR m := ⟨_, rfl⟩
                      rw [← hbase] at HO9
                      have hbl : base.length = q + m := by rw [hbase, List.length_append, zsR_length, HRQ.out]
                      have HOV : Hid (overTo base now a en = over rest a (seg now a en)) := by
                        show _ = _
                        rw [hbase]
                        exact overTo_end rest now a en m (by omega) (by have := HLM.out.1; omega) (by have := HRQ.out; omega)
                      have hqm : q + m ≤ L + 16 := by
                        have h1 := HTLen.out
                        rcases hme with h | h <;> omega
                      obtain ⟨B, hB⟩ : ∃ B, B = q + m := ⟨_, rfl⟩
                      have hB2 : (q : Int) + (m : Int) = (B : Int) := by omega
                      rw [← hB] at HO9 hbl hqm ⊢
                      have HB3 := hide hB
                      have HBL := hide hbl
                      clear hbase hbl hme hB hmq
                      obtain ⟨g7, hg7⟩ : ∃ g7, oa2 = some ⟨g7, 0, none⟩ := by
                        rcases HO9.out.row.form with ⟨e, e2⟩ | ⟨g', cap', e, _⟩
                        · have h1 := HBL.out
                          have h2 := HB3.out
                          rw [e2] at h1
                          simp at h1
                          omega
                        · simp only [Value.slice.injEq] at e
                          exact ⟨g', e.1⟩
                      subst hg7
                      have hBe : en ≤ B := by have := HB3.out; omega
                      obtain ⟨nb, no, nc, hne, _, _⟩ := (HK.out wr HO9.out.kept).2.1.opened (by have := HLM.out.1; omega)
                      simp only [Value.slice.injEq] at hne
                      obtain ⟨rfl, hz1, rfl⟩ := hne
                      clear hz1 e0 e1 e2
                      obtain ⟨w9, rfl⟩ : ∃ w9, w9 = wr := ⟨_, rfl⟩
                      go_wp2
                      go_loopw [10] (fun vj wr => ∃ jj : Nat, vj = .int .i64 (jj : Int) ∧ a ≤ jj ∧ jj ≤ en ∧ Hid (OutS W1 wr (.slice (some ⟨g7, 0, none⟩) B oc2) (overTo base now a jj))) (fun vj _ => en - (intOf vj).toNat)
                      case atStart => exact ⟨a, rfl, Nat.le_refl _, by omega, by show OutS W1 _ _ _; rw [overTo_zero]; exact HO9.out⟩
                      case round =>
                        obtain ⟨jj, rfl, hja, hje, HO10⟩ := hrel
                        have hwj : IntKind.i64.wrap ((jj : Int) + 1) = (jj : Int) + 1 := i64_small _ (by omega) (by omega)
                        obtain ⟨⟨_, e1, _⟩, inow, _⟩ := HK.out wr HO10.out.kept
                        by_cases hjn : jj < en
                        · have hjn' : (jj : Int) < (en : Int) := by omega
                          have hjL : (jj : Int) < (L : Int) := by omega
                          have hjB : (jj : Int) < (B : Int) := by omega
                          have hjl : jj < now.length := by have := HLM.out.1; omega
                          obtain ⟨nb', no', nc', hne', _, hcell⟩ := inow.opened (by omega)
                          simp only [Value.slice.injEq, Option.some.injEq, Addr.mk.injEq, and_true] at hne'
                          obtain ⟨⟨rfl, rfl⟩, _, rfl⟩ := hne'
                          have hc := hcell jj hjl
                          obtain ⟨z, hz⟩ : ∃ z, z = now[jj] := ⟨_, rfl⟩
                          rw [List.getElem?_eq_getElem hjl, Option.getD_some, ← hz] at hc
                          have hzb : 0 ≤ z ∧ z ≤ 255 := by rw [hz]; exact inow.bytes _ (List.getElem_mem hjl)
                          obtain ⟨⟨z2, hc2⟩, hc3⟩ := rowR_cell HO10.out.row jj (by rw [overTo_length base now a jj hja (by have := HBL.out; omega) (by omega), HBL.out]; omega)
                          have HST := hide (HO10.out.stored jj z hzb)
                          have hst2 := HST.out
                          rw [hz, overTo_step base now a jj hja (by have := HBL.out; omega) hjl, ← hz] at hst2
                          have HST2 := hide hst2
                          clear hst2 HST hz hzb hcell inow
                          go_wp2
                          go_roundw
                          case rel => exact ⟨jj + 1, by go_num, by omega, by omega, HST2⟩
                          case measure => simp [intOf]; omega
                        · obtain rfl : jj = en := by omega
                          have ho := HO10.out
                          rw [HOV.out] at ho
                          have HO11 := hide ho
                          clear ho inow
                          have HRQ2 : Hid ((over rest a (seg now a jj)).length = B) := by
                            show _ = _
                            rw [← HOV.out, overTo_length base now a jj (by omega) (by have := HBL.out; omega) (by have := HLM.out.1; omega), HBL.out]
                          go_wp2
                          go_roundw
                          case rel => exact ⟨j + 1, a + 16, k + 1, B, over rest a (seg now a jj), some ⟨g7, 0, none⟩, oc2, (by show _ = _; have := HAJ.out; omega), by omega, by go_num, by go_num, rfl, HRQ2, HT2, HO11⟩
                          case measure => simp [intOf]; omega
                · have hsf : staysB ks k = false := by simpa using hst
                  have HT2 : Hid (tearTo ks now syn k0 (j + 1) = (rest, k + 1)) := by
                    show _ = _
                    rw [tearTo, HSM.out, if_neg (by simp), HT.out]
                    simp [hsf]
                  rw [hsf]
                  clear hst hsf
                  go_wp2
                  go_roundw
                  case rel => exact ⟨j + 1, a + 16, k + 1, q, rest, oa, oc, (by show _ = _; have := HAJ.out; omega), by omega, by go_num, by go_num, rfl, HRQ, HT2, HO8⟩
                  case measure => simp [intOf]; omega
        · have hJ : j = (now.length + 15) / 16 := by have := HAJ.out; have := HLM.out.1; omega
          have HTB : Hid (tearB ks now syn (torn ks (l.take i) 0).2 = (rest, k)) := by
            show _ = _
            unfold tearB
            rw [← hJ, ← HK0.out]
            exact HT.out
          clear hJ
          have q61 : Kept [] w6 wr := HBB.out.2.2.trans HO.out.kept (Newly.refl _ _)
          have frO : ∀ x ∈ own (.slice oa q oc), w6.heap.size ≤ x := fun x hx => by
            have h1 := HO.out.fresh x hx
            have h2 := HBB.out.2.1
            omega
          have HQ6 := hide (And.intro q61 frO)
          clear q61 frO
          have hlt' : ¬ (a : Int) < (L : Int) := by omega
          have dd := HC.out.disk.kept HQ6.out.1 (by simp)
          have d1 := dd.cellAt.2.1
          rw [HLV.out] at d1
          obtain ⟨gx, cx, hex, _, y1, y2⟩ := dd.fileAt i (by omega)
          rw [HLV.out] at hex
          simp only [Value.slice.injEq, Option.some.injEq, Addr.mk.injEq, and_true] at hex
          obtain ⟨rfl, hz1, rfl⟩ := hex
          clear hz1
          have hrw := dd.row
          rw [HLV.out, hgl] at hrw
          have zf := World.ownsRow.frozenAt hrw (i * 3 + 1)
          clear dd hrw
          have D1 := hide (HC.out.putNow hil HQ6.out.1 HLV.out HO.out.row HQ6.out.2 xt now syn t _ _ HF.out.symm HFX.out)
          have hov : ∀ x ∈ own (.slice oa q oc), x ∉ own lv := fun x hx e2 => by
            have h1 := HQ6.out.2 x hx
            have h2 := HC.out.disk.row_lt x (List.mem_cons_of_mem _ e2)
            omega
          have HRO := hide (HO.out.row.kept D1.out.2 hov)
          clear hov
          go_wp2
          obtain ⟨wS, hwS⟩ : ∃ wS, wS = wr.setCell ⟨g, i * 3 + 1, none⟩ (.slice oa q oc) := ⟨_, rfl⟩
          rw [← hwS] at D1 HRO
          have hD := D1.out.1
          have hgl2 : (gs.set i (t, .slice oa q oc, .slice sa M scap)).length = n := by rw [List.length_set]; exact hgl
          have FACT : Hid (∀ W, Kept [] wS W → W.cell? ⟨r, 1, none⟩ = some (.slice (some ⟨g, 0, none⟩) n cap) ∧ W.cell? ⟨g, i * 3 + 2, none⟩ = some (.slice sa M scap) ∧ W.frozen? ⟨g, i * 3 + 2, none⟩ = false ∧ IsB W (.slice oa q oc) rest) := by
            intro W qW
            have hW := hD.kept qW (by simp)
            have b1 := hW.cellAt.2.1
            rw [HLV.out] at b1
            obtain ⟨g2, c2, he2, _, _, y3⟩ := hW.fileAt i (by omega)
            rw [HLV.out] at he2
            simp only [Value.slice.injEq, Option.some.injEq, Addr.mk.injEq, and_true] at he2
            obtain ⟨rfl, _, rfl⟩ := he2
            have hr2 := hW.row
            rw [HLV.out, hgl2] at hr2
            refine ⟨b1, ?_, World.ownsRow.frozenAt hr2 (i * 3 + 2), HRO.out.isB.kept qW (by simp)⟩
            rw [y3]
            simp
          have HWS := hide hwS
          rw [← hwS]
          clear hwS hD hgl2 d1 y1 y2 zf
          have OA : Hid (RowB (wS.alloc (.cells #[] 5)).drew (.slice (some ⟨wS.heap.size, 0, none⟩) 0 0) []) := ⟨World.ownsRow_made wS #[] 0 (Nat.zero_le _) (by unfold maxLen; omega) rfl, by simp⟩
          have Q0 : Hid (Kept [] wS (wS.alloc (.cells #[] 5)).drew) := ((Kept.refl _ wS).alloc _).drew
          have N0 : Hid (Newly wS [] (own (.slice (some ⟨wS.heap.size, 0, none⟩) 0 0))) := fun x hx => by simp [own, Value.ownBlock] at hx; exact .inr (by omega)
          have HLQ : Hid (([] : List Int).length + rest.length ≤ 1099511627776) := by show _ ≤ _; rw [HRQ.out]; simp; omega
          have cS := (FACT.out _ (Kept.refl [] wS)).1
          have cA := (FACT.out _ ((Kept.refl [] wS).alloc (.cells #[] 5))).1
          go_region_law (refine step_appendR _ ?_ (.tmp 120) (.tmp 121) ?_ (.slice (some ⟨wS.heap.size, 0, none⟩) 0 0) (.slice oa q oc) [] rest ?_ ?_ ?_ ?_ ?_ ?_; rfl; rfl; rfl; exact OA.out; rfl; exact (FACT.out _ Q0.out).2.2.2; exact HLQ.out; intro v5 w5 r5 k5 n5; have P5 := hide (keptNewF Q0.out N0.out k5 n5); obtain ⟨cW, cX, cZ, _⟩ := FACT.out _ P5.out.1; rw [List.nil_append] at r5; obtain ⟨a5, p5, hv5, _⟩ := r5.isB.form; rw [HRQ.out] at hv5; subst hv5; have R5 := hide r5; clear r5 k5 n5)
          all_goals
            have hq5 := P5.out.1
            rw [HWS.out] at hq5
            have hfin := HC.out.putSyn hil HQ6.out.1 HLV.out HO.out.row HQ6.out.2 xt now syn HX.out.symm t _ _ HF.out.symm HFX.out HUX.out hq5 R5.out (fun x hx => by
              have h1 : wS.heap.size = wr.heap.size := by rw [HWS.out]; simp [World.setCell]
              have h2 := HQ6.out.1.size
              rcases P5.out.2 x hx with v | v
              · simp at v
              · omega) k HTB.out
            have HFIN := hide hfin
            clear hfin hq5
            go_wp2
            go_roundw
            case rel => exact ⟨i + 1, _, by go_num, by omega, by rw [HFIN.out.2], HFIN.out.1⟩
            case measure => simp [intOf]; omega
    · obtain rfl : i = n := by omega
      go_wp2
      go_end0
      have hd := HC.out.disk
      rw [List.drop_of_length_le (by rw [← HN.out]; exact Nat.le_refl _), List.append_nil, List.take_of_length_le (by rw [← HN.out]; exact Nat.le_refl _)] at hd
      exact ⟨rfl, gs, hd, HC.out.kept, HC.out.new⟩
end

end Go.Proofs.Ytahhokhhgamelaa
