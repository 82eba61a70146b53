/-
  The document's cache: cut. A lemma file: no statement of the seat is proved here.
-/
import Derived.Test.YtokodmeabchmjaaLRef4
import Derived.Deep.RegionLaw
import Derived.Deep.RegionHeld3
import Derived.Deep.Slices
namespace Go.Proofs.Ytokodmeabchmjaa
open Go.RowKit Go.Maps Go.Sort

/-- What stays of a row in a field of block r while only new blocks are written. -/
theorem rowFacts {w : World} {r o g n cap k k1 : Nat} {t : TypeId} {xs : List Value} (c1 : w.cell? ⟨r, o, none⟩ = some (.slice (some ⟨g, 0, none⟩) n cap)) (zr : w.frozen? ⟨r, o, none⟩ = false)
    (hrow : RowV w t (.slice (some ⟨g, 0, none⟩) n cap) xs) (hxl : xs.length = n) (h1 : ∀ u ∈ xs, u.oneCell' = true) (hk : k ≤ n) :
    ∀ W, Kept [] w W → W.cell? ⟨r, o, none⟩ = some (.slice (some ⟨g, 0, none⟩) n cap) ∧ W.frozen? ⟨r, o, none⟩ = false ∧ IsV W (.slice (some ⟨g, 0, none⟩) k cap) (xs.take k) ∧
      IsV W (.slice (if cap = k1 then some ⟨g, 0, none⟩ else some ((⟨g, 0, none⟩ : Addr).add (k1 * 1))) (n - k1) (cap - k1)) (xs.drop k1) := by
  intro W q
  have hrlt := World.block_lt_of_cell? w _ c1
  have e := q.block r hrlt (by simp)
  refine ⟨q.cell c1 (by simp), ?_, (hrow.take h1 k (by omega)).kept q (by simp), ?_⟩
  · have := zr
    unfold World.frozen? at this ⊢
    rw [e]
    exact this
  · have := (hrow.drop h1 k1).kept q (by simp)
    rw [hxl] at this
    exact this

section
variable {w : World} {r : Nat} {lv pv : Value} {fr : Int} {l : List (ByteArray × Nat)}

/-- Behind the first statement. -/
theorem cut_mid (h : RefL w r lv pv fr l) {w5 : World} {v5 : Value} (q5 : Kept [] w w5) :
    (w5.setCell ⟨r, 1, none⟩ v5).heap[r]? = some (.cells #[.int .i64 fr, v5, pv] 39 (0, 0)) ∧ (w5.setCell ⟨r, 1, none⟩ v5).ownsRow 0 3 1 pv l.length (l.map fun x => .int .i64 x.2) := by
  have hkp : Kept [r] w5 (w5.setCell ⟨r, 1, none⟩ v5) := (Kept.refl _ w5).setCell (p := ⟨r, 1, none⟩) (.inl (by simp)) _
  refine ⟨?_, ?_⟩
  · have := heap_setCell (q5.heap h.cells (by simp)) 1 v5
    simpa using this
  · exact ownsRow_kept (ownsRow_kept h.pins q5 (by simp)) hkp (fun x hx e => h.apartP (by simp at e; exact e ▸ hx))

theorem cut_end (h : RefL w r lv pv fr l) {k : Nat} {w5 w7 : World} {v5 v7 : Value} (q5 : Kept [] w w5) (n5 : Newly w [] (own v5)) (r5 : RowV w5 9 v5 ((l.eraseIdx k).map fun x => .string x.1))
    (q7 : Kept [] (w5.setCell ⟨r, 1, none⟩ v5) w7) (n7 : Newly (w5.setCell ⟨r, 1, none⟩ v5) [] (own v7)) (r7 : RowV w7 3 v7 ((l.eraseIdx k).map fun x => .int .i64 x.2)) :
    RefL (w7.setCell ⟨r, 2, none⟩ v7) r v5 v7 fr (l.eraseIdx k) ∧ Kept [r] w (w7.setCell ⟨r, 2, none⟩ v7) ∧ ∀ x ∈ lfeet r v5 v7, x = r ∨ w.heap.size ≤ x := by
  have hr : r < w.heap.size := (Array.getElem?_eq_some_iff.1 h.cells).1
  have k5 : Kept [r] w5 (w5.setCell ⟨r, 1, none⟩ v5) := (Kept.refl _ w5).setCell (p := ⟨r, 1, none⟩) (.inl (by simp)) _
  have k7 : Kept [r] w7 (w7.setCell ⟨r, 2, none⟩ v7) := (Kept.refl _ w7).setCell (p := ⟨r, 2, none⟩) (.inl (by simp)) _
  have s5 : (w5.setCell ⟨r, 1, none⟩ v5).heap.size = w5.heap.size := by simp [World.setCell]
  have f5 : ∀ x ∈ own v5, w.heap.size ≤ x ∧ x < w5.heap.size := fun x hx => ⟨by rcases n5 x hx with q | q; simp at q; exact q, (World.ownsRow.lt r5 x (by simpa [own] using hx)).2⟩
  have f7 : ∀ x ∈ own v7, w5.heap.size ≤ x := fun x hx => by
    rcases n7 x hx with q | q
    · simp at q
    · rw [s5] at q
      exact q
  have l5 : w.heap.size ≤ w5.heap.size := q5.size
  refine ⟨⟨?_, ?_, ?_, ?_, ?_, ?_⟩, ?_, ?_⟩
  · have := heap_setCell (q7.heap (cut_mid h q5 (v5 := v5)).1 (by simp)) 2 v7
    simpa using this
  · have e := ownsRow_kept (ownsRow_kept (ownsRow_kept r5 k5 (fun x hx e => by have := f5 x hx; simp at e; omega)) q7 (by simp)) k7 (fun x hx e => by have := f5 x hx; simp at e; omega)
    simpa using e
  · have e := ownsRow_kept r7 k7 (fun x hx e => by have := f7 x hx; simp at e; omega)
    simpa using e
  · intro e; have := f5 r e; omega
  · intro e; have := f7 r e; omega
  · intro x hx e; have := f5 x hx; have := f7 x e; omega
  · have a1 : Kept [r] w w5 := q5.mono (by simp)
    have a2 := a1.trans (fp' := [r]) k5 (Newly.refl _ _)
    have a3 := a2.trans (fp' := []) q7 (fun _ hx => by simp at hx)
    exact a3.trans (fp' := [r]) k7 (Newly.refl _ _)
  · intro x hx
    simp only [lfeet, List.cons_append, List.mem_cons, List.mem_append] at hx
    rcases hx with rfl | hx | hx
    · exact .inl rfl
    · exact .inr (f5 x hx).1
    · exact .inr (Nat.le_trans l5 (f7 x hx))

theorem erase_map {α β : Type} (l : List α) (k : Nat) (f : α → β) : [] ++ (l.map f).take k ++ (l.map f).drop (k + 1) = (l.eraseIdx k).map f := by
  rw [List.eraseIdx_eq_take_drop_succ, List.map_append, List.map_take, List.map_drop, List.nil_append]

end

set_option maxRecDepth 100000 in
set_option maxHeartbeats 4000000 in
theorem cut_any {w : World} {r : Nat} {lv pv : Value} {fr : Int} {l : List (ByteArray × Nat)} (h : RefL w r lv pv fr l) (k : Nat) (hk : k < l.length) (hf : l.length ≤ 1000) :
    Calls Try.prog 38 #[.pointer (some ⟨r, 0, none⟩), .int .i64 k] w fun e w' => e = .returned (.tuple #[]) ∧ ∃ lv' pv', RefL w' r lv' pv' fr (l.eraseIdx k) ∧ Kept [r] w w' ∧ ∀ x ∈ lfeet r lv' pv', x = r ∨ w.heap.size ≤ x := by
  obtain ⟨n, hn⟩ : ∃ n, n = l.length := ⟨_, rfl⟩
  have H := hide h
  obtain ⟨c0, c1, c2⟩ := h.cellAt
  rcases h.keys.2 with ⟨_, h0⟩ | ⟨g, cap, cur, e, _, hg, hnc, hcm, _⟩
  · omega
  rcases h.pins.2 with ⟨_, h0⟩ | ⟨gp, capp, curp, ep, _, hgp, hncp, hcmp, _⟩
  · omega
  subst e
  subst ep
  rw [← hn] at c1 c2 hnc hncp hk hf
  obtain ⟨k1, hk1⟩ : ∃ k1, k1 = k + 1 := ⟨_, rfl⟩
  have m1 : (k : Int) + 1 = (k1 : Int) := by omega
  have b0 : (0 : Int) ≤ (k : Int) := by omega
  have b1 : (k : Int) ≤ (cap : Int) := by omega
  have b1p : (k : Int) ≤ (capp : Int) := by omega
  have b2 : (0 : Int) ≤ (k1 : Int) := by omega
  have b3 : (k1 : Int) ≤ (n : Int) := by omega
  have b4 : (n : Int) ≤ (cap : Int) := by omega
  have b4p : (n : Int) ≤ (capp : Int) := by omega
  have zr := frozen_of_heap h.cells 1
  obtain ⟨xs, hxs⟩ : ∃ xs, xs = l.map fun x => Value.string x.1 := ⟨_, rfl⟩
  obtain ⟨ys, hys⟩ : ∃ ys, ys = l.map fun x => Value.int .i64 x.2 := ⟨_, rfl⟩
  have hxl : xs.length = n := by rw [hxs]; simp [hn]
  have hyl : ys.length = n := by rw [hys]; simp [hn]
  have h1 : ∀ u ∈ xs, u.oneCell' = true := by
    intro u hu
    rw [hxs, List.mem_map] at hu
    obtain ⟨x, _, rfl⟩ := hu
    rfl
  have hy1 : ∀ u ∈ ys, u.oneCell' = true := by
    intro u hu
    rw [hys, List.mem_map] at hu
    obtain ⟨x, _, rfl⟩ := hu
    rfl
  have hrow : RowV w 9 (.slice (some ⟨g, 0, none⟩) n cap) xs := by
    have := h.keys
    rw [← hn, ← hxs] at this
    unfold RowV
    rw [hxl]
    exact this
  have O2 : Hid (RowV (w.alloc (.cells #[] 9)).drew 9 (.slice (some ⟨w.heap.size, 0, none⟩) 0 0) []) := RowV.empty w 9
  have EX : Hid ([] ++ xs.take k ++ xs.drop k1 = (l.eraseIdx k).map fun x => Value.string x.1) := by show _ = _; rw [hxs, hk1]; exact erase_map _ _ _
  have EY : Hid ([] ++ ys.take k ++ ys.drop k1 = (l.eraseIdx k).map fun x => Value.int .i64 x.2) := by show _ = _; rw [hys, hk1]; exact erase_map _ _ _
  have FACT := hide (rowFacts (k := k) (k1 := k1) c1 zr hrow hxl h1 (by omega))
  have LEN : Hid ((xs.take k).length = k ∧ (xs.drop k1).length = n - k1) := ⟨by rw [List.length_take, hxl]; omega, by rw [List.length_drop, hxl]⟩
  have LENY : Hid ((ys.take k).length = k ∧ (ys.drop k1).length = n - k1) := ⟨by rw [List.length_take, hyl]; omega, by rw [List.length_drop, hyl]⟩
  have HN := hide (And.intro hn (And.intro hk1 (And.intro hxs (And.intro hys (And.intro hxl (And.intro hyl hy1))))))
  clear h hn hk1 hxs hys hxl hyl h1 hy1 hrow hg hcm hgp hcmp
  have sl1 := slice_fromS g n cap k1 (by omega)
  have sl2 := slice_fromI gp n capp k1 (by omega)
  obtain ⟨dp, hdp⟩ : ∃ dp, dp = (if cap = k1 then some ⟨g, 0, none⟩ else some ((⟨g, 0, none⟩ : Addr).add (k1 * 1))) := ⟨_, rfl⟩
  obtain ⟨dq, hdq⟩ : ∃ dq, dq = (if capp = k1 then some ⟨gp, 0, none⟩ else some ((⟨gp, 0, none⟩ : Addr).add (k1 * 1))) := ⟨_, rfl⟩
  rw [← hdp] at sl1
  rw [← hdq] at sl2
  obtain ⟨n1, hn1⟩ : ∃ n1, n1 = n - k1 := ⟨_, rfl⟩
  obtain ⟨cp1, hcp1⟩ : ∃ cp1, cp1 = cap - k1 := ⟨_, rfl⟩
  obtain ⟨cq1, hcq1⟩ : ∃ cq1, cq1 = capp - k1 := ⟨_, rfl⟩
  rw [← hn1, ← hcp1] at sl1
  rw [← hn1, ← hcq1] at sl2
  rw [← hdp, ← hn1, ← hcp1] at FACT
  rw [← hn1] at LEN LENY
  have Q0 : Hid (Kept [] w (w.alloc (.cells #[] 9)).drew) := ((Kept.refl _ w).alloc _).drew
  have N0 : Hid (Newly w [] (own (.slice (some ⟨w.heap.size, 0, none⟩) 0 0))) := fun x hx => by simp [own, Value.ownBlock] at hx; exact .inr (by omega)
  have HD := hide (And.intro hdp (And.intro hn1 hcp1))
  have HE := hide (And.intro hdq (And.intro hn1 hcq1))
  clear hdp hn1 hcp1 hdq hcq1
  have wk1 : IntKind.i64.wrap (k1 : Int) = (k1 : Int) := i64_small _ (by omega) (by omega)
  have hk1b : k1 ≤ 1000 := by omega
  have b5 : k1 ≤ n := by omega
  have b6 : k + 1 ≤ n := by omega
  have b7 : (k : Int) + 1 ≤ (n : Int) := by omega
  have b8 : k1 ≤ cap := by omega
  have b8p : k1 ≤ capp := by omega
  have ca1 := (FACT.out _ Q0.out).1
  have ca2 := (FACT.out _ ((Kept.refl [] w).alloc (.cells #[] 9))).1
  go_enter Try.func38, Try.ntmps38
  go_wp2_with fail
  go_region_law (first | (refine step_appendVS _ ?_ (.tmp 12) (.tmp 19) ?_ v3 (.slice dp n1 cp1) ([] ++ xs.take k) (xs.drop k1) ?_ ?_ ?_ ?_ ?_ ?_; rfl; rfl; rfl; exact r3; rfl; exact (FACT.out _ Q3.out.1).2.2.2; (have q := LEN.out; have q2 := HD.out.2.1; rw [List.nil_append, q.1, q.2]; omega); intro v5 w5 r5 k5 n5; have Q5 := hide (kept_new Q3.out.1 Q3.out.2 k5 n5); have k6 := (FACT.out _ Q5.out.1).1; have z6 := (FACT.out _ Q5.out.1).2.1; obtain ⟨a5, p5, e5⟩ := r5.form; subst e5; have R5 := hide r5; clear r5 k5 n5) | (refine step_appendVS _ ?_ (.tmp 5) (.tmp 11) ?_ (.slice (some ⟨w.heap.size, 0, none⟩) 0 0) (.slice (some ⟨g, 0, none⟩) k cap) [] (xs.take k) ?_ ?_ ?_ ?_ ?_ ?_; rfl; rfl; rfl; exact O2.out; rfl; exact (FACT.out _ Q0.out).2.2.1; (have q := LEN.out; rw [List.length_nil, q.1]; omega); intro v3 w3 r3 k3 n3; have Q3 := hide (kept_new Q0.out N0.out k3 n3); have k4 := (FACT.out _ Q3.out.1).1; clear k3 n3))
  all_goals
    have e9 : ([] ++ List.take k xs ++ List.drop k1 xs).length = min k xs.length + (xs.length - k1) := by simp
    rw [e9] at Q5 R5
    have MID := hide (cut_mid H.out (v5 := .slice a5 (min k xs.length + (xs.length - k1)) p5) Q5.out.1)
    obtain ⟨v5, hv5⟩ : ∃ v5, v5 = Value.slice a5 (min k xs.length + (xs.length - k1)) p5 := ⟨_, rfl⟩
    rw [← hv5] at Q5 R5 MID ⊢
    have HV := hide hv5
    clear hv5 e9 k6 z6 r3 Q3 k4 c0 c1 c2 zr ca1 ca2 O2 Q0 N0 sl1
    obtain ⟨W1, hW1⟩ : ∃ W1, W1 = w5.setCell ⟨r, 1, none⟩ v5 := ⟨_, rfl⟩
    have HW := hide hW1
    rw [← hW1] at MID ⊢
    clear hW1
    have d2 : W1.cell? ⟨r, 2, none⟩ = some (.slice (some ⟨gp, 0, none⟩) n capp) := by rw [HN.out.1]; simpa using cell_of_heap MID.out.1 2
    have zd := frozen_of_heap MID.out.1 2
    have FACT2 := hide (rowFacts (k := k) (k1 := k1) (t := 3) (xs := ys) d2 zd (by have := MID.out.2; unfold RowV; rw [HN.out.2.2.2.2.2.1, HN.out.1, HN.out.2.2.2.1]; exact this) HN.out.2.2.2.2.2.1 HN.out.2.2.2.2.2.2 (by omega))
    rw [← HE.out.1, ← HE.out.2.1, ← HE.out.2.2] at FACT2
    have P2 : Hid (RowV (W1.alloc (.cells #[] 3)).drew 3 (.slice (some ⟨W1.heap.size, 0, none⟩) 0 0) []) := RowV.empty W1 3
    have Q10 : Hid (Kept [] W1 (W1.alloc (.cells #[] 3)).drew) := ((Kept.refl _ W1).alloc _).drew
    have N10 : Hid (Newly W1 [] (own (.slice (some ⟨W1.heap.size, 0, none⟩) 0 0))) := fun x hx => by simp [own, Value.ownBlock] at hx; exact .inr (by omega)
    have da1 := (FACT2.out _ Q10.out).1
    have da2 := (FACT2.out _ ((Kept.refl [] W1).alloc (.cells #[] 3))).1
    go_wp2_with fail
    go_region_law (first | (refine step_appendVI _ ?_ (.tmp 31) (.tmp 38) ?_ v13 (.slice dq n1 cq1) ([] ++ ys.take k) (ys.drop k1) ?_ ?_ ?_ ?_ ?_ ?_; rfl; rfl; rfl; exact r13; rfl; exact (FACT2.out _ Q13.out.1).2.2.2; (have q := LENY.out; have q2 := HE.out.2.1; rw [List.nil_append, q.1, q.2]; omega); intro v15 w15 r15 k15 n15; have Q15 := hide (kept_new Q13.out.1 Q13.out.2 k15 n15); have k16 := (FACT2.out _ Q15.out.1).1; have z16 := (FACT2.out _ Q15.out.1).2.1; obtain ⟨a15, p15, e15⟩ := r15.form; subst e15; have R15 := hide r15; clear r15 k15 n15) | (refine step_appendVI _ ?_ (.tmp 24) (.tmp 30) ?_ (.slice (some ⟨W1.heap.size, 0, none⟩) 0 0) (.slice (some ⟨gp, 0, none⟩) k capp) [] (ys.take k) ?_ ?_ ?_ ?_ ?_ ?_; rfl; rfl; rfl; exact P2.out; rfl; exact (FACT2.out _ Q10.out).2.2.1; (have q := LENY.out; rw [List.length_nil, q.1]; omega); intro v13 w13 r13 k13 n13; have Q13 := hide (kept_new Q10.out N10.out k13 n13); have k14 := (FACT2.out _ Q13.out.1).1; clear k13 n13))
    all_goals
      have e9 : ([] ++ List.take k ys ++ List.drop k1 ys).length = min k ys.length + (ys.length - k1) := by simp
      rw [e9] at Q15 R15
      obtain ⟨v15, hv15⟩ : ∃ v15, v15 = Value.slice a15 (min k ys.length + (ys.length - k1)) p15 := ⟨_, rfl⟩
      rw [← hv15] at Q15 R15 ⊢
      go_wp2_with fail
      go_end0
      have A := R5.out
      rw [EX.out] at A
      have A2 := R15.out
      rw [EY.out] at A2
      have B1 := Q15.out
      rw [HW.out] at B1
      exact ⟨rfl, v5, v15, cut_end H.out Q5.out.1 Q5.out.2 A B1.1 B1.2 A2⟩

end Go.Proofs.Ytokodmeabchmjaa
