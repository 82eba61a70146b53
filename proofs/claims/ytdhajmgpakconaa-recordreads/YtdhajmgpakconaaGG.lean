/-
  Lemma texts, one behind the other: DMeth, DCreate, DMeth2, DShown, DErr, DDrop, DRead, DSync. No statement of the seat is proved here.
-/
import Derived.Test.YtdhajmgpakconaaGF
namespace Go.Proofs.Ytdhajmgpakconaa
open Go.RowKit Go.Maps Go.Sort Go.Shelf

/-- What Size answers. -/
def sizeA (A : List Ab × Ds) (n : List UInt8) : Int × Int := match errA A n with | some k => (0, k) | none => match lookA A.1 n with | some x => (x.2.1.length, 0) | none => (0, 0)

/-- What Append answers, and leaves. -/
def appendA (A : List Ab × Ds) (n : List UInt8) (cs : List Int) : Int × (List Ab × Ds) := match errA A n with | some k => (k, A) | none => match lookA A.1 n with | some x => writeA A.1 A.2 x x.2.1.length cs | none => (0, A)

/-- What WriteAt answers, and leaves. -/
def writeAtA (A : List Ab × Ds) (n : List UInt8) (at_ : Int) (cs : List Int) : Int × (List Ab × Ds) := match errA A n with | some k => (k, A) | none => match lookA A.1 n with | some x => writeA A.1 A.2 x at_ cs | none => (0, A)

section
variable {w : World} {fp : List Nat} {p : Nat} {l : List Ab} {s : Ds}

theorem Dk.below {w' : World} (h : Dk w fp p l s) (hb : Below w.heap.size w w') : Dk w' fp p l s := by
  obtain ⟨bm, kv, fs, d, h1, h2, h3⟩ := h
  exact ⟨bm, kv, fs, d.below hb, h1, h2, h3⟩

theorem Dk.kept {w' : World} {fp' : List Nat} (h : Dk w fp p l s) (hk : Kept fp' w w') (hf : ∀ x ∈ fp, x ∉ fp') : Dk w' fp p l s := by
  obtain ⟨bm, kv, fs, d, h1, rfl, h3⟩ := h
  exact ⟨bm, kv, fs, d.kept hk hf, h1, rfl, h3⟩

theorem Dk.lt (h : Dk w fp p l s) : ∀ x ∈ fp, x < w.heap.size := by
  obtain ⟨bm, kv, fs, d, h1, rfl, h3⟩ := h
  exact d.lt

theorem Dk.ok (h : Dk w fp p l s) : okA l s := by
  obtain ⟨bm, kv, fs, d, h1, h2, h3⟩ := h
  exact h3

theorem Dk.sorted (h : Dk w fp p l s) : l.Pairwise (fun f g => f.1 < g.1) := by
  obtain ⟨bm, kv, fs, d, rfl, h2, h3⟩ := h
  exact sortedA d.sorted

theorem Outc.trans {w1 w2 : World} {A B : List Ab × Ds} (h : Outc w w1 fp p A) (k : ∀ fp1, Dk w1 fp1 p A.1 A.2 → Kept fp w w1 → Newly w fp fp1 → Outc w1 w2 fp1 p B) : Outc w w2 fp p B := by
  obtain ⟨fp1, d1, k1, n1⟩ := h
  obtain ⟨fp2, d2, k2, n2⟩ := k fp1 d1 k1 n1
  exact ⟨fp2, d2, k1.trans k2 n1, n1.trans n2 k1.size⟩

set_option maxRecDepth 100000 in
set_option maxHeartbeats 2000000 in
theorem Dk.size (h : Dk w fp p l s) (hn : s.ops ≤ 1000000) (nm : ByteArray) (hnm : nm.size ≤ maxLen) : Calls Try.prog 16 #[.pointer (some ⟨p, 0, none⟩), .string nm] w fun e w' =>
    e = .returned (.tuple #[.int .i64 (sizeA (beginA l s) nm.data.toList).1, .int .i64 (sizeA (beginA l s) nm.data.toList).2]) ∧ Outc w w' fp p (beginA l s) := by
  obtain ⟨bm, kv, fs, d, rfl, rfl, ho⟩ := h
  have hok := hide (beginA_ok ho)
  unfold sizeA
  cases he : errA (beginA (fs.map Fl.ab) s) nm.data.toList with
  | some k =>
    have FD := hide (find_err d ho hn nm hnm he)
    have hk := errA_ne he
    have hk0 : ¬ k = 0 := by omega
    clear d ho he hnm
    simp only
    generalize beginA (fs.map Fl.ab) s = A at FD hok ⊢
    go_enter Try.func16, Try.ntmps16
    go_wp2_with (go_at_call 37; refine FD.out.mono ?_; rintro e w1 ⟨rfl, kv1, fs1, s1, L1⟩; have HL := hide L1; clear L1)
    go_ret2
    exact ⟨rfl, HL.out.outc hok.out⟩
  | none =>
    obtain ⟨x, hx⟩ := errA_none he
    have FD := hide (find_ok d ho hn nm hnm he hx)
    clear d ho he hnm
    rw [hx]
    simp only
    clear hx
    generalize beginA (fs.map Fl.ab) s = A at FD hok ⊢
    go_enter Try.func16, Try.ntmps16
    go_wp2_with (go_at_call 37; refine FD.out.mono ?_; rintro e w1 ⟨kv1, fs1, s1, f1, rfl, hl1, hf1, L1⟩; have FA := L1.1.files f1 (look_name hl1).1; have c0 := cell_of_heap FA.cells 0; simp at c0; obtain ⟨va, vc, hvn, _⟩ := FA.rnow.isB.form; rw [hvn] at c0; have e3 : f1.now.length = x.2.1.length := (by rw [← hf1]; rfl); rw [e3] at c0; have HL := hide L1; clear L1 FA hvn hf1 hl1 e3)
    go_ret2
    exact ⟨rfl, HL.out.outc hok.out⟩

set_option maxRecDepth 100000 in
set_option maxHeartbeats 2000000 in
theorem Dk.append (h : Dk w fp p l s) (hn : s.ops ≤ 1000000) (nm : ByteArray) (hnm : nm.size ≤ maxLen) (u : Value) (cs : List Int) (hu : IsB w u cs) (hcl : cs.length ≤ 1073741824) (hux : cs ≠ [] → ∀ x ∈ own u, x ∉ fp) :
    Calls Try.prog 21 #[.pointer (some ⟨p, 0, none⟩), .string nm, u] w fun e w' => e = .returned (.int .i64 (appendA (beginA l s) nm.data.toList cs).1) ∧ Outc w w' fp p (appendA (beginA l s) nm.data.toList cs).2 := by
  obtain ⟨bm, kv, fs, d, rfl, rfl, ho⟩ := h
  have hok := beginA_ok ho
  unfold appendA
  cases he : errA (beginA (fs.map Fl.ab) s) nm.data.toList with
  | some k =>
    have FD := hide (find_err d ho hn nm hnm he)
    have hk := errA_ne he
    have hk0 : ¬ k = 0 := by omega
    have HOK := hide hok
    obtain ⟨ua, uc, rfl, _⟩ := hu.form
    clear d ho he hnm hu hok hux
    simp only
    generalize beginA (fs.map Fl.ab) s = A at FD HOK ⊢
    go_enter Try.func21, Try.ntmps21
    go_wp2_with (go_at_call 37; refine FD.out.mono ?_; rintro e w1 ⟨rfl, kv1, fs1, s1, L1⟩; have HL := hide L1; clear L1)
    go_ret
    exact ⟨rfl, HL.out.outc HOK.out⟩
  | none =>
    obtain ⟨x, hx⟩ := errA_none he
    have FD := hide (find_ok d ho hn nm hnm he hx)
    rw [hx]
    simp only
    have WR := hide (fun (w1 : World) (kv1 : Value) (fs1 : List Fl) (s1 : Ds) (f1 : Fl) (hl1 : look fs1 nm.data.toList = some f1) (hf1 : f1.ab = x) (L1 : Left w w1 p bm kv fs kv1 fs1 s1 (beginA (fs.map Fl.ab) s)) =>
      write_any L1.1 (by have := L1.2.1; rw [← this] at hok; exact hok) hl1 (x.2.1.length : Int) (by
        have e3 : f1.now.length = x.2.1.length := by rw [← hf1]; rfl
        have := (file_len (s := s1) (fs := fs1) (by have := L1.2.1; rw [← this] at hok; exact hok) (look_name hl1).1).1
        omega) u cs (hu.kept L1.2.2.1 hux) hcl (fun hne y hy e => by
          rcases L1.2.2.2 y e with h1 | h1
          · exact hux hne y hy h1
          · have := hu.lt hne y hy
            omega))
    have WOK : Hid (∀ (w1 : World) (kv1 : Value) (fs1 : List Fl) (s1 : Ds), Left w w1 p bm kv fs kv1 fs1 s1 (beginA (fs.map Fl.ab) s) → okA (writeA (beginA (fs.map Fl.ab) s).1 (beginA (fs.map Fl.ab) s).2 x x.2.1.length cs).2.1 (writeA (beginA (fs.map Fl.ab) s).1 (beginA (fs.map Fl.ab) s).2 x x.2.1.length cs).2.2) := fun w1 kv1 fs1 s1 L1 =>
      writeA_ok hok (by rw [← L1.2.1]; exact sortedA L1.1.sorted) hx _ _
    obtain ⟨ua, uc, rfl, _⟩ := hu.form
    clear d ho he hnm hu hok hux hx
    go_enter Try.func21, Try.ntmps21
    go_wp2_with (first
      | (go_at_call 37; refine FD.out.mono ?_; rintro e w1 ⟨kv1, fs1, s1, f1, rfl, hl1, hf1, L1⟩; have FA := L1.1.files f1 (look_name hl1).1; have c0 := cell_of_heap FA.cells 0; simp at c0; obtain ⟨va, vc, hvn, _⟩ := FA.rnow.isB.form; rw [hvn] at c0; have e3 : f1.now.length = x.2.1.length := (by rw [← hf1]; rfl); rw [e3] at c0; have W1 := hide (WR.out w1 kv1 fs1 s1 f1 hl1 hf1 L1); rw [hf1] at W1; have E1 : Hid ((fs1.map Fl.ab, s1) = beginA (fs.map Fl.ab) s) := L1.2.1; have e8 : fs1.map Fl.ab = (beginA (fs.map Fl.ab) s).1 := (congrArg (fun x => x.1) E1.out); have e9 : s1 = (beginA (fs.map Fl.ab) s).2 := (congrArg (fun x => x.2) E1.out); rw [e8, e9] at W1; have HL := hide L1; clear L1 FA hvn hf1 hl1 e3 e8 e9)
      | (go_at_call 40; refine W1.out.mono ?_; rintro e w2 ⟨rfl, fs2, s2, L2⟩; have HL2 := hide L2; clear L2))
    go_ret
    refine ⟨rfl, (Left.trans HL.out HL2.out).outc (WOK.out w1 kv1 fs1 s1 HL.out)⟩
end

end Go.Proofs.Ytdhajmgpakconaa

namespace Go.Proofs.Ytdhajmgpakconaa
open Go.RowKit Go.Maps Go.Sort Go.Shelf

/-- A file, in its place. -/
def insF : List Fl → Fl → List Fl
  | [], f => [f]
  | g :: r, f => if g.name < f.name then g :: insF r f else f :: g :: r

def insA : List Ab → Ab → List Ab
  | [], f => [f]
  | g :: r, f => if g.1 < f.1 then g :: insA r f else f :: g :: r

theorem insF_ab (fs : List Fl) (f : Fl) : (insF fs f).map Fl.ab = insA (fs.map Fl.ab) f.ab := by
  induction fs with
  | nil => rfl
  | cons g r ih =>
    simp only [insF, insA, List.map_cons]
    show _ = if g.name < f.name then _ else _
    split
    · simp [ih]
    · simp

theorem insF_perm (fs : List Fl) (f : Fl) : (insF fs f).Perm (f :: fs) := by
  induction fs with
  | nil => exact List.Perm.refl _
  | cons g r ih =>
    unfold insF
    split
    · exact (ih.cons g).trans (List.Perm.swap f g r)
    · exact List.Perm.refl _

theorem insA_perm (l : List Ab) (x : Ab) : (insA l x).Perm (x :: l) := by
  induction l with
  | nil => exact List.Perm.refl _
  | cons g r ih =>
    unfold insA
    split
    · exact (ih.cons g).trans (List.Perm.swap x g r)
    · exact List.Perm.refl _

theorem name_lt {x y : List UInt8} (h : ¬ x < y) (hne : x ≠ y) : y < x := by
  exact Classical.byContradiction fun h2 => hne (List.le_antisymm (List.not_lt.1 h2) (List.not_lt.1 h))

theorem insF_sorted {fs : List Fl} {f : Fl} (hs : fs.Pairwise (fun f g => f.name < g.name)) (hno : ∀ g ∈ fs, g.name ≠ f.name) : (insF fs f).Pairwise (fun f g => f.name < g.name) := by
  induction fs with
  | nil => simp [insF]
  | cons g r ih =>
    rw [List.pairwise_cons] at hs
    unfold insF
    split
    · rename_i h
      rw [List.pairwise_cons]
      refine ⟨fun y hy => ?_, ih hs.2 (fun y hy => hno y (by simp [hy]))⟩
      rcases List.mem_cons.1 ((insF_perm r f).mem_iff.1 hy) with rfl | hy
      · exact h
      · exact hs.1 y hy
    · rename_i h
      have h1 := name_lt h (hno g (by simp))
      rw [List.pairwise_cons, List.pairwise_cons]
      refine ⟨fun y hy => ?_, hs⟩
      rcases List.mem_cons.1 hy with rfl | hy
      · exact h1
      · exact List.lt_trans h1 (hs.1 y hy)

theorem look_ins (fs : List Fl) (f : Fl) (hno : look fs f.name = none) (n : List UInt8) : look (insF fs f) n = if f.name = n then some f else look fs n := by
  induction fs with
  | nil =>
    unfold look insF
    rw [List.find?_cons]
    by_cases h : f.name = n
    · simp [h]
    · have : (f.name == n) = false := by simpa using h
      simp [this, h]
  | cons g r ih =>
    unfold look at hno
    rw [List.find?_cons] at hno
    cases hg : (g.name == f.name) with
    | true => rw [hg] at hno; simp at hno
    | false =>
      rw [hg] at hno
      have ih := ih hno
      have hgn : g.name ≠ f.name := by simpa using hg
      unfold insF
      split
      · unfold look at ih ⊢
        rw [List.find?_cons, List.find?_cons, ih]
        cases h2 : (g.name == n) with
        | true =>
          have : g.name = n := by simpa using h2
          have hfn : ¬ f.name = n := by rw [← this]; exact Ne.symm hgn
          simp [hfn]
        | false => rfl
      · unfold look
        rw [List.find?_cons]
        cases h2 : (f.name == n) with
        | true =>
          have : f.name = n := by simpa using h2
          rw [if_pos this]
        | false =>
          have : ¬ f.name = n := by simpa using h2
          rw [if_neg this]

theorem lookA_none {l : List Ab} {n : List UInt8} (h : lookA l n = none) : ∀ x ∈ l, x.1 ≠ n := by
  unfold lookA at h
  intro f hf
  simpa using List.find?_eq_none.1 h f hf

theorem keyLit (n : List UInt8) : WideAt.IsKeyLit (.string n) := by trivial

theorem MapIs.ins {D : DataW Unit} {fs : List Fl} {f : Fl} (h : MapIs D fs) (ht : Tidy D) (hno : look fs f.name = none) : MapIs (D.put (.string f.name) (.lit (.int .i64 f.blk))) (insF fs f) := by
  refine ⟨fun n => ?_, fun n => ?_, ?_⟩
  · rw [look_ins fs f hno n]
    by_cases e : f.name = n
    · subst e
      rw [atKey_put_same ht.isMap (keyLit _), if_pos rfl]
    · rw [atKey_put_other (by simpa using fun e2 => e e2.symm), h.at_ n, if_neg e]
  · rw [look_ins fs f hno n]
    by_cases e : f.name = n
    · subst e
      rw [has_put_same ht.isMap (keyLit _), if_pos rfl]
      rfl
    · rw [has_put_other (by simpa using fun e2 => e e2.symm), h.has n, if_neg e]
  · rw [size_put ht, h.has, hno]
    have e := (insF_perm fs f).length_eq
    rw [e, h.size]
    simp

theorem feet_ins (p bm : Nat) (kv : Value) (fs : List Fl) (f : Fl) : (feet p bm kv (insF fs f)).Perm (foot f ++ feet p bm kv fs) := by
  have h1 : (feet p bm kv (insF fs f)).Perm (feet p bm kv ([] ++ f :: fs)) := by
    unfold feet
    exact (((insF_perm fs f).flatMap_right foot).append_left (own kv) |>.cons bm).cons p
  exact h1.trans (feet_perm p bm kv [] fs f)

/-- A new file. -/
def newF (nm : List UInt8) (b : Nat) : Fl := { name := nm, blk := b, vn := .slice none 0 0, vs := .slice none 0 0, now := [], syn := [] }

theorem disk_create {w w1 : World} {p bm : Nat} {kv : Value} {fs : List Fl} {s : Ds} (h : DiskAt w p bm kv fs s) (nm : List UInt8) (hno : look fs nm = none) {D : DataW Unit} (hD : MapIs D fs) (ht : Tidy D)
    (hown : w1.ownsMap Try.prog 9 ptrE bm (fs.length + 1) (D.put (.string nm) (.lit (.int .i64 w.heap.size)))) (hk : Kept [bm] (w.alloc (.cells #[.slice none 0 0, .slice none 0 0] 77)) w1) :
    DiskAt w1 p bm kv (insF fs (newF nm w.heap.size)) s ∧ Kept (feet p bm kv fs) w w1 ∧ Newly w (feet p bm kv fs) (feet p bm kv (insF fs (newF nm w.heap.size))) := by
  have hb : Below w.heap.size w (w.alloc (.cells #[.slice none 0 0, .slice none 0 0] 77)) := (Below.refl _ w).alloc (Nat.le_refl _) _
  have h1 := h.below hb
  have hnd := h.apart
  have hlt := h.lt
  have hfeet : ∀ x ∈ feet p bm kv fs, x ≠ bm → x ∉ [bm] := fun x _ e => by simpa using e
  have hbm : ∀ x, x ∈ own kv ∨ x ∈ fs.flatMap foot → x ≠ bm := fun x hx e => by
    subst e
    unfold feet at hnd
    rw [List.nodup_cons, List.nodup_cons] at hnd
    exact hnd.2.1 (List.mem_append.2 hx)
  have hpb : p ≠ bm := fun e => by
    subst e
    unfold feet at hnd
    rw [List.nodup_cons] at hnd
    exact hnd.1 (by simp)
  have hkk : Kept (feet p bm kv fs) w w1 := (Kept.of_below (fp := feet p bm kv fs) hb).trans hk (Newly.of_sub (by simp [feet]))
  refine ⟨⟨?_, ⟨_, ?_, hD.ins (f := newF nm w.heap.size) ht hno⟩, ?_, ?_, ?_, insF_sorted h.sorted (look_none hno)⟩, hkk, ?_⟩
  · exact (hk.block p (by simp; have := hlt p (by simp [feet]); omega) (by simpa using hpb)).trans h1.cells
  · rw [(insF_perm fs (newF nm w.heap.size)).length_eq]
    exact hown
  · intro f hf
    rcases List.mem_cons.1 ((insF_perm fs _).mem_iff.1 hf) with rfl | hf
    · refine ⟨?_, RowB.nil _, RowB.nil _, by simp [foot, newF, own, Value.ownBlock]⟩
      have hlt2 := hlt bm (by simp [feet])
      show w1.heap[w.heap.size]? = _
      rw [hk.block w.heap.size (by simp) (by simp; omega)]
      exact heap_alloc_new w _
    · exact (h1.files f hf).kept hk (fun x hx => by simpa using hbm x (.inr (List.mem_flatMap.2 ⟨f, hf, hx⟩)))
  · exact h1.keep.kept hk (fun x hx => by simpa using hbm x (.inl hx))
  · refine (feet_ins p bm kv fs _).nodup_iff.2 ?_
    rw [List.nodup_append]
    refine ⟨by simp [foot, newF, own, Value.ownBlock], hnd, fun x hx y hy e => ?_⟩
    subst e
    simp [foot, newF, own, Value.ownBlock] at hx
    have := hlt x hy
    omega
  · intro x hx
    rcases List.mem_append.1 ((feet_ins p bm kv fs _).mem_iff.1 hx) with h2 | h2
    · simp [foot, newF, own, Value.ownBlock] at h2
      exact .inr (by omega)
    · exact .inl h2

end Go.Proofs.Ytdhajmgpakconaa

namespace Go.Proofs.Ytdhajmgpakconaa
open Go.RowKit Go.Maps Go.Sort Go.Shelf

/-- What Create answers, and leaves. -/
def createA (A : List Ab × Ds) (n : List UInt8) : Int × (List Ab × Ds) :=
  if A.2.down then (7, A) else if mayB n = false then (1, A) else match lookA A.1 n with | some _ => (5, A) | none => (0, (insA A.1 (n, [], []), A.2))

theorem usedB_ins (l : List Ab) (x : Ab) : usedB (insA l x) = sec x.2.1.length + usedB l := by
  induction l with
  | nil => exact usedB_cons [] x
  | cons g r ih =>
    unfold insA
    split
    · rw [usedB_cons, ih, usedB_cons]
      omega
    · rw [usedB_cons]

theorem createA_ok {A : List Ab × Ds} (h : okA A.1 A.2) (n : List UInt8) (hl : (A.1.length : Int) + 1 ≤ A.2.ops) : okA (createA A n).2.1 (createA A n).2.2 := by
  unfold createA
  split
  · exact h
  · split
    · exact h
    · rename_i h1 h2
      cases lookA A.1 n with
      | some x => exact h
      | none =>
        have hp := insA_perm A.1 (n, [], [])
        have hu : usedB (insA A.1 (n, [], [])) = usedB A.1 := by
          rw [usedB_ins]
          simp [sec]
        refine ⟨fun x hx => ?_, by simp only; rw [hu]; exact h.used, h.fits, h.room, h.ops, ?_, h.left, h.keep, fun x hx => ?_⟩
        · rcases List.mem_cons.1 (hp.mem_iff.1 hx) with rfl | hx
          · exact Nat.le_refl _
          · exact h.ok x hx
        · simp only [hp.length_eq, List.length_cons]
          omega
        · rcases List.mem_cons.1 (hp.mem_iff.1 hx) with rfl | hx
          · simpa using h2
          · exact h.names x hx

theorem beginA_len (l : List Ab) (s : Ds) : (beginA l s).1.length = l.length := by
  unfold beginA
  split
  · rfl
  · split
    · rfl
    · exact crashA_len _ _ _

section
variable {w : World} {fp : List Nat} {p : Nat} {l : List Ab} {s : Ds}

set_option maxRecDepth 100000 in
set_option maxHeartbeats 4000000 in
theorem Dk.create (h : Dk w fp p l s) (hn : s.ops ≤ 1000000) (nm : ByteArray) (hnm : nm.size ≤ maxLen) : Calls Try.prog 20 #[.pointer (some ⟨p, 0, none⟩), .string nm] w fun e w' =>
    e = .returned (.int .i64 (createA (beginA l s) nm.data.toList).1) ∧ Outc w w' fp p (createA (beginA l s) nm.data.toList).2 := by
  obtain ⟨bm, kv, fs, d, rfl, rfl, ho⟩ := h
  have hok := beginA_ok ho
  have hcok := createA_ok hok nm.data.toList (by rw [beginA_len, beginA_ops]; have := ho.len; omega)
  have BG := begin_any d ho hn
  have hfl : (beginA (fs.map Fl.ab) s).1.length ≤ 1000000 := by rw [beginA_len]; have := ho.len; omega
  generalize beginA (fs.map Fl.ab) s = A at BG hok hcok hfl ⊢
  have HOK := hide hok
  have HNM := hide hnm
  have MB := hide (fun W => mayBe_any nm hnm W)
  clear d ho hok
  unfold createA at hcok ⊢
  by_cases hd : A.2.down = true
  · rw [if_pos hd] at BG ⊢
    have HB := hide BG
    clear BG hcok hfl
    go_enter Try.func20, Try.ntmps20
    go_wp2_with (go_at_call 38; refine HB.out.mono ?_; rintro e w1 ⟨rfl, kv1, fs1, s1, L1⟩; have HL := hide L1; clear L1)
    go_ret
    exact ⟨rfl, HL.out.outc HOK.out⟩
  · rw [if_neg hd] at BG hcok ⊢
    have HB := hide BG
    clear BG
    cases hm : mayB nm.data.toList with
    | false =>
      rw [hm] at MB
      simp only [if_true]
      clear hcok hfl
      go_enter Try.func20, Try.ntmps20
      go_wp2_with (first | (go_at_call 38; refine HB.out.mono ?_; rintro e w1 ⟨rfl, kv1, fs1, s1, L1⟩; have HL := hide L1; clear L1) | (go_at_call 39; refine (MB.out _).mono ?_; rintro e w2 ⟨rfl, rfl⟩))
      go_ret
      exact ⟨rfl, HL.out.outc HOK.out⟩
    | true =>
      rw [hm] at MB hcok
      simp only [Bool.true_eq_false, if_false] at hcok ⊢
      cases hlk : lookA A.1 nm.data.toList with
      | some x =>
        have HLK := hide hlk
        clear hcok hlk hfl
        go_enter Try.func20, Try.ntmps20
        go_wp2_with (first | (go_at_call 38; refine HB.out.mono ?_; rintro e w1 ⟨rfl, kv1, fs1, s1, L1⟩; have c0 := L1.1.cellAt.1; have LK := L1.1.look nm HNM.out; have e1 : lookA (fs1.map Fl.ab) nm.data.toList = some x := (by have := congrArg (fun y => y.1) L1.2.1; simp only at this; rw [this]; exact HLK.out); rw [look_ab] at e1; obtain ⟨f1, hf1, _⟩ := Option.map_eq_some_iff.1 e1; rw [hf1] at LK; unfold ptrOf at LK; simp only [Option.map_some] at LK; have HL := hide L1; clear L1 e1 hf1) | (go_at_call 39; refine (MB.out _).mono ?_; rintro e w2 ⟨rfl, rfl⟩))
        go_ret
        exact ⟨rfl, HL.out.outc HOK.out⟩
      | none =>
        rw [hlk] at hcok
        have HLK := hide hlk
        have HCOK := hide hcok
        have HFL := hide hfl
        clear hcok hlk hfl
        have hz : Hid (∀ (fs1 : List Fl) (s1 : Ds), (fs1.map Fl.ab, s1) = A → fs1.length < maxLen) := fun fs1 s1 e => by
          have := congrArg (fun y => y.1.length) e
          simp only [List.length_map] at this
          have h2 := HFL.out
          unfold maxLen
          omega
        go_enter Try.func20, Try.ntmps20
        go_wp2_with (first | (go_at_call 38; refine HB.out.mono ?_; rintro e w1 ⟨rfl, kv1, fs1, s1, L1⟩; have c0 := L1.1.cellAt.1; have LK := L1.1.look nm HNM.out; have e1 : lookA (fs1.map Fl.ab) nm.data.toList = none := (by have := congrArg (fun y => y.1) L1.2.1; simp only at this; rw [this]; exact HLK.out); rw [look_ab] at e1; have hf1 : look fs1 nm.data.toList = none := Option.map_eq_none_iff.1 e1; rw [hf1] at LK; unfold ptrOf at LK; simp only [Option.map_none] at LK; have hpl := L1.1.lt p (by simp [feet]); obtain ⟨D, hown, hD⟩ := L1.1.map; have HOW := hide hown; have HD := hide hD; have HF1 := hide hf1; have HL := hide L1; clear L1 e1 hf1 hown hD) | (go_at_call 39; refine (MB.out _).mono ?_; rintro e w2 ⟨rfl, rfl⟩) | (at_mapUpdate; refine wpList_mapUpdate_own _ rfl _ _ _ 63 rfl 9 73 strLaw Try.underlying63 ptrE bm fs1.length D rfl (HOW.out.alloc _) (hz.out fs1 s1 HL.out.2.1) _ _ (.string nm.data.toList) rfl rfl (WideMaps.keyOf_string_mk Try.underlying9 HNM.out) _ [] (ptrE_some _) ?_; intro w3 o3 g3; have O3 := hide o3; have G3 := hide g3; clear o3 g3))
        go_ret
        refine ⟨rfl, ?_⟩
        have q := disk_create HL.out.1 nm.data.toList HF1.out HD.out (HOW.out.tidy strLaw) O3.out (Kept.of_grown G3.out)
        have L2 : Left w2 w3 p bm kv1 fs1 kv1 (insF fs1 (newF nm.data.toList w2.heap.size)) s1 (insA A.1 (nm.data.toList, [], []), A.2) := by
          refine ⟨q.1, ?_, q.2.1, q.2.2⟩
          rw [insF_ab]
          have e1 := congrArg (fun y => y.1) HL.out.2.1
          have e2 := congrArg (fun y => y.2) HL.out.2.1
          simp only at e1 e2
          rw [e1, e2]
          rfl
        exact (Left.trans HL.out L2).outc HCOK.out

theorem Dk.crash (h : Dk w fp p l s) (hn : s.ops ≤ 1048576) (u : Value) (ks : List Bool) (hu : IsK w u ks) (hux : ks ≠ [] → ∀ x ∈ own u, x ∉ fp) (hkl : ks.length ≤ 1099511627776) :
    Calls Try.prog 13 #[.pointer (some ⟨p, 0, none⟩), u] w fun e w' => e = .returned (.tuple #[]) ∧ Outc w w' fp p (crashA ks l s) := by
  obtain ⟨bm, kv, fs, d, rfl, rfl, ho⟩ := h
  refine (crash_all d ho hn u ks hu hux hkl).mono ?_
  rintro e w' ⟨rfl, kv1, fs1, s1, L⟩
  exact ⟨rfl, L.outc (crashA_ok ho)⟩

/-- What Arm leaves. -/
def armA (l : List Ab) (s : Ds) (n : Int) (ks : List Bool) : List Ab × Ds := if n < 1 then (l, { s with left := 0, keep := [] }) else (l, { s with left := n, keep := ks })

theorem Dk.arm (h : Dk w fp p l s) (n : Int) (hn : n ≤ 9223372036854775807) (u : Value) (ks : List Bool) (hu : IsK w u ks) (hux : ks ≠ [] → ∀ x ∈ own u, x ∉ fp) (hkl : ks.length ≤ 1099511627776) :
    Calls Try.prog 29 #[.pointer (some ⟨p, 0, none⟩), .int .i64 n, u] w fun e w' => e = .returned (.tuple #[]) ∧ Outc w w' fp p (armA l s n ks) := by
  obtain ⟨bm, kv, fs, d, rfl, rfl, ho⟩ := h
  unfold armA
  by_cases h1 : n < 1
  · rw [if_pos h1]
    refine (arm_no d n h1 u).mono ?_
    rintro e w' ⟨rfl, d1, k1⟩
    exact ⟨rfl, _, ⟨bm, _, fs, d1, rfl, rfl, ⟨ho.ok, ho.used, ho.fits, ho.room, ho.ops, ho.len, ⟨by simp, by simp⟩, by simp, ho.names⟩⟩, k1.mono (by simp [feet]), Newly.of_sub feet_sub_nil⟩
  · rw [if_neg h1]
    refine (arm_go d n (by omega) u ks hu (fun hne x hx e => hux hne x hx (by simp [feet, e])) hkl).mono ?_
    rintro e w' ⟨rfl, kv1, d1, k1, n1⟩
    refine ⟨rfl, _, ⟨bm, kv1, fs, d1, rfl, rfl, ⟨ho.ok, ho.used, ho.fits, ho.room, ho.ops, ho.len, ⟨by simp only; omega, hn⟩, hkl, ho.names⟩⟩, k1.mono (by simp [feet]), fun x hx => ?_⟩
    simp only [feet, List.mem_cons, List.mem_append] at hx ⊢
    rcases hx with hx | hx | hx | hx
    · exact .inl (.inl hx)
    · exact .inl (.inr (.inl hx))
    · exact .inr (n1 x hx)
    · exact .inl (.inr (.inr (.inr hx)))

theorem Dk.restart (h : Dk w fp p l s) : Calls Try.prog 14 #[.pointer (some ⟨p, 0, none⟩)] w fun e w' => e = .returned (.tuple #[]) ∧ Outc w w' fp p (l, { s with down := false }) := by
  obtain ⟨bm, kv, fs, d, rfl, rfl, ho⟩ := h
  refine (restart_any d).mono ?_
  rintro e w' ⟨rfl, d1, k1⟩
  exact ⟨rfl, _, ⟨bm, kv, fs, d1, rfl, rfl, ⟨ho.ok, ho.used, ho.fits, ho.room, ho.ops, ho.len, ho.left, ho.keep, ho.names⟩⟩, k1.mono (by simp [feet]), Newly.refl _ _⟩

theorem Dk.down (h : Dk w fp p l s) : Calls Try.prog 30 #[.pointer (some ⟨p, 0, none⟩)] w fun e w' => e = .returned (.bool s.down) ∧ w' = w := by
  obtain ⟨bm, kv, fs, d, rfl, rfl, ho⟩ := h
  exact down_any d
theorem Dk.used (h : Dk w fp p l s) : Calls Try.prog 28 #[.pointer (some ⟨p, 0, none⟩)] w fun e w' => e = .returned (.int .i64 s.used) ∧ w' = w := by
  obtain ⟨bm, kv, fs, d, rfl, rfl, ho⟩ := h
  exact used_any d
end

/-- A new disk. -/
theorem new_dk (room : Int) (hr : room ≤ 67108864) (w : World) : Calls Try.prog 11 #[.int .i64 room] w fun e w' => e = .returned (.pointer (some ⟨w.heap.size + 1, 0, none⟩)) ∧
    ∃ fp, Dk w' fp (w.heap.size + 1) [] { room := max room 0, used := 0, ops := 0, down := false, left := 0, keep := [] } ∧ Below w.heap.size w w' ∧ ∀ x ∈ fp, w.heap.size ≤ x := by
  refine (new_any room w).mono ?_
  rintro e w' ⟨rfl, d, b⟩
  refine ⟨rfl, _, ⟨_, _, _, d, rfl, rfl, ⟨by simp [okAb], rfl, by simp only; omega, by simp only; omega, by simp, by simp, ⟨by simp, by simp⟩, by simp, by simp⟩⟩, b, ?_⟩
  intro x hx
  simp [feet, own, Value.ownBlock] at hx
  omega

end Go.Proofs.Ytdhajmgpakconaa

namespace Go.Proofs.Ytdhajmgpakconaa
open Go.RowKit Go.Maps Go.Sort Go.Shelf

/-- A disk of the call's own, all of whose blocks lie from B on. -/
def Sd (B : Nat) (w0 w : World) (p : Nat) (l : List Ab) (s : Ds) : Prop := ∃ fp, Dk w fp p l s ∧ Below B w0 w ∧ (∀ x ∈ fp, B ≤ x) ∧ B ≤ w.heap.size

section
variable {B : Nat} {w0 w : World} {p : Nat} {l : List Ab} {s : Ds}

theorem Outc.sd {w' : World} {fp : List Nat} {A : List Ab × Ds} (h : Outc w w' fp p A) (hb : Below B w0 w) (hf : ∀ x ∈ fp, B ≤ x) (hB : B ≤ w.heap.size) : Sd B w0 w' p A.1 A.2 := by
  obtain ⟨fp', d, k, n⟩ := h
  refine ⟨fp', d, hb.trans (k.below hB hf), fun x hx => ?_, Nat.le_trans hB k.size⟩
  rcases n x hx with h1 | h1
  · exact hf x h1
  · omega

theorem Sd.base (h : Sd B w0 w p l s) : B ≤ w.heap.size := by
  obtain ⟨fp, d, b, f, hB⟩ := h
  exact hB
theorem Sd.bel (h : Sd B w0 w p l s) : Below B w0 w := by
  obtain ⟨fp, d, b, f, hB⟩ := h
  exact b

theorem Sd.below {w' : World} (h : Sd B w0 w p l s) (hb : Below w.heap.size w w') : Sd B w0 w' p l s := by
  obtain ⟨fp, d, b, f, hB⟩ := h
  exact ⟨fp, d.below hb, b.trans (hb.mono hB), f, Nat.le_trans hB hb.size⟩

theorem Sd.new (room : Int) (hr : room ≤ 67108864) (w : World) (hb : Below B w0 w) (hB : B ≤ w.heap.size) : Calls Try.prog 11 #[.int .i64 room] w fun e w' => e = .returned (.pointer (some ⟨w.heap.size + 1, 0, none⟩)) ∧
    Sd B w0 w' (w.heap.size + 1) [] { room := max room 0, used := 0, ops := 0, down := false, left := 0, keep := [] } := by
  refine (new_dk room hr w).mono ?_
  rintro e w' ⟨rfl, fp, d, b, f⟩
  exact ⟨rfl, fp, d, hb.trans (b.mono hB), fun x hx => Nat.le_trans hB (f x hx), Nat.le_trans hB b.size⟩

theorem Sd.create (h : Sd B w0 w p l s) (hn : s.ops ≤ 1000000) (nm : ByteArray) (hnm : nm.size ≤ maxLen) {k : Int} {l' : List Ab} {s' : Ds} (hr : createA (beginA l s) nm.data.toList = (k, (l', s'))) :
    Calls Try.prog 20 #[.pointer (some ⟨p, 0, none⟩), .string nm] w fun e w' => e = .returned (.int .i64 k) ∧ Sd B w0 w' p l' s' := by
  obtain ⟨fp, d, b, f, hB⟩ := h
  refine (d.create hn nm hnm).mono ?_
  rintro e w' ⟨rfl, o⟩
  rw [hr] at o ⊢
  exact ⟨rfl, o.sd b f hB⟩

/-- Append, of bytes that came in. -/
theorem Sd.append (h : Sd B w0 w p l s) (hn : s.ops ≤ 1000000) (nm : ByteArray) (hnm : nm.size ≤ maxLen) (u : Value) (cs : List Int) (hu : IsB w u cs) (hcl : cs.length ≤ 1073741824) (hux : cs ≠ [] → ∀ x ∈ own u, x < B) {k : Int} {l' : List Ab} {s' : Ds} (hr : appendA (beginA l s) nm.data.toList cs = (k, (l', s'))) :
    Calls Try.prog 21 #[.pointer (some ⟨p, 0, none⟩), .string nm, u] w fun e w' => e = .returned (.int .i64 k) ∧ Sd B w0 w' p l' s' := by
  obtain ⟨fp, d, b, f, hB⟩ := h
  refine (d.append hn nm hnm u cs hu hcl (fun hne x hx e => by have := hux hne x hx; have := f x e; omega)).mono ?_
  rintro e w' ⟨rfl, o⟩
  rw [hr] at o ⊢
  exact ⟨rfl, o.sd b f hB⟩

/-- Append, of bytes that were made behind the disk's last operation. -/
theorem Sd.appendN {w1 : World} (h : Sd B w0 w p l s) (hn : s.ops ≤ 1000000) (nm : ByteArray) (hnm : nm.size ≤ maxLen) (u : Value) (cs : List Int) (hb : Below w.heap.size w w1) (hu : IsB w1 u cs) (hcl : cs.length ≤ 1073741824) (hux : ∀ x ∈ own u, w.heap.size ≤ x) {k : Int} {l' : List Ab} {s' : Ds} (hr : appendA (beginA l s) nm.data.toList cs = (k, (l', s'))) :
    Calls Try.prog 21 #[.pointer (some ⟨p, 0, none⟩), .string nm, u] w1 fun e w' => e = .returned (.int .i64 k) ∧ Sd B w0 w' p l' s' := by
  obtain ⟨fp, d, b, f, hB⟩ := h
  have hlt := d.lt
  refine ((d.below hb).append hn nm hnm u cs hu hcl (fun _ x hx e => by have := hux x hx; have := hlt x e; omega)).mono ?_
  rintro e w' ⟨rfl, o⟩
  rw [hr] at o ⊢
  exact ⟨rfl, o.sd (b.trans (hb.mono hB)) f (Nat.le_trans hB hb.size)⟩

theorem Sd.size (h : Sd B w0 w p l s) (hn : s.ops ≤ 1000000) (nm : ByteArray) (hnm : nm.size ≤ maxLen) {k m : Int} {l' : List Ab} {s' : Ds} (hr : beginA l s = (l', s')) (hm : sizeA (l', s') nm.data.toList = (m, k)) :
    Calls Try.prog 16 #[.pointer (some ⟨p, 0, none⟩), .string nm] w fun e w' => e = .returned (.tuple #[.int .i64 m, .int .i64 k]) ∧ Sd B w0 w' p l' s' := by
  obtain ⟨fp, d, b, f, hB⟩ := h
  refine (d.size hn nm hnm).mono ?_
  rintro e w' ⟨rfl, o⟩
  rw [hr] at o ⊢
  rw [hm]
  exact ⟨rfl, o.sd b f hB⟩

theorem Sd.crash (h : Sd B w0 w p l s) (hn : s.ops ≤ 1048576) (u : Value) (ks : List Bool) (hu : IsK w u ks) (hux : ks ≠ [] → ∀ x ∈ own u, x < B) (hkl : ks.length ≤ 1099511627776) {l' : List Ab} {s' : Ds} (hr : crashA ks l s = (l', s')) :
    Calls Try.prog 13 #[.pointer (some ⟨p, 0, none⟩), u] w fun e w' => e = .returned (.tuple #[]) ∧ Sd B w0 w' p l' s' := by
  obtain ⟨fp, d, b, f, hB⟩ := h
  refine (d.crash hn u ks hu (fun hne x hx e => by have := hux hne x hx; have := f x e; omega) hkl).mono ?_
  rintro e w' ⟨rfl, o⟩
  rw [hr] at o
  exact ⟨rfl, o.sd b f hB⟩

theorem Sd.arm (h : Sd B w0 w p l s) (n : Int) (hn : n ≤ 9223372036854775807) (u : Value) (ks : List Bool) (hu : IsK w u ks) (hux : ks ≠ [] → ∀ x ∈ own u, x < B) (hkl : ks.length ≤ 1099511627776) {l' : List Ab} {s' : Ds} (hr : armA l s n ks = (l', s')) :
    Calls Try.prog 29 #[.pointer (some ⟨p, 0, none⟩), .int .i64 n, u] w fun e w' => e = .returned (.tuple #[]) ∧ Sd B w0 w' p l' s' := by
  obtain ⟨fp, d, b, f, hB⟩ := h
  refine (d.arm n hn u ks hu (fun hne x hx e => by have := hux hne x hx; have := f x e; omega) hkl).mono ?_
  rintro e w' ⟨rfl, o⟩
  rw [hr] at o
  exact ⟨rfl, o.sd b f hB⟩

theorem Sd.restart (h : Sd B w0 w p l s) : Calls Try.prog 14 #[.pointer (some ⟨p, 0, none⟩)] w fun e w' => e = .returned (.tuple #[]) ∧ Sd B w0 w' p l { s with down := false } := by
  obtain ⟨fp, d, b, f, hB⟩ := h
  refine d.restart.mono ?_
  rintro e w' ⟨rfl, o⟩
  exact ⟨rfl, o.sd b f hB⟩

theorem Sd.down (h : Sd B w0 w p l s) : Calls Try.prog 30 #[.pointer (some ⟨p, 0, none⟩)] w fun e w' => e = .returned (.bool s.down) ∧ w' = w := by
  obtain ⟨fp, d, _⟩ := h
  exact d.down
theorem Sd.used (h : Sd B w0 w p l s) : Calls Try.prog 28 #[.pointer (some ⟨p, 0, none⟩)] w fun e w' => e = .returned (.int .i64 s.used) ∧ w' = w := by
  obtain ⟨fp, d, _⟩ := h
  exact d.used
end

end Go.Proofs.Ytdhajmgpakconaa

namespace Go.Proofs.Ytdhajmgpakconaa
open Go.RowKit Go.Maps Go.Sort Go.Shelf

section
variable {w : World} {fp : List Nat} {p : Nat} {l : List Ab} {s : Ds}

set_option maxRecDepth 100000 in
set_option maxHeartbeats 2000000 in
theorem Dk.readAt_err (h : Dk w fp p l s) (hn : s.ops ≤ 1000000) (nm : ByteArray) (hnm : nm.size ≤ maxLen) (at_ n : Int) {k : Int} (he : errA (beginA l s) nm.data.toList = some k) :
    Calls Try.prog 17 #[.pointer (some ⟨p, 0, none⟩), .string nm, .int .i64 at_, .int .i64 n] w fun e w' => e = .returned (.tuple #[.slice none 0 0, .int .i64 k]) ∧ Outc w w' fp p (beginA l s) := by
  obtain ⟨bm, kv, fs, d, rfl, rfl, ho⟩ := h
  have hok := hide (beginA_ok ho)
  have FD := hide (find_err d ho hn nm hnm he)
  have hk := errA_ne he
  have hk0 : ¬ k = 0 := by omega
  clear d ho he hnm
  generalize beginA (fs.map Fl.ab) s = A at FD hok ⊢
  go_enter Try.func17, Try.ntmps17
  go_wp2_with (go_at_call 37; refine FD.out.mono ?_; rintro e w1 ⟨rfl, kv1, fs1, s1, L1⟩; have HL := hide L1; clear L1)
  go_ret2
  exact ⟨rfl, HL.out.outc hok.out⟩

set_option maxRecDepth 100000 in
set_option maxHeartbeats 2000000 in
theorem Dk.sync_err (h : Dk w fp p l s) (hn : s.ops ≤ 1000000) (nm : ByteArray) (hnm : nm.size ≤ maxLen) {k : Int} (he : errA (beginA l s) nm.data.toList = some k) :
    Calls Try.prog 48 #[.pointer (some ⟨p, 0, none⟩), .string nm] w fun e w' => e = .returned (.int .i64 k) ∧ Outc w w' fp p (beginA l s) := by
  obtain ⟨bm, kv, fs, d, rfl, rfl, ho⟩ := h
  have hok := hide (beginA_ok ho)
  have FD := hide (find_err d ho hn nm hnm he)
  have hk := errA_ne he
  have hk0 : ¬ k = 0 := by omega
  clear d ho he hnm
  generalize beginA (fs.map Fl.ab) s = A at FD hok ⊢
  go_enter Try.func48, Try.ntmps48
  go_wp2_with (go_at_call 37; refine FD.out.mono ?_; rintro e w1 ⟨rfl, kv1, fs1, s1, L1⟩; have HL := hide L1; clear L1)
  go_ret
  exact ⟨rfl, HL.out.outc hok.out⟩

end

end Go.Proofs.Ytdhajmgpakconaa

namespace Go.Proofs.Ytdhajmgpakconaa
open Go.RowKit Go.Maps Go.Sort Go.Shelf

theorem look_del {ds rs : List Fl} {f : Fl} (hs : (ds ++ f :: rs).Pairwise (fun f g => f.name < g.name)) (n : List UInt8) : look (ds ++ rs) n = if f.name = n then none else look (ds ++ f :: rs) n := by
  rw [List.pairwise_append, List.pairwise_cons] at hs
  unfold look
  rw [List.find?_append, List.find?_append, List.find?_cons]
  by_cases h : f.name = n
  · subst h
    rw [if_pos rfl]
    have e1 : ds.find? (fun g => g.name == f.name) = none := List.find?_eq_none.2 fun g hg => by simpa using lt_ne (hs.2.2 g hg f (by simp))
    have e2 : rs.find? (fun g => g.name == f.name) = none := List.find?_eq_none.2 fun g hg => by simpa using Ne.symm (lt_ne (hs.2.1.1 g hg))
    rw [e1, e2]
    rfl
  · have e : (f.name == n) = false := by simpa using h
    rw [e, if_neg h]

theorem MapIs.del {D : DataW Unit} {ds rs : List Fl} {f : Fl} (h : MapIs D (ds ++ f :: rs)) (ht : Tidy D) (hs : (ds ++ f :: rs).Pairwise (fun f g => f.name < g.name)) : MapIs (D.del (.string f.name)) (ds ++ rs) := by
  have hlk : look (ds ++ f :: rs) f.name = some f := look_of_mem hs (by simp)
  refine ⟨fun n => ?_, fun n => ?_, ?_⟩
  · rw [look_del hs n]
    by_cases e : f.name = n
    · subst e
      rw [atKey_del_same, if_pos rfl]
    · rw [atKey_del_other (by simpa using fun e2 => e e2.symm), h.at_ n, if_neg e]
  · rw [look_del hs n]
    by_cases e : f.name = n
    · subst e
      rw [has_del_same, if_pos rfl]
      rfl
    · rw [has_del_other (by simpa using fun e2 => e e2.symm), h.has n, if_neg e]
  · have e := size_del (k := .string f.name) ht
    rw [h.has, hlk, h.size] at e
    simp at e ⊢
    omega

theorem disk_drop {w w1 w2 : World} {p bm : Nat} {kv : Value} {ds rs : List Fl} {f : Fl} {s s' : Ds} (h : DiskAt w p bm kv (ds ++ f :: rs) s) (hk1 : Kept [p] w w1) (hc : w1.heap[p]? = some (.cells (diskCells bm kv s') 70 (0, 0))) (hs : s'.keep = s.keep)
    {D : DataW Unit} (hD : MapIs D (ds ++ f :: rs)) (ht : Tidy D) (hown : w2.ownsMap Try.prog 9 ptrE bm (ds ++ f :: rs).length (D.del (.string f.name))) (hk : Kept [bm] w1 w2) :
    DiskAt w2 p bm kv (ds ++ rs) s' ∧ Kept (feet p bm kv (ds ++ f :: rs)) w w2 ∧ Newly w (feet p bm kv (ds ++ f :: rs)) (feet p bm kv (ds ++ rs)) := by
  have h1 := h.put0 hk1 hc hs
  have hnd := h1.apart
  have hsub : ∀ x ∈ feet p bm kv (ds ++ rs), x ∈ feet p bm kv (ds ++ f :: rs) := fun x hx => (feet_perm p bm kv ds rs f).mem_iff.2 (List.mem_append.2 (.inr hx))
  have hnd2 := (feet_perm p bm kv ds rs f).nodup_iff.1 hnd
  rw [List.nodup_append] at hnd2
  have hnd3 := hnd2.2.1
  have hbm : ∀ x, x ∈ own kv ∨ x ∈ (ds ++ rs).flatMap foot → x ≠ bm := fun x hx e => by
    subst e
    unfold feet at hnd3
    rw [List.nodup_cons, List.nodup_cons] at hnd3
    exact hnd3.2.1 (List.mem_append.2 hx)
  have hpb : p ≠ bm := fun e => by
    subst e
    unfold feet at hnd3
    rw [List.nodup_cons] at hnd3
    exact hnd3.1 (by simp)
  have hmd := hD.del ht h.sorted
  have hsz : Maps.size (D.del (.string f.name)) = (ds ++ rs).length := hmd.size
  refine ⟨⟨?_, ⟨_, ?_, hmd⟩, ?_, ?_, hnd3, ?_⟩, ?_, Newly.of_sub hsub⟩
  · exact (hk.block p (h1.lt p (by simp [feet])) (by simpa using hpb)).trans h1.cells
  · obtain ⟨es, clock, hb, F, hle, hD2⟩ := hown
    refine ⟨es, clock, hb, F, ?_, hD2⟩
    rw [← hsz, hD2]
    simp [Maps.size, length_sorted]
  · intro g hg
    have hg2 : g ∈ ds ++ f :: rs := by
      rcases List.mem_append.1 hg with hg | hg
      · simp [hg]
      · simp [hg]
    exact (h1.files g hg2).kept hk (fun x hx => by simpa using hbm x (.inr (List.mem_flatMap.2 ⟨g, hg, hx⟩)))
  · exact h1.keep.kept hk (fun x hx => by simpa using hbm x (.inl hx))
  · have := h.sorted
    rw [List.pairwise_append, List.pairwise_cons] at this
    rw [List.pairwise_append]
    exact ⟨this.1, this.2.1.2, fun a ha b hb => this.2.2 a ha b (by simp [hb])⟩
  · exact (hk1.mono (fp' := feet p bm kv (ds ++ f :: rs)) (by simp [feet])).trans hk (Newly.of_sub (by simp [feet]))

/-- All files but the one of a name. -/
def delA (l : List Ab) (n : List UInt8) : List Ab := l.filter (fun y => !(y.1 == n))

theorem delA_split {a b : List Ab} {x : Ab} (h : (a ++ x :: b).Pairwise (fun f g => f.1 < g.1)) : delA (a ++ x :: b) x.1 = a ++ b := by
  rw [List.pairwise_append, List.pairwise_cons] at h
  unfold delA
  rw [List.filter_append, List.filter_cons, if_neg (by simp)]
  have e1 : a.filter (fun y => !(y.1 == x.1)) = a := List.filter_eq_self.2 fun z hz => by simpa using lt_ne (h.2.2 z hz x (by simp))
  have e2 : b.filter (fun y => !(y.1 == x.1)) = b := List.filter_eq_self.2 fun z hz => by simpa using Ne.symm (lt_ne (h.2.1.1 z hz))
  rw [e1, e2]

/-- What Remove leaves. -/
def removeA (A : List Ab × Ds) (x : Ab) : List Ab × Ds := (delA A.1 x.1, { A.2 with used := A.2.used - sec x.2.1.length })

theorem removeA_ok {a b : List Ab} {x : Ab} {s : Ds} (h : okA (a ++ x :: b) s) : okA (a ++ b) { s with used := s.used - sec x.2.1.length } := by
  have h1 := h.used
  have h2 := h.len
  have h3 := h.fits
  have h4 := sec_nonneg x.2.1.length
  rw [usedB_append, usedB_cons] at h1
  have hm : ∀ y ∈ a ++ b, y ∈ a ++ x :: b := fun y hy => by
    rcases List.mem_append.1 hy with hy | hy
    · simp [hy]
    · simp [hy]
  refine ⟨fun y hy => h.ok y (hm y hy), ?_, ?_, h.room, h.ops, ?_, h.left, h.keep, fun y hy => h.names y (hm y hy)⟩
  · rw [usedB_append]
    simp only
    omega
  · simp only
    omega
  · simp only [List.length_append, List.length_cons] at h2 ⊢
    omega

end Go.Proofs.Ytdhajmgpakconaa

namespace Go.Proofs.Ytdhajmgpakconaa
open Go.RowKit Go.Maps Go.Sort Go.Shelf

theorem read_list (now : List Int) (a m : Nat) (h : a + m ≤ now.length) : (zs0 m).take 0 ++ ((now.drop a).take ((zs0 m).length - 0) ++ (zs0 m).drop (0 + (now.drop a).length)) = (now.drop a).take m := by
  have e : (zs0 m).drop (0 + (now.drop a).length) = [] := List.drop_of_length_le (by rw [zs0_length]; simp; omega)
  rw [e, zs0_length]
  simp

set_option maxRecDepth 100000 in
set_option maxHeartbeats 4000000 in
/-- ReadAt: bytes of a file that there is. -/
theorem Dk.read {w : World} {fp : List Nat} {p : Nat} {l : List Ab} {s : Ds} (h : Dk w fp p l s) (hn : s.ops ≤ 1000000) (nm : ByteArray) (hnm : nm.size ≤ maxLen) {x : Ab} (he : errA (beginA l s) nm.data.toList = none) (hx : lookA (beginA l s).1 nm.data.toList = some x) (a m : Nat) (ham : a + m ≤ x.2.1.length) :
    Calls Try.prog 17 #[.pointer (some ⟨p, 0, none⟩), .string nm, .int .i64 (a : Int), .int .i64 (m : Int)] w fun e w' => ∃ v, e = .returned (.tuple #[v, .int .i64 0]) ∧ RowB w' v ((x.2.1.drop a).take m) ∧
      ∃ fp', Dk w' fp' p (beginA l s).1 (beginA l s).2 ∧ Kept fp w w' ∧ Newly w fp fp' ∧ ∀ y ∈ own v, w.heap.size ≤ y ∧ y ∉ fp' := by
  obtain ⟨bm, kv, fs, d, rfl, rfl, ho⟩ := h
  have hok := beginA_ok ho
  have HOK := hide hok
  have FD := hide (find_ok d ho hn nm hnm he hx)
  have hxl : x.2.1.length ≤ 1073741824 := by
    have h1 := usedB_mem (lookA_mem hx).1
    have h2 := hok.used
    have h3 := hok.fits
    have h4 := hok.room
    have h5 := sec_le _ _ (Int.le_trans h1 (by omega : usedB (beginA (fs.map Fl.ab) s).1 ≤ 67108864))
    omega
  obtain ⟨L, hL⟩ : ∃ L, L = x.2.1.length := ⟨_, rfl⟩
  have HL := hide hL
  have HRL := hide (read_list x.2.1 a m ham)
  have hi1 : (m : Int) ≤ (L : Int) - (a : Int) := by omega
  have hi2 : ¬ (L : Int) - (a : Int) < (m : Int) := by omega
  have haL : a ≤ L := by omega
  have hmL : m ≤ 1099511627776 := by omega
  have hL2 : L ≤ 1073741824 := by omega
  clear d ho he hnm hx hL hok
  generalize beginA (fs.map Fl.ab) s = A at FD HOK ⊢
  go_enter Try.func17, Try.ntmps17
  go_wp2_with (first
    | (go_at_call 37; refine FD.out.mono ?_; rintro e w1 ⟨kv1, fs1, s1, f1, rfl, hl1, hf1, L1⟩; have FA := L1.1.files f1 (look_name hl1).1; have c0 := cell_of_heap FA.cells 0; simp at c0; obtain ⟨va, vc, hvn, hvc⟩ := FA.rnow.isB.form; rw [hvn] at c0; have e3 : f1.now = x.2.1 := (by rw [← hf1]; rfl); rw [e3, ← HL.out] at c0 hvc; have RN := FA.rnow; rw [hvn, e3, ← HL.out] at RN; have HRN := hide RN; have hfl := FA.lt f1.blk (by simp [foot]); have sl1 := slice_from va L vc a haL; obtain ⟨dp, hdp⟩ : ∃ dp, dp = (if vc = a then va else va.map (·.add a)) := ⟨_, rfl⟩; have HSB : Hid (IsB w1 (.slice dp (L - a) (vc - a)) (x.2.1.drop a)) := (by rw [hdp]; exact RN.isB.from a haL); rw [← hdp] at sl1; have HLT := hide L1.1.lt; have HL1 := hide L1; clear L1 FA hvn hf1 hl1 e3 RN hdp)
    | (at_make; refine wp_makeB _ rfl _ _ rfl m (m : Int) (m : Int) rfl rfl rfl rfl hmL ?_; intro w2 r2 b2; have R2 := hide r2; have B2 := hide b2; clear r2 b2; have c2 := (B2.out.cell (p := ⟨f1.blk, 0, none⟩) hfl).trans c0)
    | (refine wp_copyM _ rfl _ _ rfl (.slice (some ⟨w1.heap.size, 0, none⟩) m m) (zs0 m) R2.out 0 (Nat.zero_le _) (.slice dp (L - a) (vc - a)) (x.2.1.drop a) (HSB.out.below B2.out) (some ⟨w1.heap.size, 0, none⟩) m m rfl (by rw [zs0_length]; rfl) (by intro _ g hg; simp [Value.ownBlock] at hg; rw [hg]) rfl (min (x.2.1.drop a).length ((zs0 m).length - 0)) rfl ((x.2.1.drop a).take m) HRL.out.symm ?_; intro w3 r3 k3; have R3 := hide r3; have K3 := hide k3; clear r3 k3))
  go_ret2
  obtain ⟨q1, q2, q3, q4⟩ := HL1.out
  have hnw : ∀ y ∈ own (.slice (some ⟨w1.heap.size, 0, none⟩) m m), y = w1.heap.size := fun y hy => by simp [own, Value.ownBlock] at hy; omega
  have k13 : Kept [] w1 w3 := (Kept.of_below (fp := []) B2.out).trans K3.out (fun y hy => .inr (by rw [hnw y hy]; exact Nat.le_refl _))
  refine ⟨_, rfl, R3.out, feet p bm kv1 fs1, ⟨bm, kv1, fs1, ?_, ?_, rfl, HOK.out⟩, q3.trans k13 (Newly.of_sub (by simp)), q4, fun y hy => ?_⟩
  · have e2 := congrArg (fun z => z.2) q2
    simp only at e2
    rw [← e2]
    exact q1.kept k13 (by simp)
  · exact congrArg (fun z => z.1) q2
  · rw [hnw y hy]
    refine ⟨q3.size, fun e => ?_⟩
    have := HLT.out _ e
    omega

end Go.Proofs.Ytdhajmgpakconaa

namespace Go.Proofs.Ytdhajmgpakconaa
open Go.RowKit Go.Maps Go.Sort Go.Shelf

theorem addr_add0 (a : Addr) : a.add 0 = a := by simp [Addr.add]

/-- A slice's beginning, of no bytes. -/
theorem slice_zero (na : Option Addr) (L cap : Nat) (W : World) :
    (Instr.slice 30 (.slice na L cap) none (some (.int .i64 0)) none).run Try.prog W = .ok (.slice na 0 cap) W := by
  obtain ⟨i0, hi, hz0, hz1, hz2⟩ := info_parts Try.infoU8
  have e : (na.map fun x => x.add 0) = na := by cases na <;> simp [addr_add0]
  simp [Instr.slice, Instr.sliceBounds, Instr.sliceBound, asIntOf, run_underlying Try.underlying30, sizeOf, typeInfo, hi]
  first | done | (intro _; exact e.symm) | (intro _; exact e)

theorem RowB.front {w : World} {na : Option Addr} {L cap : Nat} {bs : List Int} (h : RowB w (.slice na L cap) bs) : RowB w (.slice na 0 cap) [] := by
  obtain ⟨⟨h1, h2⟩, h3⟩ := h
  refine ⟨⟨by simp, ?_⟩, by simp⟩
  rcases h2 with ⟨e, _⟩ | ⟨g, c, cur, e, r1, r2, r3, r4, r5, r6⟩
  · simp only [Value.slice.injEq] at e
    obtain ⟨rfl, rfl, rfl⟩ := e
    exact .inl ⟨rfl, rfl⟩
  · simp only [Value.slice.injEq] at e
    obtain ⟨rfl, rfl, rfl⟩ := e
    exact .inr ⟨g, cap, cur, rfl, r1, r2, Nat.zero_le _, r4, r5, by simp⟩

theorem syncA_ok {a b : List Ab} {x : Ab} {s : Ds} (h : okA (a ++ x :: b) s) : okA (a ++ (x.1, x.2.1, x.2.1) :: b) s :=
  okA_set h rfl (Nat.le_refl _) (by simp only; omega) h.fits rfl rfl rfl rfl

set_option maxRecDepth 100000 in
set_option maxHeartbeats 4000000 in
theorem Dk.sync_ok {w : World} {fp : List Nat} {p : Nat} {l : List Ab} {s : Ds} (h : Dk w fp p l s) (hn : s.ops ≤ 1000000) (nm : ByteArray) (hnm : nm.size ≤ maxLen) {x : Ab} (he : errA (beginA l s) nm.data.toList = none) (hx : lookA (beginA l s).1 nm.data.toList = some x) :
    Calls Try.prog 48 #[.pointer (some ⟨p, 0, none⟩), .string nm] w fun e w' => e = .returned (.int .i64 0) ∧ Outc w w' fp p (setA (beginA l s).1 (x.1, x.2.1, x.2.1), (beginA l s).2) := by
  obtain ⟨bm, kv, fs, d, rfl, rfl, ho⟩ := h
  have hok := beginA_ok ho
  have HOK := hide hok
  have FD := hide (find_ok d ho hn nm hnm he hx)
  have hxl : x.2.1.length ≤ 1073741824 := by
    have h1 := usedB_mem (lookA_mem hx).1
    have h2 := hok.used
    have h3 := hok.fits
    have h4 := hok.room
    have h5 := sec_le _ _ (Int.le_trans h1 (by omega : usedB (beginA (fs.map Fl.ab) s).1 ≤ 67108864))
    omega
  have hlen : ([] : List Int).length + x.2.1.length ≤ 1099511627776 := by simp; omega
  have HLEN := hide hlen
  clear d ho he hnm hx hok hlen
  generalize beginA (fs.map Fl.ab) s = A at FD HOK ⊢
  go_enter Try.func48, Try.ntmps48
  go_wp2_with (go_at_call 37; refine FD.out.mono ?_; rintro e w1 ⟨kv1, fs1, s1, f1, rfl, hl1, hf1, L1⟩; have FA := L1.1.files f1 (look_name hl1).1; have c0 := cell_of_heap FA.cells 0; have c1 := cell_of_heap FA.cells 1; have c2 := frozen_of_heap FA.cells; simp at c0 c1; obtain ⟨na, nc, hvn, _⟩ := FA.rnow.isB.form; obtain ⟨sa, sc, hvs, _⟩ := FA.rsyn.isB.form; rw [hvn] at c0; rw [hvs] at c1; have e3 : f1.now = x.2.1 := (by rw [← hf1]; rfl); have RN := FA.rnow; have RS := FA.rsyn; rw [hvn, e3] at RN; rw [hvs] at RS; rw [e3] at c0; have HRN := hide RN; have HRS := hide RS.front; have sl1 := slice_zero sa f1.syn.length sc; have HVN := hide hvn; have HVS := hide hvs; have HFA := hide FA; have HLK := hide hl1; have HF1 := hide hf1; have HL1 := hide L1; have HE3 := hide e3; obtain ⟨q, hq⟩ : ∃ q, q = f1.blk := ⟨_, rfl⟩; rw [← hq] at c0 c1 c2; have HQ := hide hq; have hq2 : f1.blk = q := hq.symm; clear L1 FA hvn hvs hf1 hl1 e3 RN RS hq)
  have hvo : ∀ y ∈ own (.slice sa 0 sc), y ∈ own f1.vs := fun y hy => by
    rw [HVS.out]
    cases sa with
    | none => simp [own, Value.ownBlock] at hy
    | some sa => simpa [own, Value.ownBlock] using hy
  have hap := HFA.out.apart
  unfold foot at hap
  rw [List.nodup_cons, List.nodup_append] at hap
  have HQN : Hid (q ∉ own (.slice sa 0 sc)) := fun e => hap.1 (List.mem_append.2 (.inr (by rw [hq2]; exact hvo q e)))
  have HQL : Hid (q < w1.heap.size) := by show q < _; rw [HQ.out]; exact HFA.out.lt _ (by simp [foot])
  have HQC : Hid (w1.heap[q]? = some (.cells #[f1.vn, f1.vs] 77 (0, 0))) := by
    show _ = _
    rw [HQ.out]
    exact HFA.out.cells
  have HAP := hide hap
  have HVO := hide hvo
  clear hap hvo hq2
  go_region_law (refine step_appendR _ ?_ (.tmp 21) (.tmp 25) ?_ (.slice sa 0 sc) (.slice na x.2.1.length nc) [] x.2.1 ?_ ?_ ?_ ?_ ?_ ?_; rfl; rfl; rfl; exact HRS.out; rfl; exact HRN.out.isB; exact HLEN.out; intro v3 w3 r3 k3 n3; rw [List.nil_append] at r3; obtain ⟨va, vc, rfl, hvc⟩ := r3.isB.form; have R3 := hide r3; have N3 := hide n3; have K3 : Hid (Kept (own (.slice sa 0 sc)) w1 w3) := (⟨k3.os, k3.tape, k3.output, k3.size, k3.block⟩ : Kept _ w1 w3); clear r3 k3 n3; have hq3 := (K3.out.block q HQL.out HQN.out).trans HQC.out; have e1 := K3.out.cell c1 HQN.out; have z3 := frozen_of_heap hq3; have HQ3 := hide hq3; clear hq3)
  all_goals
    go_wp2
    go_ret
    refine ⟨rfl, ?_⟩
    have hap := HAP.out
    have k4 : Kept (foot f1) w1 (w3.setCell ⟨q, 1, none⟩ (.slice va x.2.1.length vc)) := (K3.out.mono (fp' := foot f1) (fun y hy => by
      simp only [foot, List.mem_cons, List.mem_append]
      exact .inr (.inr (HVO.out y hy)))).setCell (p := ⟨q, 1, none⟩) (.inl (by simp [foot, HQ.out])) _
    have hnap : ∀ y ∈ own (.slice va x.2.1.length vc), y ∈ own f1.vs ∨ w1.heap.size ≤ y := fun y hy => by
      rcases N3.out y hy with h1 | h1
      · exact .inl (HVO.out y h1)
      · exact .inr h1
    have hqv : q ∉ own (.slice va x.2.1.length vc) := fun e => by
      rcases hnap q e with h1 | h1
      · exact hap.1 (List.mem_append.2 (.inr (by rw [← HQ.out]; exact h1)))
      · have := HQL.out
        omega
    have hqn : q ∉ own f1.vn := fun e => hap.1 (List.mem_append.2 (.inl (by rw [← HQ.out]; exact e)))
    have kq : Kept [q] w3 (w3.setCell ⟨q, 1, none⟩ (.slice va x.2.1.length vc)) := (Kept.refl _ w3).setCell (p := ⟨q, 1, none⟩) (.inl (by simp)) _
    have fileN : FileAt (w3.setCell ⟨q, 1, none⟩ (.slice va x.2.1.length vc)) { f1 with vs := .slice va x.2.1.length vc, syn := x.2.1 } := by
      refine ⟨?_, ?_, R3.out.kept kq (fun y hy => by simp; rintro rfl; exact hqv hy), ?_⟩
      · have e := heap_setCell HQ3.out 1 (.slice va x.2.1.length vc)
        simp only
        rw [← HQ.out]
        simpa using e
      · exact (HFA.out.rnow.kept K3.out (fun y hy e => hap.2.2.2 y hy y (HVO.out y e) rfl)).kept kq (fun y hy => by simp; rintro rfl; exact hqn hy)
      · show (f1.blk :: (own f1.vn ++ own (.slice va x.2.1.length vc))).Nodup
        rw [List.nodup_cons, List.nodup_append]
        refine ⟨fun e => ?_, hap.2.1, by cases va <;> simp [own, Value.ownBlock], fun y hy z hz e => ?_⟩
        · rcases List.mem_append.1 e with e | e
          · exact hqn (by rw [HQ.out]; exact e)
          · exact hqv (by rw [HQ.out]; exact e)
        · subst e
          rcases hnap y hz with h1 | h1
          · exact hap.2.2.2 y hy y h1 rfl
          · have := HFA.out.rnow.lt y hy
            omega
    have newN : Newly w1 (foot f1) (foot { f1 with vs := .slice va x.2.1.length vc, syn := x.2.1 }) := fun y hy => by
      simp only [foot, List.mem_cons, List.mem_append] at hy ⊢
      rcases hy with hy | hy | hy
      · exact .inl (.inl hy)
      · exact .inl (.inr (.inl hy))
      · rcases hnap y hy with h1 | h1
        · exact .inl (.inr (.inr h1))
        · exact .inr h1
    obtain ⟨ds, rs, hsp⟩ := List.append_of_mem (look_name HLK.out).1
    obtain ⟨q1, q2, q3, q4⟩ := HL1.out
    subst hsp
    have dN := q1.file (f' := { f1 with vs := .slice va x.2.1.length vc, syn := x.2.1 }) rfl rfl k4 (fun y hy => .inl hy) fileN newN
    have eA1 := congrArg (fun z => z.1) q2
    have eA2 := congrArg (fun z => z.2) q2
    simp only at eA1 eA2
    have hset : setA A.1 (x.1, x.2.1, x.2.1) = (ds ++ { f1 with vs := .slice va x.2.1.length vc, syn := x.2.1 } :: rs).map Fl.ab := by
      rw [← eA1, List.map_append, List.map_cons, ← HF1.out]
      rw [setA_split (a := ds.map Fl.ab) (b := rs.map Fl.ab) (x := f1.ab) (y := (f1.ab.1, f1.ab.2.1, f1.ab.2.1)) (by have := sortedA q1.sorted; simpa using this) rfl]
      simp [Fl.ab]
    have hk5 : Kept (feet p bm kv1 (ds ++ f1 :: rs)) w1 (w3.setCell ⟨q, 1, none⟩ (.slice va x.2.1.length vc)) := k4.mono (fun y hy => (feet_perm p bm kv1 ds rs f1).mem_iff.2 (List.mem_append.2 (.inl hy)))
    refine ⟨feet p bm kv1 (ds ++ { f1 with vs := .slice va x.2.1.length vc, syn := x.2.1 } :: rs), ⟨bm, kv1, _, ?_, hset.symm, rfl, ?_⟩, ?_, q4.trans (feet_file newN rfl) q3.size⟩
    · simp only
      rw [← eA2]
      first | exact dN | exact dN.kept ((Kept.refl [] _).drew) (by simp)
    · simp only
      rw [hset, ← eA2]
      have h9 := syncA_ok (a := ds.map Fl.ab) (b := rs.map Fl.ab) (x := f1.ab) (s := s1) (by have := HOK.out; rw [← eA1, ← eA2] at this; simpa using this)
      have e9 : x.2.1 = f1.now := HE3.out.symm
      simpa [Fl.ab, e9] using h9
    · first | exact q3.trans hk5 q4 | exact q3.trans hk5.drew q4

end Go.Proofs.Ytdhajmgpakconaa
