/-
  What Create does. A lemma file: no statement of the seat is proved here.
-/
import Derived.Test.YtbhjdcoehgajcaaDMeth
namespace Go.Proofs.Ytbhjdcoehgajcaa
open Go.RowKit Go.Maps Go.Sort Go.Shelf

/-- A file, in its place. -/
def insF : List Fl → Fl → List Fl
  | [], f => [f]
  | g :: r, f => if g.name < f.name then g :: insF r f else f :: g :: r

def insA : List Ab → Ab → List Ab
  | [], f => [f]
  | g :: r, f => if g.1 < f.1 then g :: insA r f else f :: g :: r

theorem insF_ab (fs : List Fl) (f : Fl) : (insF fs f).map Fl.ab = insA (fs.map Fl.ab) f.ab := by
  induction fs with
  | nil => rfl
  | cons g r ih =>
    simp only [insF, insA, List.map_cons]
    show _ = if g.name < f.name then _ else _
    split
    · simp [ih]
    · simp

theorem insF_perm (fs : List Fl) (f : Fl) : (insF fs f).Perm (f :: fs) := by
  induction fs with
  | nil => exact List.Perm.refl _
  | cons g r ih =>
    unfold insF
    split
    · exact (ih.cons g).trans (List.Perm.swap f g r)
    · exact List.Perm.refl _

theorem insA_perm (l : List Ab) (x : Ab) : (insA l x).Perm (x :: l) := by
  induction l with
  | nil => exact List.Perm.refl _
  | cons g r ih =>
    unfold insA
    split
    · exact (ih.cons g).trans (List.Perm.swap x g r)
    · exact List.Perm.refl _

theorem name_lt {x y : List UInt8} (h : ¬ x < y) (hne : x ≠ y) : y < x := by
  exact Classical.byContradiction fun h2 => hne (List.le_antisymm (List.not_lt.1 h2) (List.not_lt.1 h))

theorem insF_sorted {fs : List Fl} {f : Fl} (hs : fs.Pairwise (fun f g => f.name < g.name)) (hno : ∀ g ∈ fs, g.name ≠ f.name) : (insF fs f).Pairwise (fun f g => f.name < g.name) := by
  induction fs with
  | nil => simp [insF]
  | cons g r ih =>
    rw [List.pairwise_cons] at hs
    unfold insF
    split
    · rename_i h
      rw [List.pairwise_cons]
      refine ⟨fun y hy => ?_, ih hs.2 (fun y hy => hno y (by simp [hy]))⟩
      rcases List.mem_cons.1 ((insF_perm r f).mem_iff.1 hy) with rfl | hy
      · exact h
      · exact hs.1 y hy
    · rename_i h
      have h1 := name_lt h (hno g (by simp))
      rw [List.pairwise_cons, List.pairwise_cons]
      refine ⟨fun y hy => ?_, hs⟩
      rcases List.mem_cons.1 hy with rfl | hy
      · exact h1
      · exact List.lt_trans h1 (hs.1 y hy)

theorem look_ins (fs : List Fl) (f : Fl) (hno : look fs f.name = none) (n : List UInt8) : look (insF fs f) n = if f.name = n then some f else look fs n := by
  induction fs with
  | nil =>
    unfold look insF
    rw [List.find?_cons]
    by_cases h : f.name = n
    · simp [h]
    · have : (f.name == n) = false := by simpa using h
      simp [this, h]
  | cons g r ih =>
    unfold look at hno
    rw [List.find?_cons] at hno
    cases hg : (g.name == f.name) with
    | true => rw [hg] at hno; simp at hno
    | false =>
      rw [hg] at hno
      have ih := ih hno
      have hgn : g.name ≠ f.name := by simpa using hg
      unfold insF
      split
      · unfold look at ih ⊢
        rw [List.find?_cons, List.find?_cons, ih]
        cases h2 : (g.name == n) with
        | true =>
          have : g.name = n := by simpa using h2
          have hfn : ¬ f.name = n := by rw [← this]; exact Ne.symm hgn
          simp [hfn]
        | false => rfl
      · unfold look
        rw [List.find?_cons]
        cases h2 : (f.name == n) with
        | true =>
          have : f.name = n := by simpa using h2
          rw [if_pos this]
        | false =>
          have : ¬ f.name = n := by simpa using h2
          rw [if_neg this]

theorem lookA_none {l : List Ab} {n : List UInt8} (h : lookA l n = none) : ∀ x ∈ l, x.1 ≠ n := by
  unfold lookA at h
  intro f hf
  simpa using List.find?_eq_none.1 h f hf

theorem keyLit (n : List UInt8) : WideAt.IsKeyLit (.string n) := by trivial

theorem MapIs.ins {D : DataW Unit} {fs : List Fl} {f : Fl} (h : MapIs D fs) (ht : Tidy D) (hno : look fs f.name = none) : MapIs (D.put (.string f.name) (.lit (.int .i64 f.blk))) (insF fs f) := by
  refine ⟨fun n => ?_, fun n => ?_, ?_⟩
  · rw [look_ins fs f hno n]
    by_cases e : f.name = n
    · subst e
      rw [atKey_put_same ht.isMap (keyLit _), if_pos rfl]
    · rw [atKey_put_other (by simpa using fun e2 => e e2.symm), h.at_ n, if_neg e]
  · rw [look_ins fs f hno n]
    by_cases e : f.name = n
    · subst e
      rw [has_put_same ht.isMap (keyLit _), if_pos rfl]
      rfl
    · rw [has_put_other (by simpa using fun e2 => e e2.symm), h.has n, if_neg e]
  · rw [size_put ht, h.has, hno]
    have e := (insF_perm fs f).length_eq
    rw [e, h.size]
    simp

theorem feet_ins (p bm : Nat) (kv : Value) (fs : List Fl) (f : Fl) : (feet p bm kv (insF fs f)).Perm (foot f ++ feet p bm kv fs) := by
  have h1 : (feet p bm kv (insF fs f)).Perm (feet p bm kv ([] ++ f :: fs)) := by
    unfold feet
    exact (((insF_perm fs f).flatMap_right foot).append_left (own kv) |>.cons bm).cons p
  exact h1.trans (feet_perm p bm kv [] fs f)

/-- A new file. -/
def newF (nm : List UInt8) (b : Nat) : Fl := { name := nm, blk := b, vn := .slice none 0 0, vs := .slice none 0 0, now := [], syn := [] }

theorem disk_create {w w1 : World} {p bm : Nat} {kv : Value} {fs : List Fl} {s : Ds} (h : DiskAt w p bm kv fs s) (nm : List UInt8) (hno : look fs nm = none) {D : DataW Unit} (hD : MapIs D fs) (ht : Tidy D)
    (hown : w1.ownsMap Try.prog 9 ptrE bm (fs.length + 1) (D.put (.string nm) (.lit (.int .i64 w.heap.size)))) (hk : Kept [bm] (w.alloc (.cells #[.slice none 0 0, .slice none 0 0] 71)) w1) :
    DiskAt w1 p bm kv (insF fs (newF nm w.heap.size)) s ∧ Kept (feet p bm kv fs) w w1 ∧ Newly w (feet p bm kv fs) (feet p bm kv (insF fs (newF nm w.heap.size))) := by
  have hb : Below w.heap.size w (w.alloc (.cells #[.slice none 0 0, .slice none 0 0] 71)) := (Below.refl _ w).alloc (Nat.le_refl _) _
  have h1 := h.below hb
  have hnd := h.apart
  have hlt := h.lt
  have hfeet : ∀ x ∈ feet p bm kv fs, x ≠ bm → x ∉ [bm] := fun x _ e => by simpa using e
  have hbm : ∀ x, x ∈ own kv ∨ x ∈ fs.flatMap foot → x ≠ bm := fun x hx e => by
    subst e
    unfold feet at hnd
    rw [List.nodup_cons, List.nodup_cons] at hnd
    exact hnd.2.1 (List.mem_append.2 hx)
  have hpb : p ≠ bm := fun e => by
    subst e
    unfold feet at hnd
    rw [List.nodup_cons] at hnd
    exact hnd.1 (by simp)
  have hkk : Kept (feet p bm kv fs) w w1 := (Kept.of_below (fp := feet p bm kv fs) hb).trans hk (Newly.of_sub (by simp [feet]))
  refine ⟨⟨?_, ⟨_, ?_, hD.ins (f := newF nm w.heap.size) ht hno⟩, ?_, ?_, ?_, insF_sorted h.sorted (look_none hno)⟩, hkk, ?_⟩
  · exact (hk.block p (by simp; have := hlt p (by simp [feet]); omega) (by simpa using hpb)).trans h1.cells
  · rw [(insF_perm fs (newF nm w.heap.size)).length_eq]
    exact hown
  · intro f hf
    rcases List.mem_cons.1 ((insF_perm fs _).mem_iff.1 hf) with rfl | hf
    · refine ⟨?_, RowB.nil _, RowB.nil _, by simp [foot, newF, own, Value.ownBlock]⟩
      have hlt2 := hlt bm (by simp [feet])
      show w1.heap[w.heap.size]? = _
      rw [hk.block w.heap.size (by simp) (by simp; omega)]
      exact heap_alloc_new w _
    · exact (h1.files f hf).kept hk (fun x hx => by simpa using hbm x (.inr (List.mem_flatMap.2 ⟨f, hf, hx⟩)))
  · exact h1.keep.kept hk (fun x hx => by simpa using hbm x (.inl hx))
  · refine (feet_ins p bm kv fs _).nodup_iff.2 ?_
    rw [List.nodup_append]
    refine ⟨by simp [foot, newF, own, Value.ownBlock], hnd, fun x hx y hy e => ?_⟩
    subst e
    simp [foot, newF, own, Value.ownBlock] at hx
    have := hlt x hy
    omega
  · intro x hx
    rcases List.mem_append.1 ((feet_ins p bm kv fs _).mem_iff.1 hx) with h2 | h2
    · simp [foot, newF, own, Value.ownBlock] at h2
      exact .inr (by omega)
    · exact .inl h2

end Go.Proofs.Ytbhjdcoehgajcaa
