/-
  Rows of records that rise; heaps as rows. Plain facts. A lemma file: no statement of the seat is proved here.
-/
import Derived.Test.YtbppjbdcgcmjiaaGCmp
namespace Go.Proofs.Ytbppjbdcgcmjiaa.G

theorem ltR_iff (x y : Rc) : ltR x y = true ↔ x.1 < y.1 ∨ (x.1 = y.1 ∧ (x.2.1 < y.2.1 ∨ (x.2.1 = y.2.1 ∧ x.2.2 < y.2.2))) := by simp [ltR]
theorem ltR_irr (x : Rc) : ltR x x = false := by simp [ltR]
theorem ltR_trans {x y z : Rc} (h : ltR x y = true) (k : ltR y z = true) : ltR x z = true := by
  rw [ltR_iff] at *
  omega
theorem nlt_trans {x y z : Rc} (h : ltR y x = false) (k : ltR z y = false) : ltR z x = false := by
  rw [Bool.eq_false_iff] at *
  rw [Ne, ltR_iff] at *
  omega
theorem nlt_of_lt {x y : Rc} (h : ltR x y = true) : ltR y x = false := by
  rw [Bool.eq_false_iff, Ne]
  rw [ltR_iff] at *
  omega
theorem nlt_antisymm {x y : Rc} (h : ltR x y = false) (k : ltR y x = false) : x = y := by
  rw [Bool.eq_false_iff, Ne, ltR_iff] at h k
  obtain ⟨a, b, b'⟩ := x
  obtain ⟨c, d, d'⟩ := y
  simp only at h k
  have : a = c := by omega
  have : b = d := by omega
  have : b' = d' := by omega
  subst_vars
  rfl

/-- A row that rises. -/
def Rises (l : List Rc) : Prop := l.Pairwise (fun x y => ltR y x = false)

/-- Two rows that rise and have the same records are one. -/
theorem Rises.unique {l m : List Rc} (hl : Rises l) (hm : Rises m) (hp : l.Perm m) : l = m := by
  induction l generalizing m with
  | nil => exact (List.nil_perm.1 hp).symm
  | cons x l ih =>
    cases m with
    | nil => exact absurd hp.length_eq (by simp)
    | cons y m =>
      have hx : x ∈ y :: m := hp.subset (by simp)
      have hy : y ∈ x :: l := hp.symm.subset (by simp)
      have e : x = y := by
        rcases List.mem_cons.1 hx with rfl | hx
        · rfl
        · rcases List.mem_cons.1 hy with rfl | hy
          · rfl
          · exact nlt_antisymm ((List.pairwise_cons.1 hm).1 x hx) ((List.pairwise_cons.1 hl).1 y hy)
      subst e
      rw [ih (List.pairwise_cons.1 hl).2 (List.pairwise_cons.1 hm).2 (List.Perm.cons_inv hp)]

/-- A record put in its place. -/
def insR (x : Rc) : List Rc → List Rc
  | [] => [x]
  | y :: l => if ltR x y = true then x :: y :: l else y :: insR x l

theorem insR_perm (x : Rc) (l : List Rc) : (insR x l).Perm (x :: l) := by
  induction l with
  | nil => exact List.Perm.refl _
  | cons y l ih =>
    unfold insR
    split
    · exact List.Perm.refl _
    · exact (List.Perm.cons y ih).trans (List.Perm.swap x y l)

theorem insR_rises (x : Rc) {l : List Rc} (h : Rises l) : Rises (insR x l) := by
  induction l with
  | nil => simp [insR, Rises]
  | cons y l ih =>
    unfold insR
    obtain ⟨h1, h2⟩ := List.pairwise_cons.1 h
    split
    · rename_i hlt
      refine List.pairwise_cons.2 ⟨fun z hz => ?_, h⟩
      rcases List.mem_cons.1 hz with rfl | hz
      · exact nlt_of_lt hlt
      · exact nlt_trans (nlt_of_lt hlt) (h1 z hz)
    · rename_i hlt
      refine List.pairwise_cons.2 ⟨fun z hz => ?_, ih h2⟩
      rcases List.mem_cons.1 ((insR_perm x l).subset hz) with rfl | hz
      · exact Bool.eq_false_iff.2 hlt
      · exact h1 z hz

theorem insR_length (x : Rc) (l : List Rc) : (insR x l).length = l.length + 1 := by simpa using (insR_perm x l).length_eq

/-- Records, each put in its place. -/
def sortR : List Rc → List Rc → List Rc
  | out, [] => out
  | out, x :: l => sortR (insR x out) l

theorem sortR_append (out l m : List Rc) : sortR out (l ++ m) = sortR (sortR out l) m := by
  induction l generalizing out with
  | nil => rfl
  | cons x l ih => exact ih _

theorem sortR_rises {out : List Rc} (h : Rises out) (l : List Rc) : Rises (sortR out l) := by
  induction l generalizing out with
  | nil => exact h
  | cons x l ih => exact ih (insR_rises x h)

theorem sortR_perm (out l : List Rc) : (sortR out l).Perm (out ++ l) := by
  induction l generalizing out with
  | nil => simp [sortR]
  | cons x l ih =>
    refine (ih (insR x out)).trans ?_
    refine ((insR_perm x out).append_right l).trans ?_
    exact (List.perm_middle (a := x) (l₁ := out) (l₂ := l)).symm

/-! ### Heaps as rows -/

/-- None stands ahead of the one above it. -/
def HeapR (l : List Rc) : Prop := ∀ i, 0 < i → i < l.length → ltR l[i]! l[(i - 1) / 2]! = false

/-- The first stands behind none. -/
theorem HeapR.top {l : List Rc} (h : HeapR l) : ∀ i, i < l.length → ltR l[i]! l[0]! = false := by
  intro i
  induction i using Nat.strongRecOn with
  | ind i ih =>
    intro hi
    rcases Nat.eq_zero_or_pos i with rfl | h0
    · exact ltR_irr _
    · exact nlt_trans (ih ((i - 1) / 2) (by omega) (by omega)) (h i h0 hi)

/-- A row, that is a heap, of the records of S, which rises. -/
structure HeapOf (l S : List Rc) : Prop where
  heap : HeapR l
  perm : l.Perm S
  rises : Rises S

theorem HeapOf.nil : HeapOf [] [] := ⟨fun i _ hi => by simp at hi, List.Perm.refl _, List.Pairwise.nil⟩

theorem HeapOf.first {l S : List Rc} (h : HeapOf l S) (x : Rc) (S' : List Rc) (e : S = x :: S') : l[0]! = x := by
  subst e
  have hl : 0 < l.length := by rw [h.perm.length_eq]; simp
  have hm : l[0]! ∈ x :: S' := h.perm.subset (by rw [getElem!_pos l 0 hl]; exact List.getElem_mem hl)
  have hx : x ∈ l := h.perm.symm.subset (by simp)
  obtain ⟨i, hi, hxi⟩ := List.getElem_of_mem hx
  have h1 := h.heap.top i hi
  rw [getElem!_pos l i hi, hxi] at h1
  rcases List.mem_cons.1 hm with e | hm
  · exact e
  · exact (nlt_antisymm h1 ((List.pairwise_cons.1 h.rises).1 _ hm)).symm

/-- All but the place k are in order; and those below k are in order with the one above k. -/
structure Up (l : List Rc) (k : Nat) : Prop where
  rest : ∀ i, 0 < i → i < l.length → i ≠ k → ltR l[i]! l[(i - 1) / 2]! = false
  below : 0 < k → ∀ i, i < l.length → (i - 1) / 2 = k → 0 < i → ltR l[i]! l[(k - 1) / 2]! = false

theorem Up.done {l : List Rc} {k : Nat} (h : Up l k) (hk : k = 0 ∨ ltR l[k]! l[(k - 1) / 2]! = false) : HeapR l := by
  intro i h0 hi
  by_cases e : i = k
  · subst e
    rcases hk with rfl | hk
    · omega
    · exact hk
  · exact h.rest i h0 hi e

theorem swap_at (l : List Rc) (i j k : Nat) (_ : i < l.length) (_ : j < l.length) (hk : k < l.length) :
    ((l.set i l[j]!).set j l[i]!)[k]! = if k = j then l[i]! else if k = i then l[j]! else l[k]! := by
  rw [getElem!_pos _ k (by simpa using hk)]
  rw [List.getElem_set]
  by_cases e : j = k
  · simp [e]
  · rw [if_neg e, if_neg (fun h : k = j => e h.symm), List.getElem_set]
    by_cases e2 : i = k
    · rw [if_pos e2, if_pos e2.symm]
    · rw [if_neg e2, if_neg (fun h : k = i => e2 h.symm), getElem!_pos l k hk]

theorem swap_perm (l : List Rc) (i j : Nat) (hi : i < l.length) (hj : j < l.length) : ((l.set i l[j]!).set j l[i]!).Perm l := by
  rw [getElem!_pos l i hi, getElem!_pos l j hj]
  exact List.set_set_perm hi hj

theorem swap_len (l : List Rc) (i j : Nat) (x y : Rc) : ((l.set i x).set j y).length = l.length := by simp

theorem Up.step {l : List Rc} {k : Nat} (h : Up l k) (h0 : 0 < k) (hk : k < l.length) (hlt : ltR l[k]! l[(k - 1) / 2]! = true) : Up ((l.set k l[(k - 1) / 2]!).set ((k - 1) / 2) l[k]!) ((k - 1) / 2) := by
  have hp : (k - 1) / 2 < l.length := by omega
  have hpk : (k - 1) / 2 ≠ k := by omega
  constructor
  · intro i hi hl hne
    rw [swap_len] at hl
    rw [swap_at l k ((k - 1) / 2) i hk hp hl, swap_at l k ((k - 1) / 2) ((i - 1) / 2) hk hp (by omega), if_neg hne]
    by_cases e : i = k
    · subst e
      rw [if_pos rfl, if_pos rfl]
      exact nlt_of_lt hlt
    · rw [if_neg e]
      by_cases e1 : (i - 1) / 2 = (k - 1) / 2
      · rw [if_pos e1]
        have := h.rest i hi hl e
        rw [e1] at this
        exact nlt_trans (nlt_of_lt hlt) this
      · rw [if_neg e1]
        by_cases e2 : (i - 1) / 2 = k
        · rw [if_pos e2]
          exact h.below h0 i hl e2 hi
        · rw [if_neg e2]
          exact h.rest i hi hl e
  · intro hp0 i hl hi h1
    rw [swap_len] at hl
    rw [swap_at l k ((k - 1) / 2) i hk hp hl, swap_at l k ((k - 1) / 2) (((k - 1) / 2 - 1) / 2) hk hp (by omega)]
    have hg : ltR l[(k - 1) / 2]! l[((k - 1) / 2 - 1) / 2]! = false := h.rest _ hp0 hp hpk
    rw [if_neg (show ¬ ((k - 1) / 2 - 1) / 2 = (k - 1) / 2 by omega), if_neg (show ¬ ((k - 1) / 2 - 1) / 2 = k by omega)]
    by_cases e : i = (k - 1) / 2
    · omega
    · rw [if_neg e]
      by_cases e2 : i = k
      · rw [if_pos e2]
        exact hg
      · rw [if_neg e2]
        have := h.rest i h1 hl e2
        rw [hi] at this
        exact nlt_trans hg this

theorem Up.start {l : List Rc} (h : HeapR l) (x : Rc) : Up (l ++ [x]) l.length := by
  have hat : ∀ j, j < l.length → (l ++ [x])[j]! = l[j]! := fun j hj => by
    rw [getElem!_pos _ j (by simp; omega), getElem!_pos l j hj, List.getElem_append_left hj]
  constructor
  · intro i h0 hi hne
    have hi' : i < l.length := by simp at hi; omega
    rw [hat i hi', hat _ (by omega)]
    exact h i h0 hi'
  · intro h0 i hi hk h1
    simp at hi
    omega

/-- All but those below the place k are in order; and those below k are in order with the one above k. -/
structure Down (l : List Rc) (k : Nat) : Prop where
  rest : ∀ i, 0 < i → i < l.length → (i - 1) / 2 ≠ k → ltR l[i]! l[(i - 1) / 2]! = false
  below : 0 < k → ∀ i, i < l.length → (i - 1) / 2 = k → 0 < i → ltR l[i]! l[(k - 1) / 2]! = false

theorem Down.done {l : List Rc} {k : Nat} (h : Down l k) (hk : ∀ i, 0 < i → i < l.length → (i - 1) / 2 = k → ltR l[i]! l[k]! = false) : HeapR l := by
  intro i h0 hi
  by_cases e : (i - 1) / 2 = k
  · rw [e]; exact hk i h0 hi e
  · exact h.rest i h0 hi e

/-- f is one below k, ahead of k, and none below k is ahead of it. -/
theorem Down.step {l : List Rc} {k f : Nat} (h : Down l k) (h0 : 0 < f) (hf : f < l.length) (hk : (f - 1) / 2 = k) (hlt : ltR l[f]! l[k]! = true) (hall : ∀ i, 0 < i → i < l.length → (i - 1) / 2 = k → ltR l[i]! l[f]! = false) :
    Down ((l.set k l[f]!).set f l[k]!) f := by
  have hkl : k < l.length := by omega
  have hkf : k ≠ f := by omega
  constructor
  · intro i hi hl hne
    rw [swap_len] at hl
    rw [swap_at l k f i hkl hf hl, swap_at l k f ((i - 1) / 2) hkl hf (by omega), if_neg hne]
    by_cases e : i = f
    · subst e
      rw [if_pos rfl, if_pos hk]
      exact nlt_of_lt hlt
    · rw [if_neg e]
      by_cases e1 : (i - 1) / 2 = k
      · rw [if_pos e1, if_neg (by omega)]
        exact hall i hi hl e1
      · rw [if_neg e1]
        by_cases e2 : i = k
        · rw [if_pos e2]
          subst e2
          exact h.below hi f hf hk h0
        · rw [if_neg e2]
          exact h.rest i hi hl e1
  · intro _ i hl hi h1
    rw [swap_len] at hl
    rw [swap_at l k f i hkl hf hl, swap_at l k f ((f - 1) / 2) hkl hf (by omega), if_neg (by omega), if_neg (by omega), if_neg (by omega), if_pos hk]
    have := h.rest i h1 hl (by omega)
    rw [hi] at this
    exact this

theorem Down.start {l : List Rc} (h : HeapR l) (x : Rc) : Down ((l.set 0 x).take (l.length - 1)) 0 := by
  have hat : ∀ j, 0 < j → j < l.length - 1 → ((l.set 0 x).take (l.length - 1))[j]! = l[j]! := fun j h0 hj => by
    rw [getElem!_pos _ j (by simp; omega), getElem!_pos l j (by omega), List.getElem_take, List.getElem_set_ne (by omega)]
  constructor
  · intro i h0 hi hne
    have hi' : i < l.length - 1 := by simp at hi; omega
    rw [hat i h0 hi', hat _ (by omega) (by omega)]
    exact h i h0 (by omega)
  · intro h0
    omega

end Go.Proofs.Ytbppjbdcgcmjiaa.G
