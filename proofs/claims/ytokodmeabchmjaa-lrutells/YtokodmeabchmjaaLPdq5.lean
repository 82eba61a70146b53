/-
  slices.pdqsortOrdered of few numbers, no two alike: what a round keeps. A lemma file: no statement of the seat is proved here.
-/
import Derived.Test.YtokodmeabchmjaaLPdq4
import Derived.Test.YtokodmeabchmjaaLBreak
namespace Go.Proofs.Ytokodmeabchmjaa
open Go.RowKit Go.Sort

/-- Two places of [a, b) that are not both in [a1, b1) are in order. -/
def Rest (a b a1 b1 : Nat) (d : Array Nat) : Prop := ∀ i j, a ≤ i → i < j → j < b → ¬ (a1 ≤ i ∧ j < b1) → ltN d[j]! d[i]! = false
/-- What stands ahead of [a1, b1) is less than all of it. -/
def Ahead (a1 b1 : Nat) (d : Array Nat) : Prop := a1 = 0 ∨ ∀ i, a1 ≤ i → i < b1 → ltN d[a1 - 1]! d[i]! = true
/-- No two alike. -/
def Apart (d : Array Nat) : Prop := d.toList.Nodup

section
variable {d d' : Array Nat} {a b a1 b1 m : Nat}

theorem Apart.perm (h : Apart d) (hp : PermIn a b d d') (hb : b ≤ d.size) : Apart d' := by
  have q := permIn_mono d d' a b 0 d.size (Nat.zero_le _) hb (Nat.le_refl _) hp
  have e := q.2.2
  have e1 : d'.extract 0 d.size = d' := by rw [← hp.1]; simp
  rw [e1, show d.extract 0 d.size = d by simp] at e
  exact (e.nodup_iff).2 h

theorem Apart.ne (h : Apart d) {i j : Nat} (hi : i < d.size) (hj : j < d.size) (hij : i ≠ j) : d[i]! ≠ d[j]! := by
  unfold Apart at h
  intro e
  rw [getElem!_pos d i hi, getElem!_pos d j hj] at e
  have q := (List.getElem_inj (h₀ := by simpa using hi) (h₁ := by simpa using hj) h).1 (by simpa using e)
  exact hij q

theorem Rest.perm (h : Rest a b a1 b1 d) (hp : PermIn a1 b1 d d') (ha : a ≤ a1) (hb : b1 ≤ b) (hs : b ≤ d.size) : Rest a b a1 b1 d' := by
  intro i j hi hij hj hn
  by_cases ii : a1 ≤ i ∧ i < b1
  · have jo : ¬ (a1 ≤ j ∧ j < b1) := fun q => hn ⟨ii.1, q.2⟩
    rw [hp.2.1 j (by omega)]
    exact permIn_all d d' a1 b1 (fun x => ltN d[j]! x = false) (by omega) hp (fun t h1 h2 => h t j (by omega) (by omega) hj (fun q => jo ⟨by omega, q.2⟩)) i ii.1 ii.2
  · rw [hp.2.1 i (by omega)]
    by_cases jj : a1 ≤ j ∧ j < b1
    · exact permIn_all d d' a1 b1 (fun x => ltN x d[i]! = false) (by omega) hp (fun t h1 h2 => h i t hi (by omega) (by omega) (fun q => ii ⟨q.1, by omega⟩)) j jj.1 jj.2
    · rw [hp.2.1 j (by omega)]
      exact h i j hi hij hj hn

theorem Rest.sorted (h : Rest a b a1 b1 d) (hs : SortedIn ltN a1 b1 d) : SortedIn ltN a b d := by
  intro i j hi hij hj
  by_cases q : a1 ≤ i ∧ j < b1
  · exact hs i j q.1 hij q.2
  · exact h i j hi hij hj q

theorem Ahead.perm (h : Ahead a1 b1 d) (hp : PermIn a1 b1 d d') (hs : b1 ≤ d.size) : Ahead a1 b1 d' := by
  rcases h with h | h
  · exact .inl h
  · by_cases h0 : a1 = 0
    · exact .inl h0
    · refine .inr fun i h1 h2 => ?_
      rw [hp.2.1 (a1 - 1) (by omega)]
      exact permIn_all d d' a1 b1 (fun x => ltN d[a1 - 1]! x = true) hs hp h i h1 h2

theorem Rest.left (h : Rest a b a1 b1 d) (hm1 : a1 ≤ m) (hm2 : m < b1) (hs : SortedIn ltN a1 m d) (hl : ∀ k, a1 ≤ k → k < m → ltN d[k]! d[m]! = true) (hr : ∀ k, m < k → k < b1 → ltN d[k]! d[m]! = false) : Rest a b (m + 1) b1 d := by
  intro i j hi hij hj hn
  by_cases q : a1 ≤ i ∧ j < b1
  · by_cases q1 : j < m
    · exact hs i j q.1 hij q1
    · by_cases q2 : j = m
      · subst q2
        exact swoN.asym (hl i q.1 hij)
      · have r := hr j (by omega) q.2
        by_cases q3 : i = m
        · subst q3; exact r
        · exact swoN.ntrans _ _ _ r (swoN.asym (hl i q.1 (by omega)))
  · exact h i j hi hij hj q

theorem Rest.right (h : Rest a b a1 b1 d) (hm1 : a1 ≤ m) (hm2 : m < b1) (hs : SortedIn ltN (m + 1) b1 d) (hl : ∀ k, a1 ≤ k → k < m → ltN d[k]! d[m]! = true) (hr : ∀ k, m < k → k < b1 → ltN d[k]! d[m]! = false) : Rest a b a1 m d := by
  intro i j hi hij hj hn
  by_cases q : a1 ≤ i ∧ j < b1
  · by_cases q1 : m < i
    · exact hs i j q1 hij q.2
    · by_cases q2 : i = m
      · subst q2
        exact hr j hij q.2
      · by_cases q3 : j = m
        · subst q3
          exact swoN.asym (hl i q.1 hij)
        · exact swoN.ntrans _ _ _ (hr j (by omega) q.2) (swoN.asym (hl i q.1 (by omega)))
  · exact h i j hi hij hj q

end

/-- A sort of [a, b) under way: [a1, b1) is left to be sorted. -/
structure PdqAt (w : World) (g : Nat) (d : Array Nat) (a b a1 b1 : Nat) (dk : Array Nat) (wr : World) : Prop where
  perm : PermIn a b d dk
  holds : Holds encN wr g 0 dk
  kept : Kept [g] w wr
  rest : Rest a b a1 b1 dk
  ahead : Ahead a1 b1 dk
  apart : Apart dk
  lo : a ≤ a1
  hi : b1 ≤ b
  sz : b ≤ d.size

section
variable {w wr w2 : World} {g : Nat} {d dk d2 : Array Nat} {a b a1 b1 m : Nat}

theorem PdqAt.size (h : PdqAt w g d a b a1 b1 dk wr) : dk.size = d.size := h.perm.1

theorem PdqAt.inner (h : PdqAt w g d a b a1 b1 dk wr) (hp : PermIn a1 b1 dk d2) (hH : Holds encN w2 g 0 d2) (hk : Kept [g] wr w2) : PdqAt w g d a b a1 b1 d2 w2 := by
  have e := h.size
  have := h.hi
  have := h.sz
  exact ⟨permIn_trans _ _ _ _ _ h.perm (permIn_mono _ _ _ _ _ _ h.lo h.hi (by omega) hp), hH, h.kept.trans hk (Newly.refl _ _), h.rest.perm hp h.lo h.hi (by omega), h.ahead.perm hp (by omega), h.apart.perm hp (by omega), h.lo, h.hi, h.sz⟩

theorem PdqAt.ends (h : PdqAt w g d a b a1 b1 dk wr) (hs : SortedIn ltN a1 b1 dk) : Sorted w g d a b wr := ⟨dk, h.perm, h.rest.sorted hs, h.holds, h.kept⟩

theorem PdqAt.same (h : PdqAt w g d a b a1 b1 dk wr) (hg : g < wr.heap.size) (hk : Kept [] wr w2) : PdqAt w g d a b a1 b1 dk w2 :=
  h.inner (permIn_refl _ _ _) (Holds.kept h.holds hk (by simp) hg) (hk.mono (by simp))

/-- The left part is sorted: go on with the right one. -/
theorem PdqAt.goRight (h : PdqAt w g d a b a1 b1 dk wr) (hp : Parted dk dk a1 b1 m) (hS : Sorted wr g dk a1 m w2) : ∃ d2, PdqAt w g d a b (m + 1) b1 d2 w2 := by
  obtain ⟨d2, p2, s2, h2, k2⟩ := hS
  have e := h.size
  have := h.hi
  have := h.sz
  have := hp.mb
  have := hp.am
  have p3 : PermIn a1 b1 dk d2 := permIn_mono _ _ _ _ _ _ (Nat.le_refl _) (by omega) (by omega) p2
  have h3 := h.inner p3 h2 k2
  have em : d2[m]! = dk[m]! := p2.2.1 m (by omega)
  have hl : ∀ k, a1 ≤ k → k < m → ltN d2[k]! d2[m]! = true := by
    rw [em]
    exact permIn_all dk d2 a1 m (fun x => ltN x dk[m]! = true) (by omega) p2 hp.lo
  have hr : ∀ k, m < k → k < b1 → ltN d2[k]! d2[m]! = false := fun k q1 q2 => by rw [em, p2.2.1 k (by omega)]; exact hp.hi k q1 q2
  refine ⟨d2, ⟨h3.perm, h2, h3.kept, h3.rest.left hp.am hp.mb s2 hl hr, .inr fun i q1 q2 => ?_, h3.apart, by have := h.lo; omega, h.hi, h.sz⟩⟩
  have q := hr i (by omega) q2
  have ne := h3.apart.ne (i := i) (j := m) (by rw [h3.size]; omega) (by rw [h3.size]; omega) (by omega)
  simp only [Nat.add_sub_cancel]
  simp only [ltN, decide_eq_false_iff_not, decide_eq_true_eq] at q ⊢
  omega

theorem PdqAt.goLeft (h : PdqAt w g d a b a1 b1 dk wr) (hp : Parted dk dk a1 b1 m) (hS : Sorted wr g dk (m + 1) b1 w2) : ∃ d2, PdqAt w g d a b a1 m d2 w2 := by
  obtain ⟨d2, p2, s2, h2, k2⟩ := hS
  have e := h.size
  have := h.hi
  have := h.sz
  have := hp.mb
  have := hp.am
  have p3 : PermIn a1 b1 dk d2 := permIn_mono _ _ _ _ _ _ (by omega) (Nat.le_refl _) (by omega) p2
  have h3 := h.inner p3 h2 k2
  have em : d2[m]! = dk[m]! := p2.2.1 m (by omega)
  have hl : ∀ k, a1 ≤ k → k < m → ltN d2[k]! d2[m]! = true := fun k q1 q2 => by rw [em, p2.2.1 k (by omega)]; exact hp.lo k q1 q2
  have hr : ∀ k, m < k → k < b1 → ltN d2[k]! d2[m]! = false := by
    rw [em]
    intro k q1 q2
    exact permIn_all dk d2 (m + 1) b1 (fun x => ltN x dk[m]! = false) (by omega) p2 (fun t h1 h2 => hp.hi t (by omega) h2) k (by omega) q2
  refine ⟨d2, ⟨h3.perm, h2, h3.kept, h3.rest.right hp.am hp.mb s2 hl hr, ?_, h3.apart, h.lo, by omega, h.sz⟩⟩
  rcases h3.ahead with q | q
  · exact .inl q
  · exact .inr fun i q1 q2 => q i q1 (by omega)

/-- What a part that is left to a call of its own keeps. -/
theorem PdqAt.aheadL (h : PdqAt w g d a b a1 b1 dk wr) (hp : Parted dk dk a1 b1 m) : Ahead a1 m dk := by
  rcases h.ahead with q | q
  · exact .inl q
  · exact .inr fun i q1 q2 => q i q1 (by have := hp.mb; omega)
theorem PdqAt.aheadR (h : PdqAt w g d a b a1 b1 dk wr) (hp : Parted dk dk a1 b1 m) : Ahead (m + 1) b1 dk := by
  refine .inr fun i q1 q2 => ?_
  have e := h.size
  have := h.hi
  have := h.sz
  have q := hp.hi i (by omega) q2
  have ne := h.apart.ne (i := i) (j := m) (by omega) (by omega) (by omega)
  simp only [Nat.add_sub_cancel]
  simp only [ltN, decide_eq_false_iff_not, decide_eq_true_eq] at q ⊢
  omega

theorem Parted.self (h : Parted d d2 a b m) : Parted d2 d2 a b m := ⟨permIn_refl _ _ _, h.am, h.mb, h.lo, h.hi⟩

end

end Go.Proofs.Ytokodmeabchmjaa
