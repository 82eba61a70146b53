/-
  What the reference's Less and Sort do. A lemma file: no statement of the seat is proved here.
-/
import Derived.Test.YtjkdnibfppjolaaSteps2
namespace Go.Proofs.Ytjkdnibfppjolaa
open Go.RowKit

/-- The reference's order of edges: by To, then From, then W. -/
def ltR (x y : Ed) : Bool := decide (x.2.1 < y.2.1 ∨ x.2.1 = y.2.1 ∧ (x.1 < y.1 ∨ x.1 = y.1 ∧ x.2.2 < y.2.2))

set_option maxHeartbeats 1000000 in
theorem less_any (x y : Ed) (w : World) :
    Calls Try.prog 43 #[.agg #[.int .u32 x.1, .int .u32 x.2.1, .int .u32 x.2.2], .agg #[.int .u32 y.1, .int .u32 y.2.1, .int .u32 y.2.2]] w fun e w' => e = .returned (.bool (ltR x y)) ∧ Below w.heap.size w w' := by
  obtain ⟨x1, x2, x3⟩ := x
  obtain ⟨y1, y2, y3⟩ := y
  dsimp only
  have hb : Below w.heap.size w ((w.alloc (.cells #[.int .u32 x1, .int .u32 x2, .int .u32 x3] 39)).alloc (.cells #[.int .u32 y1, .int .u32 y2, .int .u32 y3] 39)) := ((Below.refl _ w).alloc (Nat.le_refl _) _).alloc (by simp) _
  have HB := hide hb
  clear hb
  by_cases h1 : x2 = y2
  · have t1 : (x2 != y2) = false := by simpa using h1
    by_cases h2 : x1 = y1
    · have t2 : (x1 != y1) = false := by simpa using h2
      have hr : ltR (x1, x2, x3) (y1, y2, y3) = decide (x3 < y3) := by simp [ltR, h1, h2]
      rw [hr]
      clear h1 h2 hr
      go_enter Try.func43, Try.ntmps43
      go_wp2
      all_goals
        go_ret
        exact ⟨by first | rfl | simp_all, HB.out⟩
    · have t2 : (x1 != y1) = true := by simpa using h2
      have hr : ltR (x1, x2, x3) (y1, y2, y3) = decide (x1 < y1) := by simp [ltR, h1, h2]
      rw [hr]
      clear h1 h2 hr
      go_enter Try.func43, Try.ntmps43
      go_wp2
      all_goals
        go_ret
        exact ⟨by first | rfl | simp_all, HB.out⟩
  · have t1 : (x2 != y2) = true := by simpa using h1
    have hr : ltR (x1, x2, x3) (y1, y2, y3) = decide (x2 < y2) := by simp [ltR, h1]
    rw [hr]
    clear h1 hr
    go_enter Try.func43, Try.ntmps43
    go_wp2
    all_goals
      go_ret
      exact ⟨by first | rfl | simp_all, HB.out⟩

theorem ltR_total (x y : Ed) (h1 : ltR x y = false) (h2 : ltR y x = false) : x = y := by
  simp only [ltR, decide_eq_false_iff_not] at h1 h2
  obtain ⟨x1, x2, x3⟩ := x
  obtain ⟨y1, y2, y3⟩ := y
  dsimp only at h1 h2
  have e1 : x1 = y1 := by omega
  have e2 : x2 = y2 := by omega
  have e3 : x3 = y3 := by omega
  rw [e1, e2, e3]
theorem ltR_le {x y : Ed} (h : ltR x y = true) : ltR y x = false := by
  simp only [ltR, decide_eq_true_eq, decide_eq_false_iff_not] at *
  omega
theorem leR_trans {x y z : Ed} (h1 : ltR y x = false) (h2 : ltR z y = false) : ltR z x = false := by
  simp only [ltR, decide_eq_false_iff_not] at *
  omega

/-- In order. -/
def Ord (es : List Ed) : Prop := List.Pairwise (fun x y => ltR y x = false) es

theorem ord_unique {a b : List Ed} (ha : Ord a) (hb : Ord b) (h : a.Perm b) : a = b :=
  List.Perm.eq_of_pairwise (fun x y _ _ h1 h2 => ltR_total x y h2 h1) ha hb h

theorem ord_insert (out : List Ed) (ho : Ord out) (x : Ed) (k : Nat) (hk : k ≤ out.length) (h1 : ∀ j, k ≤ j → j < out.length → ltR x out[j]! = true) (h2 : 0 < k → ltR x out[k - 1]! = false) : Ord (out.take k ++ x :: out.drop k) := by
  unfold Ord at *
  rw [List.pairwise_append]
  have hsub := ho
  rw [← List.take_append_drop k out, List.pairwise_append] at hsub
  obtain ⟨p1, p2, p3⟩ := hsub
  have hlow : ∀ a ∈ out.take k, ltR x a = false := fun a ha => by
    obtain ⟨i, hi, rfl⟩ := List.getElem_of_mem ha
    simp only [List.length_take] at hi
    have hk0 : 0 < k := by omega
    have e := h2 hk0
    rw [getElem!_pos out (k - 1) (by omega)] at e
    rw [List.getElem_take]
    by_cases hik : i = k - 1
    · subst hik; exact e
    · have := List.pairwise_iff_getElem.1 ho i (k - 1) (by omega) (by omega) (by omega)
      exact leR_trans this e
  have hhigh : ∀ b ∈ out.drop k, ltR b x = false := fun b hb => by
    obtain ⟨i, hi, rfl⟩ := List.getElem_of_mem hb
    simp only [List.length_drop] at hi
    have e := h1 (k + i) (by omega) (by omega)
    rw [getElem!_pos out (k + i) (by omega)] at e
    rw [List.getElem_drop]
    exact ltR_le e
  refine ⟨p1, List.pairwise_cons.2 ⟨hhigh, p2⟩, fun a ha b hb => ?_⟩
  rcases List.mem_cons.1 hb with rfl | hb
  · exact hlow a ha
  · exact p3 a ha b hb

theorem perm_insert (out : List Ed) (x : Ed) (k : Nat) (l : List Ed) (h : out.Perm l) : (out.take k ++ x :: out.drop k).Perm (l ++ [x]) := by
  have e1 : (out.take k ++ x :: out.drop k).Perm (x :: out) := by
    have := (List.perm_middle (l₁ := out.take k) (l₂ := out.drop k) (a := x))
    rw [List.take_append_drop] at this
    exact this
  exact e1.trans ((h.cons x).trans (List.perm_append_singleton x l).symm)

/-- The row while its end is moved up. -/
def gap (out : List Ed) (j : Nat) (c : Ed) : List Ed := out.take j ++ c :: out.drop j
theorem gap_length (out : List Ed) (j : Nat) (c : Ed) : (gap out j c).length = out.length + 1 := by
  simp [gap]
  omega
theorem gap_at (out : List Ed) (j : Nat) (c : Ed) (hj : 0 < j) (hl : j ≤ out.length) : (gap out j c)[j - 1]! = out[j - 1]! := by
  rw [getElem!_pos _ (j - 1) (by rw [gap_length]; omega), getElem!_pos out (j - 1) (by omega)]
  simp only [gap]
  rw [List.getElem_append_left (by simp; omega), List.getElem_take]
theorem gap_step (out : List Ed) (j : Nat) (c : Ed) (hj : 0 < j) (hl : j ≤ out.length) : (gap out j c).set j out[j - 1]! = gap out (j - 1) out[j - 1]! := by
  have hlen : (out.take j).length = j := by simp; omega
  simp only [gap]
  rw [List.set_append_right _ _ (by omega), hlen, Nat.sub_self, List.set_cons_zero]
  have e1 : out.take j = out.take (j - 1) ++ [out[j - 1]!] := by
    have := List.take_succ_eq_append_getElem (show j - 1 < out.length by omega)
    rw [show j - 1 + 1 = j by omega] at this
    rw [this, getElem!_pos out (j - 1) (by omega)]
  have e2 : out.drop (j - 1) = out[j - 1]! :: out.drop j := by
    rw [List.drop_eq_getElem_cons (show j - 1 < out.length by omega), show j - 1 + 1 = j by omega, getElem!_pos out (j - 1) (by omega)]
  rw [e2, e1, List.append_assoc]
  rfl
theorem gap_end (out : List Ed) (x : Ed) : out ++ [x] = gap out out.length x := by simp [gap]
theorem gap_set (out : List Ed) (k : Nat) (c x : Ed) (hk : k ≤ out.length) : (gap out k c).set k x = out.take k ++ x :: out.drop k := by
  have hlen : (out.take k).length = k := by simp; omega
  simp only [gap]
  rw [List.set_append_right _ _ (by omega), hlen, Nat.sub_self, List.set_cons_zero]

end Go.Proofs.Ytjkdnibfppjolaa
