/-
  Blocks that are cut, or whose sum is another one. A lemma file: no statement of the seat is proved here.
-/
import Derived.Test.YtjnmggbkclnbkaaBRow3
namespace Go.Proofs.Ytjnmggbkclnbkaa
open Go.RowKit Go.Maps

/-- Behind whole blocks stands what is none. -/
theorem allF_err (l : List (List Int)) (pre tail : List Int) (f : Nat) (acc : List (List Int)) (hk : okL l = true) (hb : ∀ t ∈ l, ∀ z ∈ t, 0 ≤ z ∧ z ≤ 255) (hf : l.length < f) (h0 : 0 < tail.length) (e : Int) (he : (decB tail).2.2 = e) (hne : e ≠ 0) :
    allF f (pre ++ joinB l ++ tail) pre.length acc = ([], pre.length + (joinB l).length, e) := by
  induction l generalizing pre f acc with
  | nil =>
    obtain ⟨f', rfl⟩ : ∃ f', f = f' + 1 := ⟨f - 1, by simp at hf; omega⟩
    have ed : (pre ++ joinB [] ++ tail).drop pre.length = tail := by simp [joinB]
    have hlen : (pre ++ joinB [] ++ tail).length = pre.length + tail.length := by simp [joinB]
    rw [allF, if_neg (by omega), ed, he, if_neg hne]
    simp [joinB]
  | cons t l ih =>
    obtain ⟨f', rfl⟩ : ∃ f', f = f' + 1 := ⟨f - 1, by simp at hf; omega⟩
    simp only [okL, List.all_cons, Bool.and_eq_true, decide_eq_true_eq] at hk
    have ht := hb t (by simp)
    have ej := joinB_cons t l
    have ed : decB ((pre ++ joinB (t :: l) ++ tail).drop pre.length) = (t, t.length + 6, 0) := by
      rw [List.append_assoc, List.drop_left, ej, List.append_assoc]
      exact decB_blk t _ hk.1 ht
    have hlen : (pre ++ joinB (t :: l) ++ tail).length = pre.length + (t.length + 6) + (joinB l).length + tail.length := by
      rw [List.length_append, List.length_append, ej, List.length_append, blkB_length]
      omega
    rw [allF, if_neg (by omega), ed, if_pos rfl]
    have := ih (pre ++ blkB t) f' (acc ++ [t]) (by simpa [okL] using hk.2) (fun x hx => hb x (by simp [hx])) (by simp at hf; omega)
    rw [List.length_append, blkB_length, List.append_assoc pre, ← ej] at this
    rw [this, ej, List.length_append, blkB_length]
    simp only [Prod.mk.injEq, true_and, and_true]
    omega

theorem joinB_len_ge (l : List (List Int)) : l.length ≤ (joinB l).length := by
  induction l with
  | nil => simp
  | cons t l ih =>
    rw [joinB_cons, List.length_append, blkB_length, List.length_cons]
    omega

theorem allB_err (l : List (List Int)) (tail : List Int) (hk : okL l = true) (hb : ∀ t ∈ l, ∀ z ∈ t, 0 ≤ z ∧ z ≤ 255) (h0 : 0 < tail.length) (e : Int) (he : (decB tail).2.2 = e) (hne : e ≠ 0) :
    allB (joinB l ++ tail) = ([], (joinB l).length, e) := by
  have h1 := joinB_len_ge l
  have := allF_err l [] tail ((joinB l ++ tail).length + 1) [] hk hb (by rw [List.length_append]; omega) h0 e he hne
  simpa [allB] using this

/-- A block that is cut is of a wrong form. -/
theorem decB_cut (t : List Int) (n : Nat) (hl : t.length ≤ 1000) (hn : n < t.length + 6) : (decB ((blkB t).take n)).2.2 = 2 := by
  have hlen : ((blkB t).take n).length = n := by rw [List.length_take, blkB_length]; omega
  unfold decB
  by_cases h2 : n < 2
  · rw [hlen, if_pos h2]
  · have hs : sizeB ((blkB t).take n) = t.length := by
      have := sizeB_blk t [] hl
      rw [List.append_nil] at this
      unfold sizeB at this ⊢
      rw [List.take_take, Nat.min_eq_left (by omega)]
      exact this
    rw [hlen, if_neg h2, hs, if_neg (by omega), if_pos hn]

/-- A block whose sum is another one. -/
theorem decB_sum (t cs rest : List Int) (hl : t.length ≤ 1000) (hcl : cs.length = 4) (hcb : ∀ z ∈ cs, 0 ≤ z ∧ z ≤ 255) (hne : cs ≠ putB 4 (crcSum (headB t) : Nat)) : (decB (headB t ++ cs ++ rest)).2.2 = 3 := by
  have hlen : (headB t ++ cs ++ rest).length = t.length + 6 + rest.length := by rw [List.length_append, List.length_append, headB_length, hcl]
  have hs : sizeB (headB t ++ cs ++ rest) = t.length := by
    have e : (headB t ++ cs ++ rest).take 2 = putB 2 t.length := by
      rw [headB, List.append_assoc, List.append_assoc, List.take_append_of_le_length (by rw [putB_length]; omega), List.take_of_length_le (by rw [putB_length]; omega)]
    unfold sizeB
    rw [e, valB_put]
    omega
  have e1 : (headB t ++ cs ++ rest).take (t.length + 2) = headB t := by
    rw [List.append_assoc, List.take_append_of_le_length (by rw [headB_length]; omega), List.take_of_length_le (by rw [headB_length]; omega)]
  have e2 : ((headB t ++ cs ++ rest).drop (t.length + 2)).take 4 = cs := by
    rw [List.append_assoc, List.drop_append_of_le_length (by rw [headB_length]; omega), List.drop_of_length_le (by rw [headB_length]; omega), List.nil_append, List.take_append_of_le_length (by omega), List.take_of_length_le (by omega)]
  unfold decB
  rw [hs, hlen, e1, e2, if_neg (by omega), if_neg (by omega), if_neg (by omega), if_pos]
  intro h
  apply hne
  have := putB_val cs hcb
  rw [hcl, h] at this
  exact this.symm

theorem xor_ne (x y : Nat) (h : y ≠ 0) : x ^^^ y ≠ x := by
  intro e
  apply h
  have : x ^^^ (x ^^^ y) = x ^^^ x := by rw [e]
  rw [← Nat.xor_assoc, Nat.xor_self, Nat.zero_xor] at this
  exact this

theorem u8_xor (x y : Int) (hx : 0 ≤ x ∧ x ≤ 255) (hy : 0 ≤ y ∧ y ≤ 255) : 0 ≤ bits .xor .u8 x y ∧ bits .xor .u8 x y ≤ 255 ∧ (y = 0 → bits .xor .u8 x y = x) ∧ (y ≠ 0 → bits .xor .u8 x y ≠ x) := by
  obtain ⟨a, rfl⟩ := Int.eq_ofNat_of_zero_le hx.1
  obtain ⟨b, rfl⟩ := Int.eq_ofNat_of_zero_le hy.1
  have e : bits .xor .u8 (a : Int) (b : Int) = ((a ^^^ b : Nat) : Int) := by
    have h1 : (BitVec.ofInt 8 (a : Int)).toNat = a := by simp; omega
    have h2 : (BitVec.ofInt 8 (b : Int)).toNat = b := by simp; omega
    have h3 : (BitVec.ofInt 8 (a : Int) ^^^ BitVec.ofInt 8 (b : Int)).toNat = a ^^^ b := by rw [BitVec.toNat_xor, h1, h2]
    have h4 : a ^^^ b < 2 ^ 8 := Nat.xor_lt_two_pow (by omega) (by omega)
    show IntKind.u8.wrap ((BitVec.ofInt 8 (a : Int) ^^^ BitVec.ofInt 8 (b : Int)).toNat : Nat) = _
    rw [h3, IntKind.wrap_u8]
    omega
  have h4 : a ^^^ b < 2 ^ 8 := Nat.xor_lt_two_pow (by omega) (by omega)
  rw [e]
  refine ⟨by omega, by omega, fun h => ?_, fun h h2 => ?_⟩
  · have : b = 0 := by omega
    subst this
    simp
  · exact xor_ne a b (by omega) (by omega)

/-- The blocks of a row of texts: those ahead of one, its own, and those behind. -/
theorem joinB_split (l : List (List Int)) (k : Nat) (h : k < l.length) : joinB l = joinB (l.take k) ++ (blkB (l[k]?.getD []) ++ joinB (l.drop (k + 1))) := by
  conv => lhs; rw [← List.take_append_drop k l, joinB_append, List.drop_eq_getElem_cons h, joinB_cons]
  simp [h]

/-- How many bytes the blocks of the first k texts have. -/
def fromT (k : Nat) (l : List (List Int)) : Nat := (joinB (l.take k)).length
theorem fromT_zero (l : List (List Int)) : fromT 0 l = 0 := by simp [fromT, joinB]
theorem fromT_step (k : Nat) (l : List (List Int)) (h : k < l.length) : fromT (k + 1) l = fromT k l + (l[k]?.getD []).length + 6 := by
  rw [fromT, take_snocL l k h, joinB_append, List.length_append, fromT]
  simp [joinB, blkB_length]
  omega
theorem fromT_all (l : List (List Int)) : fromT l.length l = (joinB l).length := by rw [fromT, List.take_of_length_le (Nat.le_refl _)]
theorem fromT_le (k : Nat) (l : List (List Int)) : fromT k l ≤ (joinB l).length := by
  conv => rhs; rw [← List.take_append_drop k l, joinB_append, List.length_append]
  rw [fromT]
  omega

/-- What is cut of the last block. -/
theorem all_cut (l : List (List Int)) (hk : okL l = true) (hb : ∀ t ∈ l, ∀ z ∈ t, 0 ≤ z ∧ z ≤ 255) (hl : 0 < l.length) (last cut : Nat) (hla : last = (l[l.length - 1]?.getD []).length + 6) (h1 : 1 ≤ cut) (h2 : cut < last) :
    allB ((joinB l).take ((joinB l).length - cut)) = ([], (joinB l).length - last, 2) := by
  have hsp := joinB_split l (l.length - 1) (by omega)
  rw [show l.length - 1 + 1 = l.length by omega, List.drop_of_length_le (Nat.le_refl _)] at hsp
  have hnil : joinB [] = [] := rfl
  rw [hnil, List.append_nil] at hsp
  have hmem : l[l.length - 1]?.getD [] ∈ l := by simp [show l.length - 1 < l.length by omega]
  obtain ⟨t, ht⟩ : ∃ t, t = l[l.length - 1]?.getD [] := ⟨_, rfl⟩
  rw [← ht] at hsp hla hmem
  have htl : t.length ≤ 1000 := by
    simp only [okL, List.all_eq_true, decide_eq_true_eq] at hk
    exact hk t hmem
  have hjl : (joinB l).length = (joinB (l.take (l.length - 1))).length + last := by rw [hsp, List.length_append, blkB_length, hla]
  have et : (joinB l).take ((joinB l).length - cut) = joinB (l.take (l.length - 1)) ++ (blkB t).take (last - cut) := by
    rw [hjl]
    conv => lhs; rw [hsp]
    rw [List.take_append, List.take_of_length_le (by omega)]
    congr 2
    omega
  rw [et, allB_err _ _ (okL_take _ _ hk) (fun x hx => hb x (List.mem_of_mem_take hx)) (by rw [List.length_take, blkB_length]; omega) 2 (decB_cut t _ htl (by omega)) (by decide)]
  simp only [Prod.mk.injEq, true_and, and_true]
  omega

/-- A byte of a sum that is another one. -/
theorem all_sum (l : List (List Int)) (hk : okL l = true) (hb : ∀ t ∈ l, ∀ z ∈ t, 0 ≤ z ∧ z ≤ 255) (k : Nat) (hkl : k < l.length) (a : Nat) (ha : a < 4) (y : Int) (hy : 0 ≤ y ∧ y ≤ 255) (hne : y ≠ (joinB l)[fromT k l + 2 + (l[k]?.getD []).length + a]?.getD 0) :
    allB ((joinB l).set (fromT k l + 2 + (l[k]?.getD []).length + a) y) = ([], fromT k l, 3) := by
  have hsp := joinB_split l k hkl
  have hmem : l[k]?.getD [] ∈ l := by simp [hkl]
  obtain ⟨t, ht⟩ : ∃ t, t = l[k]?.getD [] := ⟨_, rfl⟩
  rw [← ht] at hsp hne hmem ⊢
  have htl : t.length ≤ 1000 := by
    simp only [okL, List.all_eq_true, decide_eq_true_eq] at hk
    exact hk t hmem
  have hf : fromT k l = (joinB (l.take k)).length := rfl
  have hp4 : (putB 4 (crcSum (headB t) : Nat)).length = 4 := putB_length _ _
  have hhl := headB_length t
  have e : (joinB l).set (fromT k l + 2 + t.length + a) y = joinB (l.take k) ++ (headB t ++ (putB 4 (crcSum (headB t) : Nat)).set a y ++ joinB (l.drop (k + 1))) := by
    rw [hsp, List.set_append_right _ _ (by omega), blkB, List.append_assoc, List.set_append_right _ _ (by omega), List.set_append_left _ _ (by omega), List.append_assoc, hf]
    congr 3
    congr 1
    omega
  have eo : (joinB l)[fromT k l + 2 + t.length + a]?.getD 0 = (putB 4 (crcSum (headB t) : Nat))[a]?.getD 0 := by
    rw [hsp, List.getElem?_append_right (by omega), blkB, List.append_assoc, List.getElem?_append_right (by omega), List.getElem?_append_left (by omega)]
    congr 2
    omega
  rw [eo] at hne
  rw [e, allB_err _ _ (okL_take _ _ hk) (fun x hx => hb x (List.mem_of_mem_take hx)) (by simp only [List.length_append]; omega) 3 (decB_sum t _ _ htl (by rw [List.length_set]; exact hp4) (fun z hz => by
    rcases List.mem_or_eq_of_mem_set hz with hz | rfl
    · exact putB_bytes _ _ z hz
    · exact hy) (fun h => hne (by
        have := congrArg (fun l => l[a]?.getD 0) h
        simpa [hp4, ha] using this))) (by decide), hf]

end Go.Proofs.Ytjnmggbkclnbkaa
