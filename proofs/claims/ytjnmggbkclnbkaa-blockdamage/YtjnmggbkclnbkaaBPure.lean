/-
  Blocks as lists: what is told is read, and what is read was told. A lemma file: no statement of the seat is proved here.
-/
import Derived.Test.YtjnmggbkclnbkaaBAll
namespace Go.Proofs.Ytjnmggbkclnbkaa
open Go.RowKit Go.Maps

/-- The number of the bytes of a number. -/
theorem valB_put (k : Nat) (n : Int) : valB 256 (putB k n) = n % 256 ^ k := by
  induction k generalizing n with
  | zero => simp [putB, valB]
  | succ k ih =>
    rw [putB, valB, ih, Int.pow_succ, Int.mul_comm (256 ^ k) 256]
    have h : (0 : Int) < 256 ^ k := Int.pow_pos (by omega)
    generalize (256 : Int) ^ k = M at h
    have e1 := Int.emod_add_mul_ediv (n / 256) M
    have e2 := Int.emod_add_mul_ediv n 256
    have h1 := Int.emod_nonneg (n / 256) (by omega : M ≠ 0)
    have h2 := Int.emod_lt_of_pos (n / 256) h
    have e3 : n = (n % 256 + 256 * (n / 256 % M)) + 256 * M * (n / 256 / M) := by
      rw [Int.mul_assoc]
      generalize M * (n / 256 / M) = X at e1 ⊢
      omega
    have e4 : (n % 256 + 256 * (n / 256 % M)) % (256 * M) = n % 256 + 256 * (n / 256 % M) := Int.emod_eq_of_lt (by omega) (by
      have : 256 * (n / 256 % M + 1) ≤ 256 * M := Int.mul_le_mul_of_nonneg_left (by omega) (by omega)
      omega)
    conv => rhs; rw [e3, Int.add_mul_emod_self_left, e4]

/-- The bytes of the number of bytes. -/
theorem putB_val (xs : List Int) (h : ∀ z ∈ xs, 0 ≤ z ∧ z ≤ 255) : putB xs.length (valB 256 xs) = xs := by
  induction xs with
  | nil => rfl
  | cons x xs ih =>
    have hx := h x (by simp)
    have hv := valB_nonneg 256 (by omega) xs (fun z hz => (h z (by simp [hz])).1)
    rw [List.length_cons, putB, valB, show (x + 256 * valB 256 xs) % 256 = x by omega, show (x + 256 * valB 256 xs) / 256 = valB 256 xs by omega, ih (fun z hz => h z (by simp [hz]))]

theorem sizeB_blk (t rest : List Int) (hl : t.length ≤ 1000) : sizeB (blkB t ++ rest) = t.length := by
  have e : (blkB t ++ rest).take 2 = putB 2 t.length := by
    rw [blkB, headB, List.append_assoc, List.append_assoc, List.take_append_of_le_length (by rw [putB_length]; omega), List.take_of_length_le (by rw [putB_length]; omega)]
  unfold sizeB
  rw [e, valB_put]
  omega

/-- What was told is read as it was, whatever stands behind it. -/
theorem decB_blk (t rest : List Int) (hl : t.length ≤ 1000) (hb : ∀ z ∈ t, 0 ≤ z ∧ z ≤ 255) : decB (blkB t ++ rest) = (t, t.length + 6, 0) := by
  have hs := sizeB_blk t rest hl
  have hlen : (blkB t ++ rest).length = t.length + 6 + rest.length := by rw [List.length_append, blkB_length]
  have hc := crcSum_lt (headB t) (headB_bytes t hb)
  have e1 : (blkB t ++ rest).take (t.length + 2) = headB t := by
    rw [blkB, List.append_assoc, List.take_append_of_le_length (by rw [headB_length]; omega), List.take_of_length_le (by rw [headB_length]; omega)]
  have e2 : ((blkB t ++ rest).drop (t.length + 2)).take 4 = putB 4 (crcSum (headB t) : Nat) := by
    rw [blkB, List.append_assoc, List.drop_append_of_le_length (by rw [headB_length]; omega), List.drop_of_length_le (by rw [headB_length]; omega), List.nil_append, List.take_append_of_le_length (by rw [putB_length]; omega), List.take_of_length_le (by rw [putB_length]; omega)]
  have e3 : ((blkB t ++ rest).drop 2).take t.length = t := by
    rw [blkB, headB, List.append_assoc, List.append_assoc, List.drop_append_of_le_length (by rw [putB_length]; omega), List.drop_of_length_le (by rw [putB_length]; omega), List.nil_append, List.take_append_of_le_length (by omega), List.take_of_length_le (by omega)]
  unfold decB
  rw [hs, hlen, e1, e2, e3, valB_put, if_neg (by omega), if_neg (by omega), if_neg (by omega), if_neg (by omega)]

/-- Bytes that begin with a block begin with the block of its text. -/
theorem decB_back (bs : List Int) (hb : ∀ z ∈ bs, 0 ≤ z ∧ z ≤ 255) (h : (decB bs).2.2 = 0) : blkB (decB bs).1 = bs.take (decB bs).2.1 ∧ (decB bs).1.length ≤ 1000 := by
  revert h
  unfold decB
  split
  · simp
  · split
    · simp
    · split
      · simp
      · split
        · simp
        · rename_i h1 h2 h3 h4
          intro _
          dsimp only
          have hl : ((bs.drop 2).take (sizeB bs)).length = sizeB bs := by simp; omega
          refine ⟨?_, by omega⟩
          have e1 : putB 2 (sizeB bs : Nat) = bs.take 2 := by
            have := putB_val (bs.take 2) (fun z hz => hb z (List.mem_of_mem_take hz))
            rw [sizeB_eq bs hb, List.length_take, Nat.min_eq_left (by omega)] at this
            exact this
          have e2 : headB ((bs.drop 2).take (sizeB bs)) = bs.take (sizeB bs + 2) := by
            rw [headB, hl, e1, Nat.add_comm, List.take_add]
          have e3 : putB 4 (valB 256 ((bs.drop (sizeB bs + 2)).take 4)) = (bs.drop (sizeB bs + 2)).take 4 := by
            have := putB_val ((bs.drop (sizeB bs + 2)).take 4) (fun z hz => hb z (List.mem_of_mem_drop (List.mem_of_mem_take hz)))
            rw [List.length_take, List.length_drop, Nat.min_eq_left (by omega)] at this
            exact this
          have h5 : valB 256 ((bs.drop (sizeB bs + 2)).take 4) = (crcSum (bs.take (sizeB bs + 2)) : Nat) := by omega
          rw [blkB, e2, ← h5, e3, show sizeB bs + 6 = (sizeB bs + 2) + 4 by omega]
          exact List.take_add.symm

/-- Blocks, one behind the other, are read as their texts. -/
theorem allF_join (l : List (List Int)) (pre : List Int) (f : Nat) (acc : List (List Int)) (hk : okL l = true) (hb : ∀ t ∈ l, ∀ z ∈ t, 0 ≤ z ∧ z ≤ 255) (hf : l.length < f) :
    allF f (pre ++ joinB l) pre.length acc = (acc ++ l, 0, 0) := by
  induction l generalizing pre f acc with
  | nil =>
    obtain ⟨f', rfl⟩ : ∃ f', f = f' + 1 := ⟨f - 1, by simp at hf; omega⟩
    rw [allF, if_pos (by simp [joinB])]
    simp
  | cons t l ih =>
    obtain ⟨f', rfl⟩ : ∃ f', f = f' + 1 := ⟨f - 1, by simp at hf; omega⟩
    simp only [okL, List.all_cons, Bool.and_eq_true, decide_eq_true_eq] at hk
    have ht := hb t (by simp)
    have ej : joinB (t :: l) = blkB t ++ joinB l := by simp [joinB]
    have ed : decB ((pre ++ joinB (t :: l)).drop pre.length) = (t, t.length + 6, 0) := by
      rw [List.drop_left, ej]
      exact decB_blk t _ hk.1 ht
    have hlen : (pre ++ joinB (t :: l)).length = pre.length + (t.length + 6) + (joinB l).length := by
      rw [List.length_append, ej, List.length_append, blkB_length]
      omega
    rw [allF, if_neg (by omega), ed, if_pos rfl]
    have := ih (pre ++ blkB t) f' (acc ++ [t]) (by simpa [okL] using hk.2) (fun x hx => hb x (by simp [hx])) (by simp at hf; omega)
    rw [List.length_append, blkB_length, List.append_assoc, ← ej] at this
    rw [this]
    simp

theorem allB_join (l : List (List Int)) (hk : okL l = true) (hb : ∀ t ∈ l, ∀ z ∈ t, 0 ≤ z ∧ z ≤ 255) : allB (joinB l) = (l, 0, 0) := by
  have hlen : l.length ≤ (joinB l).length := by
    clear hk hb
    induction l with
    | nil => simp
    | cons t l ih =>
      have ej : joinB (t :: l) = blkB t ++ joinB l := by simp [joinB]
      rw [ej, List.length_append, blkB_length, List.length_cons]
      omega
  have := allF_join l [] ((joinB l).length + 1) [] hk hb (by omega)
  simpa [allB] using this

theorem allF_len (f : Nat) (bs : List Int) (k : Nat) (acc : List (List Int)) (h : acc.length ≤ k) (hk : k ≤ bs.length) : (allF f bs k acc).1.length ≤ bs.length ∧ (allF f bs k acc).2.1 ≤ bs.length := by
  induction f generalizing k acc with
  | zero => exact ⟨by simp only [allF]; omega, by simp [allF]⟩
  | succ f ih =>
    rw [allF]
    split
    · exact ⟨by dsimp only; omega, by simp⟩
    · split
      · rename_i h1 h2
        have := decB_ok (bs.drop k) h2
        rw [List.length_drop] at this
        exact ih _ _ (by simp; omega) (by omega)
      · exact ⟨by simp, by dsimp only; omega⟩

theorem allB_len (bs : List Int) : (allB bs).1.length ≤ bs.length ∧ (allB bs).2.1 ≤ bs.length := allF_len _ bs 0 [] (by simp) (by omega)

end Go.Proofs.Ytjnmggbkclnbkaa
