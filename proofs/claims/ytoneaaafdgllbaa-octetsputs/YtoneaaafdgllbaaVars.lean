/-
  Numbers by digits of seven bits: what is put is got, and there is one text of each number. A lemma file: no statement of the seat is proved here.
-/
import Derived.Test.YtoneaaafdgllbaaPuts
import Derived.Test.YtoneaaafdgllbaaGets
namespace Go.Proofs.Ytoneaaafdgllbaa
open Go.RowKit

theorem andNot_128 (x : Int) (h0 : 0 ≤ x) (h1 : x ≤ 255) : bits .andNot .u8 x 128 = x % 128 := by
  rw [u8_andNot _ _ (by omega) (by omega) (by omega) (by omega)]
  obtain ⟨k, rfl⟩ := Int.eq_ofNat_of_zero_le h0
  rw [Int.toNat_natCast, show ((128 : Int)).toNat = 128 from rfl]
  have h : ∀ x, x < 256 → x &&& (255 - 128) = x % 128 := by decide +kernel
  rw [h _ (by omega)]
  omega

theorem lowB_eq (xs : List Int) (h : ∀ z ∈ xs, 0 ≤ z ∧ z ≤ 255) : lowB xs = xs.map (· % 128) := by
  unfold lowB
  apply List.map_congr_left
  intro z hz
  exact andNot_128 z (h z hz).1 (h z hz).2

/-- What GetVar tells of bytes. -/
def gv (bs : List Int) : Int × Nat × Bool := if okV bs = true then (valB 128 ((bs.take (digN 10 bs)).map (· % 128)), digN 10 bs, true) else (0, 0, false)

theorem valB_append (m : Int) (xs : List Int) (t : Int) : valB m (xs ++ [t]) = valB m xs + m ^ xs.length * t := by
  induction xs with
  | nil => simp [valB]
  | cons x xs ih =>
    rw [List.cons_append, valB, ih, valB, List.length_cons, Int.mul_add, Int.pow_succ, ← Int.mul_assoc, Int.mul_comm m (m ^ xs.length)]
    omega

/-- The digits of a number that may be are a number of 64 bits. -/
theorem val_lt (xs : List Int) (h : ∀ z ∈ xs, 0 ≤ z ∧ z < 128) (hl : xs.length ≤ 10) (hg : xs.length = 10 → xs[9]?.getD 0 ≤ 1) : valB 128 xs < 18446744073709551616 := by
  by_cases h10 : xs.length = 10
  · have e : xs = xs.take 9 ++ [xs[9]?.getD 0] := by
      have h9 : 9 < xs.length := by omega
      have := List.take_succ_eq_append_getElem h9
      rw [List.take_of_length_le (by omega)] at this
      simpa [h9] using this
    have h1 := valB_lt 128 (by omega) (xs.take 9) (fun z hz => h z (List.mem_of_mem_take hz))
    have hl9 : (xs.take 9).length = 9 := by simp; omega
    rw [hl9] at h1
    rw [e, valB_append, hl9]
    have := hg h10
    have h3 : (128 : Int) ^ 9 = 9223372036854775808 := by decide
    rw [h3] at h1 ⊢
    omega
  · have h1 := valB_lt 128 (by omega) xs h
    have h2 : (128 : Int) ^ xs.length ≤ (128 : Int) ^ 9 := by
      have := Nat.pow_le_pow_right (show 0 < 128 by omega) (show xs.length ≤ 9 by omega)
      have e1 : ((128 : Int)) ^ xs.length = ((128 ^ xs.length : Nat) : Int) := by rw [Int.natCast_pow]; rfl
      have e2 : ((128 : Int)) ^ 9 = ((128 ^ 9 : Nat) : Int) := by decide
      rw [e1, e2]
      exact Int.ofNat_le.2 this
    have h3 : (128 : Int) ^ 9 = 9223372036854775808 := by decide
    omega

theorem take_dig (bs : List Int) : (bs.take (digN 10 bs)).length = digN 10 bs := by
  have := digN_le 10 bs
  simp
  omega

/-- A number that is told is one of 64 bits. -/
theorem gv_range (bs : List Int) (hb : ∀ z ∈ bs, 0 ≤ z ∧ z ≤ 255) (hk : okV bs = true) : 0 ≤ valB 128 ((bs.take (digN 10 bs)).map (· % 128)) ∧ valB 128 ((bs.take (digN 10 bs)).map (· % 128)) < 18446744073709551616 := by
  have hd := digN_le 10 bs
  have hm : ∀ z ∈ (bs.take (digN 10 bs)).map (· % 128), 0 ≤ z ∧ z < 128 := by
    intro z hz
    obtain ⟨y, hy, rfl⟩ := List.mem_map.1 hz
    omega
  refine ⟨valB_nonneg 128 (by omega) _ (fun z hz => (hm z hz).1), val_lt _ hm (by rw [List.length_map, take_dig]; exact hd.2) fun h10 => ?_⟩
  rw [List.length_map, take_dig] at h10
  simp only [okV, Bool.and_eq_true, Bool.not_eq_true'] at hk
  have hg1 := hk.2
  unfold greatB at hg1
  rw [take_dig, h10] at hg1
  have hg2 := of_decide_eq_false hg1
  have hg : ¬ (1 : Int) < (bs.take 10)[9]?.getD 0 := fun h => hg2 ⟨rfl, h⟩
  rw [h10]
  rw [List.getElem?_map]
  have h9 : 9 < (bs.take 10).length := by simp; omega
  have hz := hb ((bs.take 10)[9]) (List.mem_of_mem_take (List.getElem_mem h9))
  rw [List.getElem?_eq_getElem h9] at hg ⊢
  simp only [Option.map_some, Option.getD_some] at hg ⊢
  omega

/-- GetVar, whatever the bytes. -/
theorem getVar_any (v : Value) (bs : List Int) (w : World) (hb : IsB w v bs) (hl : bs.length ≤ 140737488355328) :
    Calls Try.prog 17 #[v] w fun e w' => e = .returned (.tuple #[.int .u64 (gv bs).1, .int .i64 (gv bs).2.1, .bool (gv bs).2.2]) ∧ Below w.heap.size w w' := by
  unfold gv
  cases hk : okV bs with
  | false =>
    refine (getVar_no v bs w hb hl hk).mono ?_
    rintro e w' ⟨rfl, rfl⟩
    exact ⟨rfl, Below.refl _ _⟩
  | true =>
    have hr := gv_range bs hb.bytes hk
    have e : getFold 128 (lowB (bs.take (digN 10 bs))).reverse = valB 128 ((bs.take (digN 10 bs)).map (· % 128)) := by
      rw [lowB_eq _ (fun z hz => hb.bytes z (List.mem_of_mem_take hz))]
      refine getFold_reverse 7 _ (fun z hz => ?_) hr.2
      obtain ⟨y, hy, rfl⟩ := List.mem_map.1 hz
      omega
    have := getVar_go v bs w hb hl hk
    rw [e] at this
    exact this

theorem digN_varB (f : Nat) (n : Int) (h0 : 0 ≤ n) (h1 : n < 2 * 128 ^ f) (t : List Int) : digN (f + 1) (varB f n ++ t) = (varB f n).length := by
  induction f generalizing n with
  | zero =>
    simp at h1
    simp only [varB, List.cons_append, List.nil_append, digN]
    rw [if_pos (by omega)]
    rfl
  | succ f ih =>
    simp only [varB]
    split
    · have := ih (n / 128) (by omega) (by rw [Int.pow_succ] at h1; omega)
      have hl := (varB_length f (n / 128)).1
      rw [List.cons_append, digN, if_neg (by omega), this, if_neg (by omega)]
      simp
    · rw [List.cons_append, digN, if_pos (by omega)]
      rfl

theorem val_varB (f : Nat) (n : Int) (h0 : 0 ≤ n) (h1 : n < 2 * 128 ^ f) : valB 128 ((varB f n).map (· % 128)) = n := by
  induction f generalizing n with
  | zero =>
    simp at h1
    simp only [varB, List.map_cons, List.map_nil, valB]
    omega
  | succ f ih =>
    simp only [varB]
    split
    · have := ih (n / 128) (by omega) (by rw [Int.pow_succ] at h1; omega)
      rw [List.map_cons, valB, this]
      omega
    · simp only [List.map_cons, List.map_nil, valB]
      omega

/-- The last of several digits is not 0. -/
theorem last_varB (f : Nat) (n : Int) (h0 : 1 ≤ n) (h1 : n < 2 * 128 ^ f) : (varB f n)[(varB f n).length - 1]?.getD 0 ≠ 0 := by
  induction f generalizing n with
  | zero =>
    simp at h1
    simp [varB]
    omega
  | succ f ih =>
    simp only [varB]
    split
    · have := ih (n / 128) (by omega) (by rw [Int.pow_succ] at h1; omega)
      have hl := (varB_length f (n / 128)).1
      rw [List.length_cons, show (varB f (n / 128)).length + 1 - 1 = (varB f (n / 128)).length - 1 + 1 by omega, List.getElem?_cons_succ]
      exact this
    · simp
      omega

/-- The tenth digit is at most 1. -/
theorem tenth_varB (f : Nat) (n : Int) (h0 : 0 ≤ n) (h1 : n < 2 * 128 ^ f) (hl : (varB f n).length = f + 1) : (varB f n)[f]?.getD 0 ≤ 1 := by
  induction f generalizing n with
  | zero =>
    simp at h1
    simp [varB]
    omega
  | succ f ih =>
    simp only [varB] at hl ⊢
    split at hl
    · rename_i hn
      rw [if_pos hn]
      rw [List.length_cons] at hl
      rw [List.getElem?_cons_succ]
      exact ih (n / 128) (by omega) (by rw [Int.pow_succ] at h1; omega) (by omega)
    · simp at hl

/-- What was put is got. -/
theorem gv_varB (n : Int) (h0 : 0 ≤ n) (h1 : n < 18446744073709551616) (t : List Int) : gv (varB 9 n ++ t) = (n, (varB 9 n).length, true) := by
  have hp : n < 2 * 128 ^ 9 := by
    have : (128 : Int) ^ 9 = 9223372036854775808 := by decide
    omega
  have hd := digN_varB 9 n h0 hp t
  have ht : (varB 9 n ++ t).take (digN 10 (varB 9 n ++ t)) = varB 9 n := by rw [hd]; simp
  have hk : okV (varB 9 n ++ t) = true := by
    unfold okV
    rw [ht]
    have hlen := varB_length 9 n
    simp only [Bool.and_eq_true, Bool.not_eq_true', shortB, greatB, decide_eq_true_eq, decide_eq_false_iff_not]
    refine ⟨?_, ?_⟩
    · by_cases hl1 : (varB 9 n).length = 1
      · exact .inl hl1
      · refine .inr ⟨by omega, last_varB 9 n ?_ hp⟩
        by_cases h128 : 128 ≤ n
        · omega
        · exfalso
          apply hl1
          simp only [varB]
          rw [if_neg h128]
          rfl
    · rintro ⟨h10, hg⟩
      have := tenth_varB 9 n h0 hp h10
      omega
  unfold gv
  rw [if_pos hk, ht, val_varB 9 n h0 hp, hd]

theorem valpos (f : Nat) (bs : List Int) (hb : ∀ z ∈ bs, 0 ≤ z ∧ z ≤ 255) (hd : 1 ≤ digN f bs) (hl : bs[digN f bs - 1]?.getD 0 ≠ 0) : 1 ≤ valB 128 ((bs.take (digN f bs)).map (· % 128)) := by
  induction f generalizing bs with
  | zero => simp [digN] at hd
  | succ f ih =>
    cases bs with
    | nil => simp [digN] at hd
    | cons x xs =>
      have hx := hb x (by simp)
      by_cases h1 : x < 128
      · have e : digN (f + 1) (x :: xs) = 1 := by simp [digN, h1]
        rw [e] at hl ⊢
        simp at hl
        simp [valB]
        omega
      · by_cases h2 : digN f xs = 0
        · simp [digN, h1, h2] at hd
        · have e : digN (f + 1) (x :: xs) = digN f xs + 1 := by simp [digN, h1, h2]
          rw [e] at hl ⊢
          rw [show digN f xs + 1 - 1 = (digN f xs - 1) + 1 by omega, List.getElem?_cons_succ] at hl
          have := ih xs (fun z hz => hb z (by simp [hz])) (by omega) hl
          rw [List.take_succ_cons, List.map_cons, valB]
          omega

/-- There is one text of each number. -/
theorem varB_dig (f : Nat) (bs : List Int) (hb : ∀ z ∈ bs, 0 ≤ z ∧ z ≤ 255) (hd : 1 ≤ digN (f + 1) bs) (hs : digN (f + 1) bs = 1 ∨ bs[digN (f + 1) bs - 1]?.getD 0 ≠ 0) :
    varB f (valB 128 ((bs.take (digN (f + 1) bs)).map (· % 128))) = bs.take (digN (f + 1) bs) := by
  induction f generalizing bs with
  | zero =>
    cases bs with
    | nil => simp [digN] at hd
    | cons x xs =>
      have hx := hb x (by simp)
      by_cases h1 : x < 128
      · have e : digN (0 + 1) (x :: xs) = 1 := by simp [digN, h1]
        rw [e]
        simp [varB, valB]
        omega
      · simp [digN, h1] at hd
  | succ f ih =>
    cases bs with
    | nil => simp [digN] at hd
    | cons x xs =>
      have hx := hb x (by simp)
      by_cases h1 : x < 128
      · have e : digN (f + 1 + 1) (x :: xs) = 1 := by simp [digN, h1]
        rw [e]
        have e2 : valB 128 ((List.take 1 (x :: xs)).map (· % 128)) = x := by simp [valB]; omega
        rw [e2, varB, if_neg (by omega)]
        simp
      · by_cases h2 : digN (f + 1) xs = 0
        · rw [digN, if_neg h1, if_pos h2] at hd
          omega
        · have e : digN (f + 1 + 1) (x :: xs) = digN (f + 1) xs + 1 := by rw [digN, if_neg h1, if_neg h2]
          rw [e] at hs ⊢
          have hl : xs[digN (f + 1) xs - 1]?.getD 0 ≠ 0 := by
            rcases hs with hs | hs
            · omega
            · rw [show digN (f + 1) xs + 1 - 1 = (digN (f + 1) xs - 1) + 1 by omega, List.getElem?_cons_succ] at hs
              exact hs
          have hp := valpos (f + 1) xs (fun z hz => hb z (by simp [hz])) (by omega) hl
          have hi := ih xs (fun z hz => hb z (by simp [hz])) (by omega) (.inr hl)
          rw [List.take_succ_cons, List.map_cons, valB]
          generalize hV : valB 128 ((xs.take (digN (f + 1) xs)).map (· % 128)) = V at hp hi
          rw [varB, if_pos (by omega), show (x % 128 + 128 * V) / 128 = V by omega, hi, show (x % 128 + 128 * V) % 128 + 128 = x by omega]

/-- What is told of bytes is told by just these. -/
theorem gv_one (bs : List Int) (hb : ∀ z ∈ bs, 0 ≤ z ∧ z ≤ 255) (hk : (gv bs).2.2 = true) :
    0 ≤ (gv bs).1 ∧ (gv bs).1 < 18446744073709551616 ∧ 1 ≤ (gv bs).2.1 ∧ (gv bs).2.1 ≤ bs.length ∧ varB 9 (gv bs).1 = bs.take (gv bs).2.1 := by
  have ho : okV bs = true := by
    cases h : okV bs with
    | true => rfl
    | false => simp [gv, h] at hk
  have hr := gv_range bs hb ho
  have hd := digN_le 10 bs
  have hk2 := ho
  simp only [okV, Bool.and_eq_true] at hk2
  have hs1 := hk2.1
  unfold shortB at hs1
  rw [take_dig] at hs1
  have hs := of_decide_eq_true hs1
  have hd1 : 1 ≤ digN 10 bs := by
    rcases hs with hs | ⟨hs1, hs2⟩
    · omega
    · omega
  unfold gv
  rw [if_pos ho]
  refine ⟨hr.1, hr.2, hd1, hd.1, varB_dig 9 bs hb hd1 ?_⟩
  rcases hs with hs | ⟨hs1, hs2⟩
  · exact .inl hs
  · refine .inr ?_
    rw [List.getElem?_take_of_lt (by omega)] at hs2
    exact hs2

theorem gv_none (bs : List Int) (hk : (gv bs).2.2 = false) : gv bs = (0, 0, false) := by
  unfold gv at hk ⊢
  cases h : okV bs with
  | true => simp [h] at hk
  | false => rfl

end Go.Proofs.Ytoneaaafdgllbaa
