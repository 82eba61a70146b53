/-
  The sum over bytes with the four bytes of their sum behind them. A lemma file: no statement of the seat is proved here.
-/
import Derived.Test.YtoneaaafdgllbaaNil
namespace Go.Proofs.Ytoneaaafdgllbaa
open Go.RowKit

theorem crcBit_xor (b y : Nat) : crcBit (b ^^^ 2 * y) = crcBit b ^^^ y := by
  unfold crcBit
  have h1 : (b ^^^ 2 * y) / 2 = b / 2 ^^^ y := by
    have := Nat.shiftRight_xor_distrib (a := b) (b := 2 * y) (i := 1)
    simp only [Nat.shiftRight_succ, Nat.shiftRight_zero] at this
    rw [this]
    congr 1
    omega
  have h2 : (b ^^^ 2 * y) % 2 = b % 2 := by
    have : (b ^^^ 2 * y) % 2 ^ 1 = (b % 2 ^ 1) ^^^ (2 * y % 2 ^ 1) := Nat.xor_mod_two_pow
    simp at this
    rw [this]
  rw [h1, h2]
  split
  · rw [Nat.xor_assoc, Nat.xor_comm y, ← Nat.xor_assoc]
  · simp

theorem crcBits_xor (k b y : Nat) : crcBits k (b ^^^ 2 ^ k * y) = crcBits k b ^^^ y := by
  induction k generalizing b with
  | zero => simp [crcBits]
  | succ k ih =>
    rw [crcBits, crcBits, show 2 ^ (k + 1) * y = 2 * (2 ^ k * y) by rw [Nat.pow_succ, Nat.mul_comm (2 ^ k) 2, Nat.mul_assoc], crcBit_xor, ih]

theorem crcBits_add (a b c : Nat) : crcBits (a + b) c = crcBits b (crcBits a c) := by
  induction a generalizing c with
  | zero => rw [Nat.zero_add]; rfl
  | succ a ih => rw [show a + 1 + b = (a + b) + 1 by omega, crcBits, crcBits, ih]

/-- One byte of a number. -/
theorem crcByte_low (c m : Nat) : crcByte c ((m : Int) % 256) ^^^ (m / 256) = crcBits 8 (c ^^^ m) := by
  have e : m = (m % 256) ^^^ (2 ^ 8 * (m / 256)) := by
    have h := Nat.two_pow_add_eq_or_of_lt (i := 8) (b := m % 256) (by omega) (m / 256)
    have h2 : 2 ^ 8 * (m / 256) + m % 256 = m := by omega
    have h3 : (m % 256) ^^^ (2 ^ 8 * (m / 256)) = 2 ^ 8 * (m / 256) ||| m % 256 := by
      apply Nat.eq_of_testBit_eq
      intro j
      rw [Nat.testBit_xor, Nat.testBit_or, Nat.testBit_two_pow_mul]
      by_cases hj : 8 ≤ j
      · have : (m % 256).testBit j = false := Nat.testBit_lt_two_pow (Nat.lt_of_lt_of_le (Nat.mod_lt _ (by omega)) (Nat.pow_le_pow_right (n := 2) (by omega) hj))
        simp [hj, this]
      · simp [hj]
    rw [h3, ← h, h2]
  have e2 : c ^^^ m = (c ^^^ m % 256) ^^^ (2 ^ 8 * (m / 256)) := by rw [Nat.xor_assoc, ← e]
  rw [e2, crcBits_xor]
  unfold crcByte
  rw [show ((m : Int) % 256).toNat = m % 256 by omega]

theorem crcRow_put (k c m : Nat) (h : m < 256 ^ k) : (putB k (m : Int)).foldl crcByte c = crcBits (8 * k) (c ^^^ m) := by
  induction k generalizing c m with
  | zero =>
    have : m = 0 := by simpa using h
    subst this
    simp [putB, crcBits]
  | succ k ih =>
    have hm : m / 256 < 256 ^ k := by rw [Nat.pow_succ] at h; omega
    rw [putB, List.foldl_cons, show ((m : Int) / 256) = ((m / 256 : Nat) : Int) by omega, ih _ _ hm, crcByte_low, show 8 * (k + 1) = 8 + 8 * k by omega, crcBits_add]

theorem crcRow_lt (bs : List Int) (hb : ∀ z ∈ bs, 0 ≤ z ∧ z ≤ 255) : crcRow bs < 4294967296 := by
  have h1 : ∀ (bs : List Int) (c : Nat), c < 4294967296 → (∀ z ∈ bs, 0 ≤ z ∧ z ≤ 255) → bs.foldl crcByte c < 4294967296 := by
    intro bs
    induction bs with
    | nil => intro c hc _; exact hc
    | cons x bs ih => intro c hc h; exact ih _ (crcByte_lt c x hc (h x (by simp))) (fun z hz => h z (by simp [hz]))
  exact h1 bs _ (by omega) hb

/-- The sum with its four bytes behind is one and the same. -/
theorem crc_run (bs : List Int) (hb : ∀ z ∈ bs, 0 ≤ z ∧ z ≤ 255) : crcSum (bs ++ putB 4 (crcSum bs : Nat)) = 558161692 := by
  have h1 := crcSum_lt bs hb
  unfold crcSum crcRow
  rw [List.foldl_append]
  show 4294967295 ^^^ (putB 4 ((crcSum bs : Nat) : Int)).foldl crcByte (crcRow bs) = 558161692
  rw [crcRow_put 4 _ _ (by omega)]
  have e : crcRow bs ^^^ crcSum bs = 4294967295 := by
    unfold crcSum
    rw [Nat.xor_comm 4294967295, ← Nat.xor_assoc, Nat.xor_self, Nat.zero_xor]
  rw [e]
  decide +kernel

/-- The number of the bytes of a number. -/
theorem valB_putB (k : Nat) (n : Int) : valB 256 (putB k n) = n % 256 ^ k := by
  induction k generalizing n with
  | zero => simp [putB, valB]
  | succ k ih =>
    rw [putB, valB, ih, Int.pow_succ, Int.mul_comm (256 ^ k) 256]
    have h : (0 : Int) < 256 ^ k := Int.pow_pos (by omega)
    generalize (256 : Int) ^ k = M at h
    have e1 := Int.emod_add_mul_ediv (n / 256) M
    have e2 := Int.emod_add_mul_ediv n 256
    have h1 := Int.emod_nonneg (n / 256) (by omega : M ≠ 0)
    have h2 := Int.emod_lt_of_pos (n / 256) h
    have e3 : n = (n % 256 + 256 * (n / 256 % M)) + 256 * M * (n / 256 / M) := by
      rw [Int.mul_assoc]
      generalize M * (n / 256 / M) = X at e1 ⊢
      omega
    have e4 : (n % 256 + 256 * (n / 256 % M)) % (256 * M) = n % 256 + 256 * (n / 256 % M) := Int.emod_eq_of_lt (by omega) (by
      have : 256 * (n / 256 % M + 1) ≤ 256 * M := Int.mul_le_mul_of_nonneg_left (by omega) (by omega)
      omega)
    conv => rhs; rw [e3, Int.add_mul_emod_self_left, e4]

/-- The lowest bytes of a number, by a mask. -/
theorem mask_u64 (r : Nat) (n : Int) (hr : r < 7) (h0 : 0 ≤ n) (h1 : n < 18446744073709551616) :
    bits .and .u64 n (IntKind.u64.wrap (IntKind.u64.wrap (2 ^ (8 * (1 + r))) - 1)) = n % 256 ^ (r + 1) := by
  obtain ⟨k, rfl⟩ := Int.eq_ofNat_of_zero_le h0
  have hp : 2 ^ (8 * (1 + r)) ≤ 2 ^ 56 := Nat.pow_le_pow_right (by omega) (by omega)
  have hp1 : 1 ≤ 2 ^ (8 * (1 + r)) := Nat.pow_pos (by omega)
  have e0 : (2 : Int) ^ (8 * (1 + r)) = ((2 ^ (8 * (1 + r)) : Nat) : Int) := by rw [Int.natCast_pow]; rfl
  have e1 : IntKind.u64.wrap (IntKind.u64.wrap (2 ^ (8 * (1 + r))) - 1) = ((2 ^ (8 * (1 + r)) - 1 : Nat) : Int) := by
    rw [e0, IntKind.wrap_u64, IntKind.wrap_u64]
    omega
  rw [e1, u64_and_nat _ _ (by omega) (by omega), Nat.and_two_pow_sub_one_eq_mod]
  have e2 : (256 : Int) ^ (r + 1) = ((2 ^ (8 * (1 + r)) : Nat) : Int) := by
    rw [Nat.pow_mul, Nat.add_comm 1 r, Int.natCast_pow]
    rfl
  rw [e2, Int.natCast_emod]

theorem i64_small (x : Int) (h0 : -9223372036854775808 ≤ x) (h1 : x ≤ 9223372036854775807) : IntKind.i64.wrap x = x := by
  rw [IntKind.wrap_i64]
  omega

end Go.Proofs.Ytoneaaafdgllbaa
