/-
  What octets' Crc and the document's Crc do: the CRC-32 of bytes. A lemma file: no statement of the seat is proved here.
-/
import Derived.Test.YtjnmggbkclnbkaaBase
namespace Go.Proofs.Ytjnmggbkclnbkaa
open Go.RowKit

/-- One bit of the sum. -/
def crcBit (c : Nat) : Nat := (c / 2) ^^^ (if c % 2 = 1 then 3988292384 else 0)
def crcBits : Nat → Nat → Nat
  | 0, c => c
  | k + 1, c => crcBits k (crcBit c)
def crcByte (c : Nat) (x : Int) : Nat := crcBits 8 (c ^^^ x.toNat)
def crcRow (bs : List Int) : Nat := bs.foldl crcByte 4294967295

theorem crcBit_lt (c : Nat) (h : c < 4294967296) : crcBit c < 4294967296 := by
  unfold crcBit
  have : (c / 2) ^^^ (if c % 2 = 1 then 3988292384 else 0) < 2 ^ 32 := Nat.xor_lt_two_pow (by omega) (by split <;> omega)
  omega
theorem crcBits_lt (k c : Nat) (h : c < 4294967296) : crcBits k c < 4294967296 := by
  induction k generalizing c with
  | zero => exact h
  | succ k ih => exact ih _ (crcBit_lt c h)
theorem crcByte_lt (c : Nat) (x : Int) (h : c < 4294967296) (hx : 0 ≤ x ∧ x ≤ 255) : crcByte c x < 4294967296 := by
  unfold crcByte
  apply crcBits_lt
  have : c ^^^ x.toNat < 2 ^ 32 := Nat.xor_lt_two_pow (by omega) (by omega)
  omega
theorem crcRow_snoc (bs : List Int) (x : Int) : crcRow (bs ++ [x]) = crcByte (crcRow bs) x := by simp [crcRow]

def crcSum (bs : List Int) : Nat := 4294967295 ^^^ crcRow bs

theorem and_one (d : Nat) (hd : d < 4294967296) : bits .and .u32 (d : Int) 1 = ((d % 2 : Nat) : Int) := by
  rw [show (1 : Int) = ((1 : Nat) : Int) from rfl, u32_and_nat d 1 hd (by omega), Nat.and_one_is_mod]

/-- One bit, as octets' Crc reckons it. -/
theorem crcBit_go (d : Nat) (hd : d < 4294967296) : bits .xor .u32 ((d : Int) / 2) (bits .and .u32 3988292384 (-bits .and .u32 (d : Int) 1 % 4294967296)) = ((crcBit d : Nat) : Int) := by
  rw [and_one d hd, show ((d : Int) / 2) = ((d / 2 : Nat) : Int) by omega]
  unfold crcBit
  by_cases h : d % 2 = 1
  · rw [h, if_pos rfl, show (-((1 : Nat) : Int) % 4294967296) = ((4294967295 : Nat) : Int) by decide, show (3988292384 : Int) = ((3988292384 : Nat) : Int) from rfl, u32_and_nat _ _ (by omega) (by omega),
      show 3988292384 &&& 4294967295 = 3988292384 by decide +kernel, u32_xor_nat _ _ (by omega) (by omega)]
  · rw [show d % 2 = 0 by omega, if_neg (by omega), show (-((0 : Nat) : Int) % 4294967296) = ((0 : Nat) : Int) by decide, show (3988292384 : Int) = ((3988292384 : Nat) : Int) from rfl, u32_and_nat _ _ (by omega) (by omega), Nat.and_zero,
      u32_xor_nat _ _ (by omega) (by omega)]

theorem crc_first (c : Nat) (x : Int) (hc : c < 4294967296) (hx : 0 ≤ x) (hx2 : x ≤ 255) : bits .xor .u32 (c : Int) x = ((c ^^^ x.toNat : Nat) : Int) := by
  obtain ⟨n, rfl⟩ := Int.eq_ofNat_of_zero_le hx
  rw [u32_xor_nat _ _ (by omega) (by omega), Int.toNat_natCast]

theorem crc_first_lt (c : Nat) (x : Int) (hc : c < 4294967296) (hx : 0 ≤ x) (hx2 : x ≤ 255) : c ^^^ x.toNat < 4294967296 := by
  have : c ^^^ x.toNat < 2 ^ 32 := Nat.xor_lt_two_pow (by omega) (by omega)
  omega

theorem crc_last (c : Nat) (hc : c < 4294967296) : bits .xor .u32 IntKind.u32.max (c : Int) = ((4294967295 ^^^ c : Nat) : Int) := by
  rw [show IntKind.u32.max = ((4294967295 : Nat) : Int) by decide, u32_xor_nat _ _ (by omega) (by omega)]

theorem crc_last' (c : Nat) (hc : c < 4294967296) : bits .xor .u32 (c : Int) 4294967295 = ((4294967295 ^^^ c : Nat) : Int) := by
  rw [show (4294967295 : Int) = ((4294967295 : Nat) : Int) from rfl, u32_xor_nat _ _ (by omega) (by omega), Nat.xor_comm]

theorem crcBit_odd (d : Nat) (hd : d < 4294967296) (h : d % 2 = 1) : bits .xor .u32 ((d : Int) / 2) 3988292384 = ((crcBit d : Nat) : Int) := by
  rw [show ((d : Int) / 2) = ((d / 2 : Nat) : Int) by omega, show (3988292384 : Int) = ((3988292384 : Nat) : Int) from rfl, u32_xor_nat _ _ (by omega) (by omega)]
  unfold crcBit
  rw [if_pos h]

theorem crcBit_even (d : Nat) (h : ¬ d % 2 = 1) : ((d : Int) / 2) = ((crcBit d : Nat) : Int) := by
  unfold crcBit
  rw [if_neg h, Nat.xor_zero]
  omega

theorem crcSum_lt (bs : List Int) (hb : ∀ z ∈ bs, 0 ≤ z ∧ z ≤ 255) : crcSum bs < 4294967296 := by
  have h1 : ∀ (bs : List Int) (c : Nat), c < 4294967296 → (∀ z ∈ bs, 0 ≤ z ∧ z ≤ 255) → bs.foldl crcByte c < 4294967296 := by
    intro bs
    induction bs with
    | nil => intro c hc _; exact hc
    | cons x bs ih => intro c hc h; exact ih _ (crcByte_lt c x hc (h x (by simp))) (fun z hz => h z (by simp [hz]))
  have h2 : crcRow bs < 4294967296 := h1 bs _ (by omega) hb
  have : 4294967295 ^^^ crcRow bs < 2 ^ 32 := Nat.xor_lt_two_pow (by omega) (by omega)
  unfold crcSum
  omega

theorem take_snoc (bs : List Int) (k : Nat) (h : k < bs.length) : bs.take (k + 1) = bs.take k ++ [bs[k]?.getD 0] := by
  rw [List.take_succ_eq_append_getElem h]
  simp [h]

set_option maxHeartbeats 1000000 in
theorem crc_any (v : Value) (bs : List Int) (w : World) (hb : IsB w v bs) (hl : bs.length ≤ 140737488355328) :
    Calls Try.prog 22 #[v] w fun e w' => e = .returned (.int .u32 (crcSum bs : Nat)) ∧ w' = w := by
  have hbb := hb.bytes
  have hop := hb.opened
  obtain ⟨a, cap, rfl, hlc⟩ := hb.form
  clear hb
  go_enter Try.func22, Try.ntmps22
  go_wp2
  go_loop [3, 5, 8] (fun c _ i => ∃ k c' : Nat, k ≤ bs.length ∧ i = .int .i64 k ∧ c = .int .u32 c' ∧ c' < 4294967296 ∧ Hid (c' = crcRow (bs.take k))) (fun _ _ i => bs.length - (intOf i).toNat)
  case atStart => exact ⟨0, 4294967295, Nat.zero_le _, rfl, rfl, by omega, rfl⟩
  case round =>
    obtain ⟨k, c', hk, rfl, rfl, hc', HC⟩ := hrel
    by_cases hlt : k < bs.length
    · obtain ⟨b, off, cap', he, _, hc⟩ := hop (by omega)
      simp only [Value.slice.injEq, true_and] at he
      obtain ⟨rfl, rfl⟩ := he
      obtain ⟨x, hx⟩ : ∃ x, x = bs[k]?.getD 0 := ⟨_, rfl⟩
      have hc0 := hc k hlt
      rw [← hx] at hc0
      have hb0 := hbb x (by rw [hx]; simp [hlt])
      obtain ⟨hb1, hb2⟩ := hb0
      have HX : Hid (x = bs[k]?.getD 0) := hx
      clear hx hc hop hbb
      go_wp2
      go_loop [3, 16] (fun c j => ∃ m d : Nat, m ≤ 8 ∧ j = .int .i64 m ∧ c = .int .u32 d ∧ d < 4294967296 ∧ Hid (crcBits (8 - m) d = crcByte c' x)) (fun _ j => 8 - (intOf j).toNat)
      case atStart => exact ⟨0, c' ^^^ x.toNat, by omega, rfl, by rw [crc_first c' x hc' hb1 hb2], crc_first_lt c' x hc' hb1 hb2, rfl⟩
      case round =>
        obtain ⟨m, d, hm, rfl, rfl, hd, HD⟩ := hrel
        by_cases hm8 : m < 8
        · go_wp2
          go_round
          case rel => exact ⟨m + 1, crcBit d, by omega, by go_num, by rw [crcBit_go d hd], crcBit_lt d hd, (by have := HD.out; rw [show 8 - m = (8 - (m + 1)) + 1 by omega, crcBits] at this; exact this)⟩
          case measure => simp [intOf]; omega
        · go_wp2
          go_round
          case rel => exact ⟨k + 1, d, by omega, by go_num, rfl, hd, (by have := HD.out; rw [show 8 - m = 0 by omega, crcBits] at this; show _ = _; rw [take_snoc bs k hlt, crcRow_snoc, ← HC.out, ← HX.out]; exact this)⟩
          case measure => simp [intOf]; omega
    · go_wp2
      go_ret
      refine ⟨?_, rfl⟩
      have e : c' = crcRow bs := by have := HC.out; rw [List.take_of_length_le (by omega)] at this; exact this
      subst e
      show Ending.returned (.int .u32 (bits .xor .u32 IntKind.u32.max _)) = _
      rw [crc_last _ hc']
      rfl

set_option maxHeartbeats 1000000 in
theorem refCrc_any (v : Value) (bs : List Int) (w : World) (hb : IsB w v bs) (hl : bs.length ≤ 140737488355328) :
    Calls Try.prog 24 #[v] w fun e w' => e = .returned (.int .u32 (crcSum bs : Nat)) ∧ w' = w := by
  have hbb := hb.bytes
  have hop := hb.opened
  obtain ⟨a, cap, rfl, hlc⟩ := hb.form
  clear hb
  go_enter Try.func24, Try.ntmps24
  go_wp2
  go_loop [3, 4, 5, 6] (fun c i _ _ => ∃ k c' : Nat, k ≤ bs.length ∧ i = .int .i64 k ∧ c = .int .u32 c' ∧ c' < 4294967296 ∧ Hid (c' = crcRow (bs.take k))) (fun _ i _ _ => bs.length - (intOf i).toNat)
  case atStart => exact ⟨0, 4294967295, Nat.zero_le _, rfl, rfl, by omega, rfl⟩
  case round =>
    obtain ⟨k, c', hk, rfl, rfl, hc', HC⟩ := hrel
    by_cases hlt : k < bs.length
    · obtain ⟨b, off, cap', he, _, hc⟩ := hop (by omega)
      simp only [Value.slice.injEq, true_and] at he
      obtain ⟨rfl, rfl⟩ := he
      obtain ⟨x, hx⟩ : ∃ x, x = bs[k]?.getD 0 := ⟨_, rfl⟩
      have hc0 := hc k hlt
      rw [← hx] at hc0
      have hb0 := hbb x (by rw [hx]; simp [hlt])
      obtain ⟨hb1, hb2⟩ := hb0
      have HX : Hid (x = bs[k]?.getD 0) := hx
      clear hx hc hop hbb
      go_wp2
      go_loop [3, 5, 6] (fun c j _ => ∃ m d : Nat, m ≤ 8 ∧ j = .int .i64 m ∧ c = .int .u32 d ∧ d < 4294967296 ∧ Hid (crcBits (8 - m) d = crcByte c' x)) (fun _ j _ => 8 - (intOf j).toNat)
      case atStart => exact ⟨0, c' ^^^ x.toNat, by omega, rfl, by rw [crc_first c' x hc' hb1 hb2], crc_first_lt c' x hc' hb1 hb2, rfl⟩
      case round =>
        obtain ⟨m, d, hm, rfl, rfl, hd, HD⟩ := hrel
        by_cases hm8 : m < 8
        · have hd2 : Hid (crcBits (8 - (m + 1)) (crcBit d) = crcByte c' x) := by have := HD.out; rw [show 8 - m = (8 - (m + 1)) + 1 by omega, crcBits] at this; exact this
          by_cases hodd : d % 2 = 1
          · have ht : (bits .and .u32 (d : Int) 1 == 1) = true := by rw [and_one d hd, hodd]; rfl
            have HO : Hid (d % 2 = 1) := hodd
            clear hodd
            go_wp2
            go_round
            case rel => exact ⟨m + 1, crcBit d, by omega, by go_num, by rw [crcBit_odd d hd HO.out], crcBit_lt d hd, hd2⟩
            case measure => simp [intOf]; omega
          · have ht : (bits .and .u32 (d : Int) 1 == 1) = false := by rw [and_one d hd, show d % 2 = 0 by omega]; rfl
            have HO : Hid (¬ d % 2 = 1) := hodd
            clear hodd
            go_wp2
            go_round
            case rel => exact ⟨m + 1, crcBit d, by omega, by go_num, by rw [crcBit_even d HO.out], crcBit_lt d hd, hd2⟩
            case measure => simp [intOf]; omega
        · go_wp2
          go_round
          case rel => exact ⟨k + 1, d, by omega, by go_num, rfl, hd, (by have := HD.out; rw [show 8 - m = 0 by omega, crcBits] at this; show _ = _; rw [take_snoc bs k hlt, crcRow_snoc, ← HC.out, ← HX.out]; exact this)⟩
          case measure => simp [intOf]; omega
    · go_wp2
      go_ret
      refine ⟨?_, rfl⟩
      have e : c' = crcRow bs := by have := HC.out; rw [List.take_of_length_le (by omega)] at this; exact this
      subst e
      show Ending.returned (.int .u32 (bits .xor .u32 _ 4294967295)) = _
      rw [crc_last' _ hc']
      rfl
end Go.Proofs.Ytjnmggbkclnbkaa
