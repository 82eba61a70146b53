/-
  What octets' copyOf and Put do. A lemma file: no statement of the seat is proved here.
-/
import Derived.Test.YtjnmggbkclnbkaaBase
namespace Go.Proofs.Ytjnmggbkclnbkaa
open Go.RowKit

/-- The lowest k bytes of n, the lowest first. -/
def putB : Nat → Int → List Int
  | 0, _ => []
  | k + 1, n => n % 256 :: putB k (n / 256)

theorem putB_length (k : Nat) (n : Int) : (putB k n).length = k := by
  induction k generalizing n with
  | zero => rfl
  | succ k ih => simp [putB, ih]

theorem putB_bytes (k : Nat) (n : Int) : ∀ z ∈ putB k n, 0 ≤ z ∧ z ≤ 255 := by
  induction k generalizing n with
  | zero => simp [putB]
  | succ k ih =>
    intro z hz
    simp only [putB, List.mem_cons] at hz
    rcases hz with rfl | hz
    · omega
    · exact ih _ z hz

set_option maxHeartbeats 400000 in
theorem copyOf_any (v : Value) (bs : List Int) (room : Int) (w : World) (hb : IsB w v bs) (hl : bs.length ≤ 70368744177664) (h0 : 0 ≤ room) (h1 : room ≤ 10) :
    Calls Try.prog 28 #[v, .int .i64 room] w fun e w' => ∃ g cap, e = .returned (.slice (some ⟨g, 0, none⟩) bs.length cap) ∧ OwnB w.heap.size w' g cap bs ∧ Below w.heap.size w w' := by
  have hbb := hb.bytes
  obtain ⟨a, cap, rfl, hlc, hnone, hc, hz⟩ := hb
  obtain ⟨r, rfl⟩ := Int.eq_ofNat_of_zero_le h0
  obtain ⟨i0, hi, hz0, hz1, hz2⟩ := info_parts Try.infoU8
  go_enter Try.func28, Try.ntmps28
  go_wp2_with (first
    | (at_make; refine wpList_make_own _ rfl _ _ 25 rfl w.heap.size 5 i0 (.int .u8 0) 1 Try.underlying25 hi hz0 hz1 _ _ _ (bs.length + r) rfl rfl (by omega) (by rw [hz2]; omega) (by unfold maxLen; omega) (Nat.le_refl _) ?_; intro w1 hown1 hgrow1)
    | (at_builtin; refine wpList_append_fits_any _ rfl _ _ 25 rfl w.heap.size 5 i0 1 Try.underlying25 hi hz1 w.heap.size 0 (bs.length + r) [] rfl hown1 a bs.length cap (bs.map (Value.int .u8)) rfl (by simp) (fun h => ⟨by simp [(hnone h).1], (hnone h).2⟩) (fun x hx => cells_news (cells_kept (fun k hk => hgrow1.block k hk (by simp)) (hc x hx))) (ints_oneCell _ _) (by omega) ?_; intro w2 hown2 hgrow2; simp only [Nat.zero_add, List.nil_append] at hown2))
  go_ret
  refine ⟨_, _, rfl, ⟨hown2, hbb⟩, ?_⟩
  exact ((Below.refl _ _).grown hgrow1 (Nat.le_refl _) (by simp)).grown hgrow2 hgrow1.size (by intro k hk; simp at hk; omega)

set_option maxHeartbeats 400000 in
theorem put_mid (v : Value) (bs : List Int) (s : Nat) (n : Int) (w : World) (hb : IsB w v bs) (hl : bs.length ≤ 70368744177664) (hn0 : 0 ≤ n) (hn1 : n < 18446744073709551616) (hs : s ≤ 8) :
    Calls Try.prog 21 #[v, .int .i64 s, .int .u64 n] w fun e w' => ∃ g cap, e = .returned (.slice (some ⟨g, 0, none⟩) (bs ++ putB s n).length cap) ∧ OwnB w.heap.size w' g cap (bs ++ putB s n) ∧ Below w.heap.size w w' := by
  have hs0 : ¬ (s : Int) < 0 := by omega
  have hs8 : (s : Int) ≤ 8 := by omega
  go_enter Try.func21, Try.ntmps21
  go_wp2_with (go_at_call 28; refine (copyOf_any v bs _ w hb hl (by omega) (by omega)).mono ?_; rintro e w1 ⟨g, cap, rfl, hown, hbel⟩)
  go_loopw [2, 7, 15] (fun m row i wr => ∃ (k : Nat) (m' : Int) (acc : List Int) (g cap : Nat), k ≤ s ∧ i = .int .i64 k ∧ m = .int .u64 m' ∧ 0 ≤ m' ∧ m' < 18446744073709551616 ∧ Hid (acc ++ putB (s - k) m' = bs ++ putB s n) ∧ acc.length ≤ bs.length + k ∧ row = .slice (some ⟨g, 0, none⟩) acc.length cap ∧ OwnB w.heap.size wr g cap acc ∧ Below w.heap.size w wr) (fun _ _ i _ => s - (intOf i).toNat)
  case atStart => exact ⟨0, n, bs, g, cap, Nat.zero_le _, rfl, rfl, hn0, hn1, rfl, Nat.le_refl _, rfl, hown, hbel⟩
  case round =>
    obtain ⟨k, m', acc, g', cap', hk, rfl, rfl, hm0, hm1, HP, hal, rfl, hown', hbel'⟩ := hrel
    by_cases hlt : k < s
    · have hsz := hbel'.size
      go_wp2_with (at_builtin; refine wp_push wr rfl _ _ rfl w.heap.size g' cap' acc (m' % 256) rfl hown' rfl (by omega) (by omega) hsz ?_; intro g2 cap2 w2 hown2 hbel2)
      go_roundw
      case rel => exact ⟨k + 1, m' / 256, acc ++ [m' % 256], g2, cap2, by omega, by go_num, rfl, by omega, by omega, (by have := HP.out; rw [show s - k = (s - (k + 1)) + 1 by omega, putB] at this; show _ = _; simpa using this), by simp; omega, by simp, hown2, hbel'.trans hbel2⟩
      case measure => simp [intOf]; omega
    · go_wp2
      go_ret
      have e := HP.out
      rw [show s - k = 0 by omega, putB, List.append_nil] at e
      subst e
      exact ⟨_, _, rfl, hown', hbel'⟩
set_option maxHeartbeats 400000 in
theorem put_lo (v : Value) (bs : List Int) (size : Int) (n : Int) (w : World) (hb : IsB w v bs) (hl : bs.length ≤ 70368744177664) (hn0 : 0 ≤ n) (hn1 : n < 18446744073709551616) (hs : size < 0) :
    Calls Try.prog 21 #[v, .int .i64 size, .int .u64 n] w fun e w' => ∃ g cap, e = .returned (.slice (some ⟨g, 0, none⟩) (bs ++ putB 0 n).length cap) ∧ OwnB w.heap.size w' g cap (bs ++ putB 0 n) ∧ Below w.heap.size w w' := by
  go_enter Try.func21, Try.ntmps21
  go_wp2_with (go_at_call 28; refine (copyOf_any v bs _ w hb hl (by omega) (by omega)).mono ?_; rintro e w1 ⟨g, cap, rfl, hown, hbel⟩)
  go_loopw [2, 7, 15] (fun m row i wr => ∃ (k : Nat) (m' : Int) (acc : List Int) (g cap : Nat), k ≤ 0 ∧ i = .int .i64 k ∧ m = .int .u64 m' ∧ 0 ≤ m' ∧ m' < 18446744073709551616 ∧ Hid (acc ++ putB (0 - k) m' = bs ++ putB 0 n) ∧ acc.length ≤ bs.length + k ∧ row = .slice (some ⟨g, 0, none⟩) acc.length cap ∧ OwnB w.heap.size wr g cap acc ∧ Below w.heap.size w wr) (fun _ _ i _ => 0 - (intOf i).toNat)
  case atStart => exact ⟨0, n, bs, g, cap, Nat.zero_le _, rfl, rfl, hn0, hn1, rfl, Nat.le_refl _, rfl, hown, hbel⟩
  case round =>
    obtain ⟨k, m', acc, g', cap', hk, rfl, rfl, hm0, hm1, HP, hal, rfl, hown', hbel'⟩ := hrel
    have hlt : ¬ k < 0 := by omega
    go_wp2
    go_ret
    have e := HP.out
    rw [show 0 - k = 0 by omega, putB, List.append_nil] at e
    subst e
    exact ⟨_, _, rfl, hown', hbel'⟩
set_option maxHeartbeats 400000 in
theorem put_hi (v : Value) (bs : List Int) (size : Int) (n : Int) (w : World) (hb : IsB w v bs) (hl : bs.length ≤ 70368744177664) (hn0 : 0 ≤ n) (hn1 : n < 18446744073709551616) (hs : 8 < size) :
    Calls Try.prog 21 #[v, .int .i64 size, .int .u64 n] w fun e w' => ∃ g cap, e = .returned (.slice (some ⟨g, 0, none⟩) (bs ++ putB 8 n).length cap) ∧ OwnB w.heap.size w' g cap (bs ++ putB 8 n) ∧ Below w.heap.size w w' := by
  have hs0 : ¬ size < 0 := by omega
  have hs8 : ¬ size ≤ 8 := by omega
  go_enter Try.func21, Try.ntmps21
  go_wp2_with (go_at_call 28; refine (copyOf_any v bs _ w hb hl (by omega) (by omega)).mono ?_; rintro e w1 ⟨g, cap, rfl, hown, hbel⟩)
  go_loopw [2, 7, 15] (fun m row i wr => ∃ (k : Nat) (m' : Int) (acc : List Int) (g cap : Nat), k ≤ 8 ∧ i = .int .i64 k ∧ m = .int .u64 m' ∧ 0 ≤ m' ∧ m' < 18446744073709551616 ∧ Hid (acc ++ putB (8 - k) m' = bs ++ putB 8 n) ∧ acc.length ≤ bs.length + k ∧ row = .slice (some ⟨g, 0, none⟩) acc.length cap ∧ OwnB w.heap.size wr g cap acc ∧ Below w.heap.size w wr) (fun _ _ i _ => 8 - (intOf i).toNat)
  case atStart => exact ⟨0, n, bs, g, cap, Nat.zero_le _, rfl, rfl, hn0, hn1, rfl, Nat.le_refl _, rfl, hown, hbel⟩
  case round =>
    obtain ⟨k, m', acc, g', cap', hk, rfl, rfl, hm0, hm1, HP, hal, rfl, hown', hbel'⟩ := hrel
    by_cases hlt : k < 8
    · have hsz := hbel'.size
      go_wp2_with (at_builtin; refine wp_push wr rfl _ _ rfl w.heap.size g' cap' acc (m' % 256) rfl hown' rfl (by omega) (by omega) hsz ?_; intro g2 cap2 w2 hown2 hbel2)
      go_roundw
      case rel => exact ⟨k + 1, m' / 256, acc ++ [m' % 256], g2, cap2, by omega, by go_num, rfl, by omega, by omega, (by have := HP.out; rw [show 8 - k = (8 - (k + 1)) + 1 by omega, putB] at this; show _ = _; simpa using this), by simp; omega, by simp, hown2, hbel'.trans hbel2⟩
      case measure => simp [intOf]; omega
    · go_wp2
      go_ret
      have e := HP.out
      rw [show 8 - k = 0 by omega, putB, List.append_nil] at e
      subst e
      exact ⟨_, _, rfl, hown', hbel'⟩
/-- Put, at whatever size. -/
theorem put_any (v : Value) (bs : List Int) (size n : Int) (w : World) (hb : IsB w v bs) (hl : bs.length ≤ 70368744177664) (hn0 : 0 ≤ n) (hn1 : n < 18446744073709551616) :
    Calls Try.prog 21 #[v, .int .i64 size, .int .u64 n] w fun e w' => ∃ g cap, e = .returned (.slice (some ⟨g, 0, none⟩) (bs ++ putB (min size 8).toNat n).length cap) ∧ OwnB w.heap.size w' g cap (bs ++ putB (min size 8).toNat n) ∧ Below w.heap.size w w' := by
  by_cases h1 : size < 0
  · rw [show (min size 8).toNat = 0 by omega]
    exact put_lo v bs size n w hb hl hn0 hn1 h1
  · by_cases h2 : 8 < size
    · rw [show (min size 8).toNat = 8 by omega]
      exact put_hi v bs size n w hb hl hn0 hn1 h2
    · obtain ⟨s, rfl⟩ := Int.eq_ofNat_of_zero_le (show 0 ≤ size by omega)
      rw [show (min (s : Int) 8).toNat = s by omega]
      exact put_mid v bs s n w hb hl hn0 hn1 (by omega)

end Go.Proofs.Ytjnmggbkclnbkaa
