/-
  What the document's Put and Get (the reference) do. A lemma file: no statement of the seat is proved here.
-/
import Derived.Test.YtjnmggbkclnbkaaGet
import Derived.Test.YtjnmggbkclnbkaaPut
import Derived.Test.YtjnmggbkclnbkaaKept
namespace Go.Proofs.Ytjnmggbkclnbkaa
open Go.RowKit

theorem valB_append (m : Int) (xs : List Int) (t : Int) : valB m (xs ++ [t]) = valB m xs + m ^ xs.length * t := by
  induction xs with
  | nil => simp [valB]
  | cons x xs ih =>
    rw [List.cons_append, valB, ih, valB, List.length_cons, Int.mul_add, Int.pow_succ, ← Int.mul_assoc, Int.mul_comm m (m ^ xs.length)]
    omega

theorem putB_snoc (k : Nat) (n : Int) : putB (k + 1) n = putB k n ++ [n / 2 ^ (8 * k) % 256] := by
  induction k generalizing n with
  | zero => simp [putB]
  | succ k ih =>
    rw [putB, ih, putB, List.cons_append, show (n / 256) / 2 ^ (8 * k) = n / 2 ^ (8 * (k + 1)) by
      rw [Int.ediv_ediv_of_nonneg (by omega), show (256 : Int) * 2 ^ (8 * k) = 2 ^ (8 * (k + 1)) by rw [show 8 * (k + 1) = 8 * k + 8 by omega, Int.pow_add, Int.mul_comm]; rfl]]

set_option maxHeartbeats 1000000 in
theorem refPut_core (v : Value) (bs : List Int) (size n : Int) (ys : List Int) (hy : Hid (ys = bs ++ putB (min size 8).toNat n)) (w : World) (hb : IsB w v bs) (hl : bs.length ≤ 70368744177664) (_hn0 : 0 ≤ n) (_hn1 : n < 18446744073709551616) :
    Calls Try.prog 23 #[v, .int .i64 size, .int .u64 n] w fun e w' => ∃ g cap, e = .returned (.slice (some ⟨g, 0, none⟩) ys.length cap) ∧ OwnB w.heap.size w' g cap ys ∧ Below w.heap.size w w' := by
  have hvb := hb.below ((Below.refl _ w).alloc (Nat.le_refl _) (.cells #[] 5))
  obtain ⟨a, cap0, rfl, _⟩ := hb.form
  go_enter Try.func23, Try.ntmps23
  go_wp2_with (at_builtin; refine wp_appendB _ rfl (.tmp 9) (.tmp 10) rfl w.heap.size w.heap.size 0 [] bs _ rfl (OwnB.empty w _ (Nat.le_refl _)) rfl hvb (by simp; omega) (by simp) ?_; intro g1 cap1 w1 o1 b1; simp only [List.nil_append] at o1; have B1 := ((Below.refl w.heap.size w).alloc (Nat.le_refl _) (.cells #[] 5)).trans b1)
  go_loopw [7, 8] (fun row i wr => ∃ (k : Nat) (acc : List Int) (g cap : Nat), (k = 0 ∨ (k : Int) ≤ size) ∧ k ≤ 8 ∧ i = .int .i64 k ∧ Hid (acc = bs ++ putB k n) ∧ acc.length ≤ bs.length + k ∧ row = .slice (some ⟨g, 0, none⟩) acc.length cap ∧ OwnB w.heap.size wr g cap acc ∧ Below w.heap.size w wr) (fun _ i _ => 8 - (intOf i).toNat)
  case atStart => exact ⟨0, bs, g1, cap1, .inl rfl, by omega, rfl, by simp [putB, Hid], by omega, by simp, o1, B1⟩
  case round =>
    obtain ⟨k, acc, g', cap', hks, hk8, rfl, HA, hal, rfl, hown', hbel'⟩ := hrel
    have hsz := hbel'.size
    by_cases h1 : (k : Int) < size
    · by_cases h2 : k < 8
      · go_wp2_with (at_builtin; refine wp_push wr rfl _ _ rfl w.heap.size g' cap' acc (n / 2 ^ (8 * k) % 256) rfl hown' rfl (by omega) (by omega) hsz ?_; intro g2 cap2 w2 hown2 hbel2)
        go_roundw
        case rel => exact ⟨k + 1, acc ++ [n / 2 ^ (8 * k) % 256], g2, cap2, .inr (by omega), by omega, by go_num, (by show _ = _; rw [putB_snoc, HA.out, List.append_assoc]), by simp; omega, by simp, hown2, hbel'.trans hbel2⟩
        case measure => simp [intOf]; omega
      · have e : (min size 8).toNat = k := by omega
        have HE : Hid (ys = acc) := by show _ = _; rw [hy.out, e, HA.out]
        clear e
        go_wp2
        go_ret
        obtain rfl := HE.out
        exact ⟨_, _, rfl, hown', hbel'⟩
    · have e : (min size 8).toNat = k := by omega
      have HE : Hid (ys = acc) := by show _ = _; rw [hy.out, e, HA.out]
      clear e
      go_wp2
      go_ret
      obtain rfl := HE.out
      exact ⟨_, _, rfl, hown', hbel'⟩

theorem refPut_any (v : Value) (bs : List Int) (size n : Int) (w : World) (hb : IsB w v bs) (hl : bs.length ≤ 70368744177664) (hn0 : 0 ≤ n) (hn1 : n < 18446744073709551616) :
    Calls Try.prog 23 #[v, .int .i64 size, .int .u64 n] w fun e w' => ∃ g cap, e = .returned (.slice (some ⟨g, 0, none⟩) (bs ++ putB (min size 8).toNat n).length cap) ∧ OwnB w.heap.size w' g cap (bs ++ putB (min size 8).toNat n) ∧ Below w.heap.size w w' :=
  refPut_core v bs size n _ rfl w hb hl hn0 hn1

set_option maxHeartbeats 400000 in
theorem refGet_no (v : Value) (bs : List Int) (at_ size : Int) (w : World) (hb : IsB w v bs) (hl : bs.length ≤ 140737488355328)
    (h : at_ < 0 ∨ size < 1 ∨ 8 < size ∨ (bs.length : Int) - size < at_) :
    Calls Try.prog 27 #[v, .int .i64 at_, .int .i64 size] w fun e w' => e = .returned (.tuple #[.int .u64 0, .bool false]) ∧ w' = w := by
  obtain ⟨a, cap, rfl, hlc⟩ := hb.form
  clear hb
  by_cases h1 : size < 1
  · go_enter Try.func27, Try.ntmps27
    go_wp2
    go_ret2
    exact ⟨rfl, rfl⟩
  · by_cases h2 : 8 < size
    · go_enter Try.func27, Try.ntmps27
      go_wp2
      go_ret2
      exact ⟨rfl, rfl⟩
    · by_cases h3 : at_ < 0
      · go_enter Try.func27, Try.ntmps27
        go_wp2
        go_ret2
        exact ⟨rfl, rfl⟩
      · have h4 : (bs.length : Int) - size < at_ := by omega
        go_enter Try.func27, Try.ntmps27
        go_wp2
        go_ret2
        exact ⟨rfl, rfl⟩

/-- One byte more, as the document's Get reckons it. -/
theorem refGet_step (xs : List Int) (x : Int) (hx : ∀ z ∈ xs, 0 ≤ z ∧ z ≤ 255) (hk : xs.length < 8) (h0 : 0 ≤ x) (h1 : x ≤ 255) :
    IntKind.u64.wrap (valB 256 xs + IntKind.u64.wrap (x * 2 ^ (8 * xs.length))) = valB 256 (xs ++ [x]) := by
  have hn := valB_nonneg 256 (by omega) (xs ++ [x]) (fun z hz => by
    rcases List.mem_append.1 hz with hz | hz
    · exact (hx z hz).1
    · simp at hz
      omega)
  have hl := valB_lt 256 (by omega) (xs ++ [x]) (fun z hz => by
    rcases List.mem_append.1 hz with hz | hz
    · have := hx z hz
      omega
    · simp at hz
      omega)
  have hv := valB_nonneg 256 (by omega) xs (fun z hz => (hx z hz).1)
  have hp : (256 : Int) ^ (xs ++ [x]).length ≤ 18446744073709551616 := by
    have e1 : ((256 : Int)) ^ (xs ++ [x]).length = ((256 ^ (xs ++ [x]).length : Nat) : Int) := by rw [Int.natCast_pow]; rfl
    have := Nat.pow_le_pow_right (show 0 < 256 by omega) (show (xs ++ [x]).length ≤ 8 by simp; omega)
    rw [e1]
    omega
  have e2 : (2 : Int) ^ (8 * xs.length) = 256 ^ xs.length := by rw [Int.pow_mul]; rfl
  rw [valB_append] at hn hl ⊢
  rw [e2, Int.mul_comm x]
  have hm : 0 ≤ 256 ^ xs.length * x := Int.mul_nonneg (Int.le_of_lt (Int.pow_pos (by omega))) h0
  generalize (256 : Int) ^ xs.length * x = M at *
  rw [IntKind.wrap_u64, IntKind.wrap_u64]
  omega

set_option maxHeartbeats 1000000 in
theorem refGet_yes (v : Value) (bs : List Int) (p s : Nat) (w : World) (hb : IsB w v bs) (hl : bs.length ≤ 140737488355328) (h1 : 1 ≤ s) (h2 : s ≤ 8) (h3 : p + s ≤ bs.length) :
    Calls Try.prog 27 #[v, .int .i64 p, .int .i64 s] w fun e w' => e = .returned (.tuple #[.int .u64 (valB 256 ((bs.drop p).take s)), .bool true]) ∧ w' = w := by
  have hbb := hb.bytes
  obtain ⟨b, off, cap, rfl, hlc, hc⟩ := hb.opened (by omega)
  clear hb
  go_enter Try.func27, Try.ntmps27
  go_wp2
  go_loop [8, 9] (fun m i => ∃ (k : Nat) (m' : Int), k ≤ s ∧ i = .int .i64 k ∧ m = .int .u64 m' ∧ Hid (m' = valB 256 ((bs.drop p).take k))) (fun _ i => s - (intOf i).toNat)
  case atStart => exact ⟨0, 0, by omega, rfl, rfl, by simp [Hid, valB]⟩
  case round =>
    obtain ⟨k, m', hk, rfl, rfl, HM⟩ := hrel
    by_cases hlt : k < s
    · obtain ⟨x, hx⟩ : ∃ x, x = bs[p + k]?.getD 0 := ⟨_, rfl⟩
      have hc0 := hc (p + k) (by omega)
      rw [← hx] at hc0
      have hb0 := hbb x (by rw [hx]; simp [show p + k < bs.length by omega])
      obtain ⟨hb1, hb2⟩ := hb0
      have HX := hide hx
      have HBB := hide hbb
      clear hx hc hbb
      have HR : Hid (IntKind.u64.wrap (m' + IntKind.u64.wrap (x * 2 ^ (8 * k))) = valB 256 ((bs.drop p).take (k + 1))) := by
        have hkl : ((bs.drop p).take k).length = k := by simp; omega
        have e : (bs.drop p).take (k + 1) = (bs.drop p).take k ++ [x] := by
          have h0 : k < (bs.drop p).length := by simp; omega
          rw [List.take_succ_eq_append_getElem h0, HX.out]
          simp [show p + k < bs.length by omega]
        have := refGet_step ((bs.drop p).take k) x (fun z hz => HBB.out z (List.mem_of_mem_drop (List.mem_of_mem_take hz))) (by omega) hb1 hb2
        rw [hkl] at this
        show _ = _
        rw [e, HM.out]
        exact this
      go_wp2
      go_round
      case rel => exact ⟨k + 1, _, by omega, by go_num, rfl, HR⟩
      case measure => simp [intOf]; omega
    · go_wp2
      go_ret2
      refine ⟨?_, rfl⟩
      have e : k = s := by omega
      subst e
      rw [← HM.out]
      rfl

end Go.Proofs.Ytjnmggbkclnbkaa
