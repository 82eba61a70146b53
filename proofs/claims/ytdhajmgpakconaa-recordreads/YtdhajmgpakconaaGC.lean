/-
  Lemma texts, one behind the other: RefPG, BRef, BRef2. No statement of the seat is proved here.
-/
import Derived.Test.YtdhajmgpakconaaGA
import Derived.Deep.RegionHeld
import Derived.Test.YtdhajmgpakconaaGB
namespace Go.Proofs.Ytdhajmgpakconaa
open Go.RowKit

theorem valB_append (m : Int) (xs : List Int) (t : Int) : valB m (xs ++ [t]) = valB m xs + m ^ xs.length * t := by
  induction xs with
  | nil => simp [valB]
  | cons x xs ih =>
    rw [List.cons_append, valB, ih, valB, List.length_cons, Int.mul_add, Int.pow_succ, ← Int.mul_assoc, Int.mul_comm m (m ^ xs.length)]
    omega

theorem putB_snoc (k : Nat) (n : Int) : putB (k + 1) n = putB k n ++ [n / 2 ^ (8 * k) % 256] := by
  induction k generalizing n with
  | zero => simp [putB]
  | succ k ih =>
    rw [putB, ih, putB, List.cons_append, show (n / 256) / 2 ^ (8 * k) = n / 2 ^ (8 * (k + 1)) by
      rw [Int.ediv_ediv_of_nonneg (by omega), show (256 : Int) * 2 ^ (8 * k) = 2 ^ (8 * (k + 1)) by rw [show 8 * (k + 1) = 8 * k + 8 by omega, Int.pow_add, Int.mul_comm]; rfl]]

set_option maxHeartbeats 1000000 in
theorem refPut_core (v : Value) (bs : List Int) (size n : Int) (ys : List Int) (hy : Hid (ys = bs ++ putB (min size 8).toNat n)) (w : World) (hb : IsB w v bs) (hl : bs.length ≤ 70368744177664) (_hn0 : 0 ≤ n) (_hn1 : n < 18446744073709551616) :
    Calls Try.prog 35 #[v, .int .i64 size, .int .u64 n] w fun e w' => ∃ g cap, e = .returned (.slice (some ⟨g, 0, none⟩) ys.length cap) ∧ OwnB w.heap.size w' g cap ys ∧ Below w.heap.size w w' := by
  have hvb := hb.below ((Below.refl _ w).alloc (Nat.le_refl _) (.cells #[] 5))
  obtain ⟨a, cap0, rfl, _⟩ := hb.form
  go_enter Try.func35, Try.ntmps35
  go_wp2_with (at_builtin; refine wp_appendB _ rfl (.tmp 9) (.tmp 10) rfl w.heap.size w.heap.size 0 [] bs _ rfl (OwnB.empty w _ (Nat.le_refl _)) rfl hvb (by simp; omega) (by simp) ?_; intro g1 cap1 w1 o1 b1; simp only [List.nil_append] at o1; have B1 := ((Below.refl w.heap.size w).alloc (Nat.le_refl _) (.cells #[] 5)).trans b1)
  go_loopw [7, 8] (fun row i wr => ∃ (k : Nat) (acc : List Int) (g cap : Nat), (k = 0 ∨ (k : Int) ≤ size) ∧ k ≤ 8 ∧ i = .int .i64 k ∧ Hid (acc = bs ++ putB k n) ∧ acc.length ≤ bs.length + k ∧ row = .slice (some ⟨g, 0, none⟩) acc.length cap ∧ OwnB w.heap.size wr g cap acc ∧ Below w.heap.size w wr) (fun _ i _ => 8 - (intOf i).toNat)
  case atStart => exact ⟨0, bs, g1, cap1, .inl rfl, by omega, rfl, by simp [putB, Hid], by omega, by simp, o1, B1⟩
  case round =>
    obtain ⟨k, acc, g', cap', hks, hk8, rfl, HA, hal, rfl, hown', hbel'⟩ := hrel
    have hsz := hbel'.size
    by_cases h1 : (k : Int) < size
    · by_cases h2 : k < 8
      · go_wp2_with (at_builtin; refine wp_push wr rfl _ _ rfl w.heap.size g' cap' acc (n / 2 ^ (8 * k) % 256) rfl hown' rfl (by omega) (by omega) hsz ?_; intro g2 cap2 w2 hown2 hbel2)
        go_roundw
        case rel => exact ⟨k + 1, acc ++ [n / 2 ^ (8 * k) % 256], g2, cap2, .inr (by omega), by omega, by go_num, (by show _ = _; rw [putB_snoc, HA.out, List.append_assoc]), by simp; omega, by simp, hown2, hbel'.trans hbel2⟩
        case measure => simp [intOf]; omega
      · have e : (min size 8).toNat = k := by omega
        have HE : Hid (ys = acc) := by show _ = _; rw [hy.out, e, HA.out]
        clear e
        go_wp2
        go_ret
        obtain rfl := HE.out
        exact ⟨_, _, rfl, hown', hbel'⟩
    · have e : (min size 8).toNat = k := by omega
      have HE : Hid (ys = acc) := by show _ = _; rw [hy.out, e, HA.out]
      clear e
      go_wp2
      go_ret
      obtain rfl := HE.out
      exact ⟨_, _, rfl, hown', hbel'⟩

theorem refPut_any (v : Value) (bs : List Int) (size n : Int) (w : World) (hb : IsB w v bs) (hl : bs.length ≤ 70368744177664) (hn0 : 0 ≤ n) (hn1 : n < 18446744073709551616) :
    Calls Try.prog 35 #[v, .int .i64 size, .int .u64 n] w fun e w' => ∃ g cap, e = .returned (.slice (some ⟨g, 0, none⟩) (bs ++ putB (min size 8).toNat n).length cap) ∧ OwnB w.heap.size w' g cap (bs ++ putB (min size 8).toNat n) ∧ Below w.heap.size w w' :=
  refPut_core v bs size n _ rfl w hb hl hn0 hn1

set_option maxHeartbeats 400000 in
theorem refGet_no (v : Value) (bs : List Int) (at_ size : Int) (w : World) (hb : IsB w v bs) (hl : bs.length ≤ 140737488355328)
    (h : at_ < 0 ∨ size < 1 ∨ 8 < size ∨ (bs.length : Int) - size < at_) :
    Calls Try.prog 42 #[v, .int .i64 at_, .int .i64 size] w fun e w' => e = .returned (.tuple #[.int .u64 0, .bool false]) ∧ w' = w := by
  obtain ⟨a, cap, rfl, hlc⟩ := hb.form
  clear hb
  by_cases h1 : size < 1
  · go_enter Try.func42, Try.ntmps42
    go_wp2
    go_ret2
    exact ⟨rfl, rfl⟩
  · by_cases h2 : 8 < size
    · go_enter Try.func42, Try.ntmps42
      go_wp2
      go_ret2
      exact ⟨rfl, rfl⟩
    · by_cases h3 : at_ < 0
      · go_enter Try.func42, Try.ntmps42
        go_wp2
        go_ret2
        exact ⟨rfl, rfl⟩
      · have h4 : (bs.length : Int) - size < at_ := by omega
        go_enter Try.func42, Try.ntmps42
        go_wp2
        go_ret2
        exact ⟨rfl, rfl⟩

/-- One byte more, as the document's Get reckons it. -/
theorem refGet_step (xs : List Int) (x : Int) (hx : ∀ z ∈ xs, 0 ≤ z ∧ z ≤ 255) (hk : xs.length < 8) (h0 : 0 ≤ x) (h1 : x ≤ 255) :
    IntKind.u64.wrap (valB 256 xs + IntKind.u64.wrap (x * 2 ^ (8 * xs.length))) = valB 256 (xs ++ [x]) := by
  have hn := valB_nonneg 256 (by omega) (xs ++ [x]) (fun z hz => by
    rcases List.mem_append.1 hz with hz | hz
    · exact (hx z hz).1
    · simp at hz
      omega)
  have hl := valB_lt 256 (by omega) (xs ++ [x]) (fun z hz => by
    rcases List.mem_append.1 hz with hz | hz
    · have := hx z hz
      omega
    · simp at hz
      omega)
  have hv := valB_nonneg 256 (by omega) xs (fun z hz => (hx z hz).1)
  have hp : (256 : Int) ^ (xs ++ [x]).length ≤ 18446744073709551616 := by
    have e1 : ((256 : Int)) ^ (xs ++ [x]).length = ((256 ^ (xs ++ [x]).length : Nat) : Int) := by rw [Int.natCast_pow]; rfl
    have := Nat.pow_le_pow_right (show 0 < 256 by omega) (show (xs ++ [x]).length ≤ 8 by simp; omega)
    rw [e1]
    omega
  have e2 : (2 : Int) ^ (8 * xs.length) = 256 ^ xs.length := by rw [Int.pow_mul]; rfl
  rw [valB_append] at hn hl ⊢
  rw [e2, Int.mul_comm x]
  have hm : 0 ≤ 256 ^ xs.length * x := Int.mul_nonneg (Int.le_of_lt (Int.pow_pos (by omega))) h0
  generalize (256 : Int) ^ xs.length * x = M at *
  rw [IntKind.wrap_u64, IntKind.wrap_u64]
  omega

set_option maxHeartbeats 1000000 in
theorem refGet_yes (v : Value) (bs : List Int) (p s : Nat) (w : World) (hb : IsB w v bs) (hl : bs.length ≤ 140737488355328) (h1 : 1 ≤ s) (h2 : s ≤ 8) (h3 : p + s ≤ bs.length) :
    Calls Try.prog 42 #[v, .int .i64 p, .int .i64 s] w fun e w' => e = .returned (.tuple #[.int .u64 (valB 256 ((bs.drop p).take s)), .bool true]) ∧ w' = w := by
  have hbb := hb.bytes
  obtain ⟨b, off, cap, rfl, hlc, hc⟩ := hb.opened (by omega)
  clear hb
  go_enter Try.func42, Try.ntmps42
  go_wp2
  go_loop [8, 9] (fun m i => ∃ (k : Nat) (m' : Int), k ≤ s ∧ i = .int .i64 k ∧ m = .int .u64 m' ∧ Hid (m' = valB 256 ((bs.drop p).take k))) (fun _ i => s - (intOf i).toNat)
  case atStart => exact ⟨0, 0, by omega, rfl, rfl, by simp [Hid, valB]⟩
  case round =>
    obtain ⟨k, m', hk, rfl, rfl, HM⟩ := hrel
    by_cases hlt : k < s
    · obtain ⟨x, hx⟩ : ∃ x, x = bs[p + k]?.getD 0 := ⟨_, rfl⟩
      have hc0 := hc (p + k) (by omega)
      rw [← hx] at hc0
      have hb0 := hbb x (by rw [hx]; simp [show p + k < bs.length by omega])
      obtain ⟨hb1, hb2⟩ := hb0
      have HX := hide hx
      have HBB := hide hbb
      clear hx hc hbb
      have HR : Hid (IntKind.u64.wrap (m' + IntKind.u64.wrap (x * 2 ^ (8 * k))) = valB 256 ((bs.drop p).take (k + 1))) := by
        have hkl : ((bs.drop p).take k).length = k := by simp; omega
        have e : (bs.drop p).take (k + 1) = (bs.drop p).take k ++ [x] := by
          have h0 : k < (bs.drop p).length := by simp; omega
          rw [List.take_succ_eq_append_getElem h0, HX.out]
          simp [show p + k < bs.length by omega]
        have := refGet_step ((bs.drop p).take k) x (fun z hz => HBB.out z (List.mem_of_mem_drop (List.mem_of_mem_take hz))) (by omega) hb1 hb2
        rw [hkl] at this
        show _ = _
        rw [e, HM.out]
        exact this
      go_wp2
      go_round
      case rel => exact ⟨k + 1, _, by omega, by go_num, rfl, HR⟩
      case measure => simp [intOf]; omega
    · go_wp2
      go_ret2
      refine ⟨?_, rfl⟩
      have e : k = s := by omega
      subst e
      rw [← HM.out]
      rfl

end Go.Proofs.Ytdhajmgpakconaa

namespace Go.Proofs.Ytdhajmgpakconaa
open Go.RowKit Go.Maps

set_option maxHeartbeats 1000000 in
theorem refEncode_go (v : Value) (bs xs : List Int) (w : World) (hb : IsB w v bs) (hl : bs.length ≤ 1000) (hx : Hid (xs = blkB bs)) :
    Calls Try.prog 36 #[v] w fun e w' => ∃ g cap, e = .returned (.slice (some ⟨g, 0, none⟩) xs.length cap) ∧ OwnB w.heap.size w' g cap xs ∧ Below w.heap.size w w' := by
  have P2 := fun w => refPut_any (.slice none 0 0) [] 2 bs.length w (IsB.nil w) (by simp) (by omega) (by omega)
  obtain ⟨ps, hps⟩ : ∃ ps, ps = [] ++ putB (min (2 : Int) 8).toNat bs.length := ⟨_, rfl⟩
  rw [← hps] at P2
  have hps2 : ps = putB 2 bs.length := by rw [hps]; rfl
  have hpl : ps.length = 2 := by rw [hps2, putB_length]
  obtain ⟨hs, hhs⟩ : ∃ hs, hs = headB bs := ⟨_, rfl⟩
  have hh2 : ps ++ bs = hs := by rw [hhs, hps2]; rfl
  have hhl : ps.length + bs.length = hs.length := by rw [← hh2, List.length_append]
  have hhl2 : hs.length ≤ 1002 := by omega
  have hhb : ∀ z ∈ hs, 0 ≤ z ∧ z ≤ 255 := by rw [hhs]; exact headB_bytes bs hb.bytes
  have hcl := crcSum_lt hs hhb
  have P4 := fun v w h => refPut_any v hs 4 (crcSum hs : Nat) w h (by omega) (by omega) (by omega)
  have hxe : hs ++ putB (min (4 : Int) 8).toNat (crcSum hs : Nat) = xs := by rw [hx.out, blkB, ← hhs]; rfl
  rw [hxe] at P4
  have HP2 := hide P2
  have HP4 := hide P4
  have HH := hide hh2
  have HHL := hide hhl
  have HI := hide hb
  obtain ⟨c, hc⟩ : ∃ c, c = crcSum hs := ⟨_, rfl⟩
  rw [← hc] at hcl HP4
  have HC := hide hc
  obtain ⟨a, cap, rfl, hlc⟩ := hb.form
  have hpb : ps.length ≤ 2 := by omega
  clear hpl hps hps2 hhs hh2 hhl hhb P2 P4 hxe hb hc hx
  go_enter Try.func36, Try.ntmps36
  go_wp2_with fail
  refine (HP2.out w).mono ?_
  rintro e w1 ⟨g1, cap1, rfl, o1, b1⟩
  have i1 := HI.out.below b1
  have hs1 := b1.size
  go_wp2_with (at_builtin; refine wp_appendB w1 rfl _ _ rfl w.heap.size g1 cap1 ps bs _ rfl o1 rfl i1 (by omega) hs1 ?_; intro g2 cap2 w2 o2 b2; rw [HH.out] at o2; rw [HHL.out])
  have B2 := b1.trans b2
  go_wp2_with fail
  refine (refCrc_any _ hs w2 o2.isB (by omega)).mono ?_
  rintro e w3 ⟨rfl, rfl⟩
  rw [← HC.out]
  go_wp2_with fail
  refine (HP4.out _ _ o2.isB).mono ?_
  rintro e w4 ⟨g4, cap4, rfl, o4, b4⟩
  go_wp2
  go_ret
  exact ⟨g4, cap4, rfl, o4.mono B2.size, below_then B2 b4⟩

end Go.Proofs.Ytdhajmgpakconaa

namespace Go.Proofs.Ytdhajmgpakconaa
open Go.RowKit Go.Maps

theorem refGet2 (v : Value) (bs : List Int) (w : World) (hb : IsB w v bs) (hl : bs.length ≤ 140737488355328) (h : ¬ bs.length < 2) :
    Calls Try.prog 42 #[v, .int .i64 0, .int .i64 2] w fun e w' => e = .returned (.tuple #[.int .u64 (sizeB bs : Nat), .bool true]) ∧ w' = w := by
  have := refGet_yes v bs 0 2 w hb hl (by omega) (by omega) (by omega)
  rw [List.drop_zero, sizeB_eq bs hb.bytes] at this
  exact this

/-- Strings that are not the same, in the walk's own form. -/
theorem str_ne {a b : ByteArray} (h : ¬ a = b) : (a.toList == b.toList) = false := by
  rw [beq_eq_false_iff_ne]
  intro e
  rw [ByteArray.toList_eq, ByteArray.toList_eq] at e
  apply h
  cases a
  cases b
  simp at e
  rw [e]

/-- The sum is right just if the bytes are the block of their text. -/
theorem sum_iff (bs : List Int) (hb : ∀ z ∈ bs, 0 ≤ z ∧ z ≤ 255) (h1 : ¬ bs.length < 2) (h2 : ¬ 1000 < sizeB bs) (h3 : ¬ bs.length < sizeB bs + 6) :
    valB 256 ((bs.drop (sizeB bs + 2)).take 4) = (crcSum (bs.take (sizeB bs + 2)) : Nat) ↔ blkB ((bs.drop 2).take (sizeB bs)) = bs.take (sizeB bs + 6) := by
  have hd : decB bs = if valB 256 ((bs.drop (sizeB bs + 2)).take 4) ≠ (crcSum (bs.take (sizeB bs + 2)) : Nat) then ([], 0, 3) else ((bs.drop 2).take (sizeB bs), sizeB bs + 6, 0) := by
    rw [decB, if_neg h1, if_neg h2, if_neg h3]
  have hml : ((bs.drop 2).take (sizeB bs)).length = sizeB bs := by simp; omega
  constructor
  · intro h
    rw [if_neg (by omega)] at hd
    have := (decB_back bs hb (by rw [hd])).1
    rw [hd] at this
    exact this
  · intro h
    have hd2 := decB_blk ((bs.drop 2).take (sizeB bs)) (bs.drop (sizeB bs + 6)) (by omega) (fun z hz => hb z (List.mem_of_mem_drop (List.mem_of_mem_take hz)))
    rw [h, List.take_append_drop] at hd2
    rw [hd2] at hd
    by_cases hv : valB 256 ((bs.drop (sizeB bs + 2)).take 4) = (crcSum (bs.take (sizeB bs + 2)) : Nat)
    · exact hv
    · rw [if_pos hv] at hd
      simp at hd

set_option maxHeartbeats 1000000 in
theorem refDecode_form (v : Value) (bs : List Int) (w : World) (hb : IsB w v bs) (hl : bs.length ≤ 1099511627776) (h : bs.length < 2 ∨ 1000 < sizeB bs ∨ bs.length < sizeB bs + 6) : Calls Try.prog 41 #[v] w (DecP w ([], 0, 2)) := by
  by_cases h1 : bs.length < 2
  · have G := hide (refGet_no v bs 0 2 w hb (by omega) (by omega))
    obtain ⟨a, cap, rfl, hlc⟩ := hb.form
    clear hb
    go_enter Try.func41, Try.ntmps41
    go_wp2_with fail
    refine G.out.mono ?_
    rintro e w1 ⟨rfl, rfl⟩
    go_wp2
    go_ret3
    exact ⟨_, rfl, IsB.nil _, Below.refl _ _, by simp [Value.ownBlock]⟩
  · have G := hide (refGet2 v bs w hb (by omega) h1)
    have hlt := sizeB_lt bs hb.bytes
    generalize sizeB bs = n at G hlt h
    obtain ⟨a, cap, rfl, hlc⟩ := hb.form
    clear hb
    by_cases h2 : 1000 < n
    · go_enter Try.func41, Try.ntmps41
      go_wp2_with fail
      refine G.out.mono ?_
      rintro e w1 ⟨rfl, rfl⟩
      go_wp2
      go_ret3
      exact ⟨_, rfl, IsB.nil _, Below.refl _ _, by simp [Value.ownBlock]⟩
    · have h3 : bs.length < n + 6 := by omega
      have h3d : decide ((bs.length : Int) < (n : Int) + 6) = true := by simp; omega
      go_enter Try.func41, Try.ntmps41
      go_wp2_with fail
      refine G.out.mono ?_
      rintro e w1 ⟨rfl, rfl⟩
      go_wp2
      go_ret3
      exact ⟨_, rfl, IsB.nil _, Below.refl _ _, by simp [Value.ownBlock]⟩

set_option maxRecDepth 100000 in
set_option maxHeartbeats 1000000 in
theorem refDecode_in (v : Value) (bs : List Int) (w : World) (hb : IsB w v bs) (hl : bs.length ≤ 1099511627776) (h : ¬ bs.length < 2) (h2 : ¬ 1000 < sizeB bs) (h3 : ¬ bs.length < sizeB bs + 6) :
    Calls Try.prog 41 #[v] w (DecP w (if valB 256 ((bs.drop (sizeB bs + 2)).take 4) ≠ (crcSum (bs.take (sizeB bs + 2)) : Nat) then ([], 0, 3) else ((bs.drop 2).take (sizeB bs), sizeB bs + 6, 0))) := by
  have G := hide (refGet2 v bs w hb (by omega) h)
  have hiff := sum_iff bs hb.bytes h h2 h3
  have hlt := sizeB_lt bs hb.bytes
  obtain ⟨b, off, cap, rfl, hlc, _⟩ := hb.opened (by omega)
  have HI := hide hb
  have HF := hide fun w (hi : IsB w (.slice (some ⟨b, off, none⟩) bs.length cap) bs) => hi.take (sizeB bs + 6) (by omega)
  have HM := hide fun w (hi : IsB w (.slice (some ⟨b, off, none⟩) bs.length cap) bs) => hi.mid 2 (sizeB bs) (by omega)
  have hml : ((bs.drop 2).take (sizeB bs)).length = sizeB bs := by simp; omega
  have hbb := hb.bytes
  have htb : ∀ z ∈ (bs.drop 2).take (sizeB bs), 0 ≤ z ∧ z ≤ 255 := fun z hz => hbb z (List.mem_of_mem_drop (List.mem_of_mem_take hz))
  have hfb : ∀ z ∈ bs.take (sizeB bs + 6), 0 ≤ z ∧ z ≤ 255 := fun z hz => hbb z (List.mem_of_mem_take hz)
  obtain ⟨t, ht⟩ : ∃ t, t = (bs.drop 2).take (sizeB bs) := ⟨_, rfl⟩
  obtain ⟨xs, hxs⟩ : ∃ xs, xs = blkB t := ⟨_, rfl⟩
  have hxb : ∀ z ∈ xs, 0 ≤ z ∧ z ≤ 255 := by rw [hxs, ht]; exact blkB_bytes _ htb
  obtain ⟨fs, hfs⟩ : ∃ fs, fs = bs.take (sizeB bs + 6) := ⟨_, rfl⟩
  rw [← ht, ← hxs, ← hfs] at hiff
  rw [← ht] at HM hml ⊢
  rw [← hfs] at HF hfb
  have HX := hide hxs
  generalize sizeB bs = n at *
  by_cases hxf : xs = fs
  · rw [if_neg (by simpa using hiff.2 hxf)]
    obtain ⟨str, hstr⟩ : ∃ str, str = strOfNums xs := ⟨_, rfl⟩
    have HS1 := hide hstr
    have HS2 : Hid (str = strOfNums fs) := by show _ = _; rw [hstr, hxf]
    have hfl : fs.length = n + 6 := by rw [hfs, List.length_take]; omega
    subst hml
    have htl : t.length ≤ 1000 := by omega
    have hd3 : decide ((bs.length : Int) < (t.length : Int) + 6) = false := by simp; omega
    have htc : (t.length : Int) + 6 ≤ cap := by omega
    have hw1 : IntKind.i64.wrap (t.length : Int) = t.length := by rw [IntKind.wrap_i64]; omega
    have hw2 : IntKind.i64.wrap ((t.length : Int) + 6) = (t.length : Int) + 6 := by rw [IntKind.wrap_i64]; omega
    clear hb hiff hbb htb hfb hxb ht hxs hfs hstr hxf hfl
    go_enter Try.func41, Try.ntmps41
    go_wp2_with fail
    refine G.out.mono ?_
    rintro e w1 ⟨rfl, rfl⟩
    have E1 := hide (OwnB.empty w1 w1.heap.size (Nat.le_refl _))
    have I1 : Hid (IsB (w1.alloc (.cells #[] 5)) (.slice (some ⟨b, off + 2, none⟩) (2 + t.length - 2) (cap - 2)) t) := by show IsB _ _ _; rw [Nat.add_sub_cancel_left]; exact (HM.out _ HI.out).below ((Below.refl _ w1).alloc (Nat.le_refl _) (.cells #[] 5))
    go_wp2_with (at_builtin; refine wp_appendB _ rfl _ _ rfl w1.heap.size w1.heap.size 0 [] t (.slice (some ⟨b, off + 2, none⟩) (2 + t.length - 2) (cap - 2)) rfl E1.out rfl I1.out (by simp; omega) (by simp) ?_; intro g2 cap2 w2 o2 b2; rw [List.nil_append] at o2; have B2 := hide (((Below.refl _ w1).alloc (Nat.le_refl _) _).trans b2); clear b2)
    have PX := hide fun w h => refEncode_go (.slice (some ⟨g2, 0, none⟩) t.length cap2) t xs w h htl HX
    have J2 := hide (HF.out _ (HI.out.below B2.out.drew))
    have O2 := hide o2
    have y2 := conv_isB J2.out
    rw [← HS2.out] at y2
    clear o2 E1 I1
    go_wp2
    go_region_held (fun w' => (convert 30 9 (.slice (some ⟨b, off, none⟩) (t.length + 6) cap)).run Try.prog w' = .ok (.string str) w') (first | assumption) (first | (go_at_call 36; refine (PX.out w2.drew O2.out.isB).mono ?_; rintro e w3 ⟨g3, cap3, rfl, o3, b3⟩; have b3' := undrew_below b3; have B3 := hide (below_then B2.out b3'); have O3 := hide (O2.out.below b3'); have z3 := conv_isB o3.isB; have y3 := conv_isB (HF.out _ (HI.out.below B3.out)); rw [← HS1.out] at z3; rw [← HS2.out] at y3; clear o3 b3 b3'))
    all_goals
      go_wp2
      go_ret3
      exact ⟨_, by simp, O3.out.isB, B3.out, fun x hx => by simp [Value.ownBlock] at hx; have := O2.out.base; omega⟩
  · rw [if_pos (fun h => hxf (hiff.1 h))]
    obtain ⟨sx, hsx⟩ : ∃ sx, sx = strOfNums xs := ⟨_, rfl⟩
    obtain ⟨sf, hsf⟩ : ∃ sf, sf = strOfNums fs := ⟨_, rfl⟩
    have hst : (sx.toList == sf.toList) = false := str_ne fun e => hxf (strOfNums_inj hxb hfb (by rw [← hsx, ← hsf]; exact e))
    have HS1 := hide hsx
    have HS2 := hide hsf
    subst hml
    have htl : t.length ≤ 1000 := by omega
    have hd3 : decide ((bs.length : Int) < (t.length : Int) + 6) = false := by simp; omega
    have htc : (t.length : Int) + 6 ≤ cap := by omega
    have hw1 : IntKind.i64.wrap (t.length : Int) = t.length := by rw [IntKind.wrap_i64]; omega
    have hw2 : IntKind.i64.wrap ((t.length : Int) + 6) = (t.length : Int) + 6 := by rw [IntKind.wrap_i64]; omega
    clear hb hiff hbb htb hfb hxb ht hxs hfs hsx hsf hxf
    go_enter Try.func41, Try.ntmps41
    go_wp2_with fail
    refine G.out.mono ?_
    rintro e w1 ⟨rfl, rfl⟩
    have E1 := hide (OwnB.empty w1 w1.heap.size (Nat.le_refl _))
    have I1 : Hid (IsB (w1.alloc (.cells #[] 5)) (.slice (some ⟨b, off + 2, none⟩) (2 + t.length - 2) (cap - 2)) t) := by show IsB _ _ _; rw [Nat.add_sub_cancel_left]; exact (HM.out _ HI.out).below ((Below.refl _ w1).alloc (Nat.le_refl _) (.cells #[] 5))
    go_wp2_with (at_builtin; refine wp_appendB _ rfl _ _ rfl w1.heap.size w1.heap.size 0 [] t (.slice (some ⟨b, off + 2, none⟩) (2 + t.length - 2) (cap - 2)) rfl E1.out rfl I1.out (by simp; omega) (by simp) ?_; intro g2 cap2 w2 o2 b2; rw [List.nil_append] at o2; have B2 := hide (((Below.refl _ w1).alloc (Nat.le_refl _) _).trans b2); clear b2)
    have PX := hide fun w h => refEncode_go (.slice (some ⟨g2, 0, none⟩) t.length cap2) t xs w h htl HX
    have J2 := hide (HF.out _ (HI.out.below B2.out.drew))
    have O2 := hide o2
    have y2 := conv_isB J2.out
    rw [← HS2.out] at y2
    clear o2 E1 I1
    go_wp2
    go_region_held (fun w' => (convert 30 9 (.slice (some ⟨b, off, none⟩) (t.length + 6) cap)).run Try.prog w' = .ok (.string sf) w') (first | assumption) (first | (go_at_call 36; refine (PX.out w2.drew O2.out.isB).mono ?_; rintro e w3 ⟨g3, cap3, rfl, o3, b3⟩; have b3' := undrew_below b3; have B3 := hide (below_then B2.out b3'); have z3 := conv_isB o3.isB; have y3 := conv_isB (HF.out _ (HI.out.below B3.out)); rw [← HS1.out] at z3; rw [← HS2.out] at y3; clear o3 b3 b3'))
    all_goals
      go_wp2
      go_ret3
      exact ⟨_, rfl, IsB.nil _, B3.out, by simp [Value.ownBlock]⟩

/-- Decode, of whatever bytes. -/
theorem refDecode_any (v : Value) (bs : List Int) (w : World) (hb : IsB w v bs) (hl : bs.length ≤ 1099511627776) : Calls Try.prog 41 #[v] w (DecP w (decB bs)) := by
  unfold decB
  by_cases h : bs.length < 2
  · rw [if_pos h]
    exact refDecode_form v bs w hb hl (.inl h)
  · rw [if_neg h]
    by_cases h2 : 1000 < sizeB bs
    · rw [if_pos h2]
      exact refDecode_form v bs w hb hl (.inr (.inl h2))
    · rw [if_neg h2]
      by_cases h3 : bs.length < sizeB bs + 6
      · rw [if_pos h3]
        exact refDecode_form v bs w hb hl (.inr (.inr h3))
      · rw [if_neg h3]
        exact refDecode_in v bs w hb hl h h2 h3

end Go.Proofs.Ytdhajmgpakconaa
