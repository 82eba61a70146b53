/-
  What the document's Put, PutVar, Get and GetVar (the reference) do. A lemma file: no statement of the seat is proved here.
-/
import Derived.Deep.RegionHeld
import Derived.Test.YtoneaaafdgllbaaRuns
namespace Go.Proofs.Ytoneaaafdgllbaa
open Go.RowKit

theorem putB_snoc (k : Nat) (n : Int) : putB (k + 1) n = putB k n ++ [n / 2 ^ (8 * k) % 256] := by
  induction k generalizing n with
  | zero => simp [putB]
  | succ k ih =>
    rw [putB, ih, putB, List.cons_append, show (n / 256) / 2 ^ (8 * k) = n / 2 ^ (8 * (k + 1)) by
      rw [Int.ediv_ediv_of_nonneg (by omega), show (256 : Int) * 2 ^ (8 * k) = 2 ^ (8 * (k + 1)) by rw [show 8 * (k + 1) = 8 * k + 8 by omega, Int.pow_add, Int.mul_comm]; rfl]]

set_option maxHeartbeats 1000000 in
theorem refPut_core (v : Value) (bs : List Int) (size n : Int) (ys : List Int) (hy : Hid (ys = bs ++ putB (min size 8).toNat n)) (w : World) (hb : IsB w v bs) (hl : bs.length ≤ 70368744177664) (_hn0 : 0 ≤ n) (_hn1 : n < 18446744073709551616) :
    Calls Try.prog 16 #[v, .int .i64 size, .int .u64 n] w fun e w' => ∃ g cap, e = .returned (.slice (some ⟨g, 0, none⟩) ys.length cap) ∧ OwnB w.heap.size w' g cap ys ∧ Below w.heap.size w w' := by
  have hvb := hb.below ((Below.refl _ w).alloc (Nat.le_refl _) (.cells #[] 5))
  obtain ⟨a, cap0, rfl, _⟩ := hb.form
  go_enter Try.func16, Try.ntmps16
  go_wp2_with (at_builtin; refine wp_appendB _ rfl (.tmp 9) (.tmp 10) rfl w.heap.size w.heap.size 0 [] bs _ rfl (OwnB.empty w _ (Nat.le_refl _)) rfl hvb (by simp; omega) (by simp) ?_; intro g1 cap1 w1 o1 b1; simp only [List.nil_append] at o1; have B1 := ((Below.refl w.heap.size w).alloc (Nat.le_refl _) (.cells #[] 5)).trans b1)
  go_loopw [7, 8] (fun row i wr => ∃ (k : Nat) (acc : List Int) (g cap : Nat), (k = 0 ∨ (k : Int) ≤ size) ∧ k ≤ 8 ∧ i = .int .i64 k ∧ Hid (acc = bs ++ putB k n) ∧ acc.length ≤ bs.length + k ∧ row = .slice (some ⟨g, 0, none⟩) acc.length cap ∧ OwnB w.heap.size wr g cap acc ∧ Below w.heap.size w wr) (fun _ i _ => 8 - (intOf i).toNat)
  case atStart => exact ⟨0, bs, g1, cap1, .inl rfl, by omega, rfl, by simp [putB, Hid], by omega, by simp, o1, B1⟩
  case round =>
    obtain ⟨k, acc, g', cap', hks, hk8, rfl, HA, hal, rfl, hown', hbel'⟩ := hrel
    have hsz := hbel'.size
    by_cases h1 : (k : Int) < size
    · by_cases h2 : k < 8
      · go_wp2_with (at_builtin; refine wp_push wr rfl _ _ rfl w.heap.size g' cap' acc (n / 2 ^ (8 * k) % 256) rfl hown' rfl (by omega) (by omega) hsz ?_; intro g2 cap2 w2 hown2 hbel2)
        go_roundw
        case rel => exact ⟨k + 1, acc ++ [n / 2 ^ (8 * k) % 256], g2, cap2, .inr (by omega), by omega, by go_num, (by show _ = _; rw [putB_snoc, HA.out, List.append_assoc]), by simp; omega, by simp, hown2, hbel'.trans hbel2⟩
        case measure => simp [intOf]; omega
      · have e : (min size 8).toNat = k := by omega
        have HE : Hid (ys = acc) := by show _ = _; rw [hy.out, e, HA.out]
        clear e
        go_wp2
        go_ret
        obtain rfl := HE.out
        exact ⟨_, _, rfl, hown', hbel'⟩
    · have e : (min size 8).toNat = k := by omega
      have HE : Hid (ys = acc) := by show _ = _; rw [hy.out, e, HA.out]
      clear e
      go_wp2
      go_ret
      obtain rfl := HE.out
      exact ⟨_, _, rfl, hown', hbel'⟩

theorem refPut_any (v : Value) (bs : List Int) (size n : Int) (w : World) (hb : IsB w v bs) (hl : bs.length ≤ 70368744177664) (hn0 : 0 ≤ n) (hn1 : n < 18446744073709551616) :
    Calls Try.prog 16 #[v, .int .i64 size, .int .u64 n] w fun e w' => ∃ g cap, e = .returned (.slice (some ⟨g, 0, none⟩) (bs ++ putB (min size 8).toNat n).length cap) ∧ OwnB w.heap.size w' g cap (bs ++ putB (min size 8).toNat n) ∧ Below w.heap.size w w' :=
  refPut_core v bs size n _ rfl w hb hl hn0 hn1

set_option maxHeartbeats 1000000 in
theorem refPutVar_any (v : Value) (bs : List Int) (n : Int) (w : World) (hb : IsB w v bs) (hl : bs.length ≤ 70368744177664) (hn0 : 0 ≤ n) (hn1 : n < 18446744073709551616) :
    Calls Try.prog 20 #[v, .int .u64 n] w fun e w' => ∃ g cap, e = .returned (.slice (some ⟨g, 0, none⟩) (bs ++ varB 9 n).length cap) ∧ OwnB w.heap.size w' g cap (bs ++ varB 9 n) ∧ Below w.heap.size w w' := by
  have hvb := hb.below ((Below.refl _ w).alloc (Nat.le_refl _) (.cells #[] 5))
  obtain ⟨a, cap0, rfl, _⟩ := hb.form
  go_enter Try.func20, Try.ntmps20
  go_wp2_with (at_builtin; refine wp_appendB _ rfl (.tmp 6) (.tmp 7) rfl w.heap.size w.heap.size 0 [] bs _ rfl (OwnB.empty w _ (Nat.le_refl _)) rfl hvb (by simp; omega) (by simp) ?_; intro g1 cap1 w1 o1 b1; simp only [List.nil_append] at o1; have B1 := ((Below.refl w.heap.size w).alloc (Nat.le_refl _) (.cells #[] 5)).trans b1)
  go_loopw [1, 5] (fun m row wr => ∃ (f : Nat) (m' : Int) (acc : List Int) (g cap : Nat), f ≤ 9 ∧ m = .int .u64 m' ∧ 0 ≤ m' ∧ m' < 2 * 128 ^ f ∧ m' < 18446744073709551616 ∧ Hid (acc ++ varB f m' = bs ++ varB 9 n) ∧ acc.length + f ≤ bs.length + 9 ∧ row = .slice (some ⟨g, 0, none⟩) acc.length cap ∧ OwnB w.heap.size wr g cap acc ∧ Below w.heap.size w wr) (fun m _ _ => (intOf m).toNat)
  case atStart => exact ⟨9, n, bs, g1, cap1, Nat.le_refl _, rfl, hn0, by omega, hn1, rfl, Nat.le_refl _, by simp, o1, B1⟩
  case round =>
    obtain ⟨f, m', acc, g', cap', hf, rfl, hm0, hm1, hm2, HP, hal, rfl, hown', hbel'⟩ := hrel
    have hsz := hbel'.size
    by_cases hlt : 128 ≤ m'
    · obtain ⟨f', rfl⟩ : ∃ f', f = f' + 1 := by
        cases f with
        | zero => simp at hm1; omega
        | succ f' => exact ⟨f', rfl⟩
      have hm1' : Hid (m' < 2 * 128 ^ (f' + 1)) := hm1
      clear hm1
      go_wp2_with (at_builtin; refine wp_push wr rfl _ _ rfl w.heap.size g' cap' acc (m' % 128 + 128) rfl hown' rfl (by omega) (by omega) hsz ?_; intro g2 cap2 w2 hown2 hbel2)
      go_roundw
      case rel =>
        refine ⟨f', m' / 128, acc ++ [m' % 128 + 128], g2, cap2, by omega, rfl, by omega, ?_, by omega, ?_, by simp; omega, by simp, hown2, hbel'.trans hbel2⟩
        · have := hm1'.out
          rw [Int.pow_succ] at this
          omega
        · have := HP.out
          rw [varB, if_pos hlt] at this
          show _ = _
          simpa using this
      case measure => simp [intOf]; omega
    · have hm1' : Hid (m' < 2 * 128 ^ f) := hm1
      clear hm1
      go_wp2_with (at_builtin; refine wp_push wr rfl _ _ rfl w.heap.size g' cap' acc m' rfl hown' rfl (by omega) (by omega) hsz ?_; intro g2 cap2 w2 hown2 hbel2)
      go_ret
      have e := HP.out
      have e2 : varB f m' = [m'] := by
        cases f with
        | zero => rw [varB, show m' % 256 = m' by omega]
        | succ f' => rw [varB, if_neg (by omega)]
      rw [e2] at e
      have e3 : (bs ++ varB 9 n).length = acc.length + 1 := by rw [← e]; simp
      rw [e] at hown2
      rw [List.length_append] at e3
      exact ⟨g2, cap2, by rw [e3]; rfl, hown2, hbel'.trans hbel2⟩

set_option maxHeartbeats 400000 in
theorem refGet_no (v : Value) (bs : List Int) (at_ size : Int) (w : World) (hb : IsB w v bs) (hl : bs.length ≤ 140737488355328)
    (h : at_ < 0 ∨ size < 1 ∨ 8 < size ∨ (bs.length : Int) - size < at_) :
    Calls Try.prog 15 #[v, .int .i64 at_, .int .i64 size] w fun e w' => e = .returned (.tuple #[.int .u64 0, .bool false]) ∧ w' = w := by
  obtain ⟨a, cap, rfl, hlc⟩ := hb.form
  clear hb
  by_cases h1 : size < 1
  · go_enter Try.func15, Try.ntmps15
    go_wp2
    go_ret2
    exact ⟨rfl, rfl⟩
  · by_cases h2 : 8 < size
    · go_enter Try.func15, Try.ntmps15
      go_wp2
      go_ret2
      exact ⟨rfl, rfl⟩
    · by_cases h3 : at_ < 0
      · go_enter Try.func15, Try.ntmps15
        go_wp2
        go_ret2
        exact ⟨rfl, rfl⟩
      · have h4 : (bs.length : Int) - size < at_ := by omega
        go_enter Try.func15, Try.ntmps15
        go_wp2
        go_ret2
        exact ⟨rfl, rfl⟩

/-- One byte more, as the document's Get reckons it. -/
theorem refGet_step (xs : List Int) (x : Int) (hx : ∀ z ∈ xs, 0 ≤ z ∧ z ≤ 255) (hk : xs.length < 8) (h0 : 0 ≤ x) (h1 : x ≤ 255) :
    IntKind.u64.wrap (valB 256 xs + IntKind.u64.wrap (x * 2 ^ (8 * xs.length))) = valB 256 (xs ++ [x]) := by
  have hn := valB_nonneg 256 (by omega) (xs ++ [x]) (fun z hz => by
    rcases List.mem_append.1 hz with hz | hz
    · exact (hx z hz).1
    · simp at hz
      omega)
  have hl := valB_lt 256 (by omega) (xs ++ [x]) (fun z hz => by
    rcases List.mem_append.1 hz with hz | hz
    · have := hx z hz
      omega
    · simp at hz
      omega)
  have hv := valB_nonneg 256 (by omega) xs (fun z hz => (hx z hz).1)
  have hp : (256 : Int) ^ (xs ++ [x]).length ≤ 18446744073709551616 := by
    have e1 : ((256 : Int)) ^ (xs ++ [x]).length = ((256 ^ (xs ++ [x]).length : Nat) : Int) := by rw [Int.natCast_pow]; rfl
    have := Nat.pow_le_pow_right (show 0 < 256 by omega) (show (xs ++ [x]).length ≤ 8 by simp; omega)
    rw [e1]
    omega
  have e2 : (2 : Int) ^ (8 * xs.length) = 256 ^ xs.length := by rw [Int.pow_mul]; rfl
  rw [valB_append] at hn hl ⊢
  rw [e2, Int.mul_comm x]
  have hm : 0 ≤ 256 ^ xs.length * x := Int.mul_nonneg (Int.le_of_lt (Int.pow_pos (by omega))) h0
  generalize (256 : Int) ^ xs.length * x = M at *
  rw [IntKind.wrap_u64, IntKind.wrap_u64]
  omega

set_option maxHeartbeats 1000000 in
theorem refGet_yes (v : Value) (bs : List Int) (p s : Nat) (w : World) (hb : IsB w v bs) (hl : bs.length ≤ 140737488355328) (h1 : 1 ≤ s) (h2 : s ≤ 8) (h3 : p + s ≤ bs.length) :
    Calls Try.prog 15 #[v, .int .i64 p, .int .i64 s] w fun e w' => e = .returned (.tuple #[.int .u64 (valB 256 ((bs.drop p).take s)), .bool true]) ∧ w' = w := by
  have hbb := hb.bytes
  obtain ⟨b, off, cap, rfl, hlc, hc⟩ := hb.opened (by omega)
  clear hb
  go_enter Try.func15, Try.ntmps15
  go_wp2
  go_loop [8, 9] (fun m i => ∃ (k : Nat) (m' : Int), k ≤ s ∧ i = .int .i64 k ∧ m = .int .u64 m' ∧ Hid (m' = valB 256 ((bs.drop p).take k))) (fun _ i => s - (intOf i).toNat)
  case atStart => exact ⟨0, 0, by omega, rfl, rfl, by simp [Hid, valB]⟩
  case round =>
    obtain ⟨k, m', hk, rfl, rfl, HM⟩ := hrel
    by_cases hlt : k < s
    · obtain ⟨x, hx⟩ : ∃ x, x = bs[p + k]?.getD 0 := ⟨_, rfl⟩
      have hc0 := hc (p + k) (by omega)
      rw [← hx] at hc0
      have hb0 := hbb x (by rw [hx]; simp [show p + k < bs.length by omega])
      obtain ⟨hb1, hb2⟩ := hb0
      have HX := hide hx
      have HBB := hide hbb
      clear hx hc hbb
      have HR : Hid (IntKind.u64.wrap (m' + IntKind.u64.wrap (x * 2 ^ (8 * k))) = valB 256 ((bs.drop p).take (k + 1))) := by
        have hkl : ((bs.drop p).take k).length = k := by simp; omega
        have e : (bs.drop p).take (k + 1) = (bs.drop p).take k ++ [x] := by
          have h0 : k < (bs.drop p).length := by simp; omega
          rw [List.take_succ_eq_append_getElem h0, HX.out]
          simp [show p + k < bs.length by omega]
        have := refGet_step ((bs.drop p).take k) x (fun z hz => HBB.out z (List.mem_of_mem_drop (List.mem_of_mem_take hz))) (by omega) hb1 hb2
        rw [hkl] at this
        show _ = _
        rw [e, HM.out]
        exact this
      go_wp2
      go_round
      case rel => exact ⟨k + 1, _, by omega, by go_num, rfl, HR⟩
      case measure => simp [intOf]; omega
    · go_wp2
      go_ret2
      refine ⟨?_, rfl⟩
      have e : k = s := by omega
      subst e
      rw [← HM.out]
      rfl
/-- What the document's GetVar tells, of a number's digits and their number. -/
theorem gv_ref_yes (bs : List Int) (n : Int) (h0 : 0 ≤ n) (h1 : n < 18446744073709551616) (d : Nat) (hd : d ≤ bs.length) (h : varB 9 n = bs.take d) : gv bs = (n, d, true) := by
  have := gv_varB n h0 h1 (bs.drop d)
  rw [h, List.take_append_drop, List.length_take, Nat.min_eq_left hd] at this
  exact this

theorem gv_ref_no (bs : List Int) (hb : ∀ z ∈ bs, 0 ≤ z ∧ z ≤ 255) (h : varB 9 (valB 128 ((bs.take (digN 10 bs)).map (· % 128)) % 18446744073709551616) ≠ bs.take (digN 10 bs)) : gv bs = (0, 0, false) := by
  apply gv_none
  cases hk : (gv bs).2.2 with
  | false => rfl
  | true =>
    exfalso
    have ho : okV bs = true := by
      cases h' : okV bs with
      | true => rfl
      | false => simp [gv, h'] at hk
    obtain ⟨a1, a2, a3, a4, a5⟩ := gv_one bs hb hk
    have e : gv bs = (valB 128 ((bs.take (digN 10 bs)).map (· % 128)), digN 10 bs, true) := by unfold gv; rw [if_pos ho]
    rw [e] at a1 a2 a5
    apply h
    rw [Int.emod_eq_of_lt a1 a2]
    exact a5

/-- Strings that are not the same, in the walk's own form. -/
theorem str_ne {a b : ByteArray} (h : ¬ a = b) : (a.toList == b.toList) = false := by
  rw [beq_eq_false_iff_ne]
  intro e
  rw [ByteArray.toList_eq, ByteArray.toList_eq] at e
  apply h
  cases a
  cases b
  simp at e
  rw [e]

theorem refVar_step (V y : Int) (k : Nat) : IntKind.u64.wrap (V % 18446744073709551616 + IntKind.u64.wrap (y * 2 ^ (7 * k))) = (V + 128 ^ k * y) % 18446744073709551616 := by
  have e2 : (2 : Int) ^ (7 * k) = 128 ^ k := by rw [Int.pow_mul]; rfl
  rw [e2, Int.mul_comm y]
  generalize (128 : Int) ^ k * y = M
  rw [IntKind.wrap_u64, IntKind.wrap_u64]
  omega

set_option maxHeartbeats 2000000 in
theorem refGetVar_any (v : Value) (bs : List Int) (w : World) (hb : IsB w v bs) (hl : bs.length ≤ 140737488355328) :
    Calls Try.prog 18 #[v] w fun e w' => e = .returned (.tuple #[.int .u64 (gv bs).1, .int .i64 (gv bs).2.1, .bool (gv bs).2.2]) ∧ Below w.heap.size w w' := by
  have hbb := hb.bytes
  have hop := hb.opened
  obtain ⟨a, cap, rfl, hlc⟩ := hb.form
  have HB0 := hide hb
  obtain ⟨G, hG⟩ : ∃ G, G = gv bs := ⟨_, rfl⟩
  rw [← hG]
  have HG := hide hG
  clear hb hG
  go_enter Try.func18, Try.ntmps18
  go_wp2
  go_loop [2, 3, 4, 5, 6] (fun _ _ _ n i => ∃ (k : Nat) (m : Int), k ≤ bs.length ∧ k ≤ 10 ∧ i = .int .i64 k ∧ n = .int .u64 m ∧ 0 ≤ m ∧ m < 18446744073709551616 ∧ Hid (m = valB 128 ((bs.take k).map (· % 128)) % 18446744073709551616) ∧ Hid (∀ j, j < k → 128 ≤ bs[j]?.getD 0)) (fun _ _ _ _ i => 10 - (intOf i).toNat)
  case atStart => exact ⟨0, 0, by omega, by omega, rfl, rfl, by omega, by omega, by simp [Hid, valB], fun j hj => by omega⟩
  case round =>
    obtain ⟨k, m, hk, hk10, rfl, rfl, hm0, hm1, HM, HA⟩ := hrel
    by_cases hlt : k < bs.length
    · by_cases hlt10 : k < 10
      · obtain ⟨b, off, cap', he, _, hc⟩ := hop (by omega)
        simp only [Value.slice.injEq, true_and] at he
        obtain ⟨rfl, rfl⟩ := he
        obtain ⟨x, hx⟩ : ∃ x, x = bs[k]?.getD 0 := ⟨_, rfl⟩
        have hc0 := hc k (by omega)
        rw [← hx] at hc0
        have hb0 := hbb x (by rw [hx]; simp [hlt])
        obtain ⟨hb1, hb2⟩ := hb0
        have HX := hide hx
        have HBB := hide hbb
        clear hx hc hop hbb
        have HR : Hid (IntKind.u64.wrap (m + IntKind.u64.wrap (x % 128 * 2 ^ (7 * k))) = valB 128 ((bs.take (k + 1)).map (· % 128)) % 18446744073709551616) := by
          show _ = _
          rw [take_snoc bs k hlt, List.map_append, List.map_cons, List.map_nil, valB_append, HM.out, refVar_step, ← HX.out]
          simp [Nat.min_eq_left (Nat.le_of_lt hlt)]
        obtain ⟨m2, hm2⟩ : ∃ m2, m2 = valB 128 ((bs.take (k + 1)).map (· % 128)) % 18446744073709551616 := ⟨_, rfl⟩
        have hr := HR.out
        rw [← hm2] at hr
        have hm20 : 0 ≤ m2 := by omega
        have hm21 : m2 < 18446744073709551616 := by omega
        have HM2 := hide hm2
        clear HR hm2
        by_cases h128 : x < 128
        · have hd : digN 10 bs = k + 1 := digN_found 10 bs k hlt10 hlt HA.out (by rw [← HX.out]; exact h128)
          have hkw : IntKind.i64.wrap ((k : Int) + 1) = (k : Int) + 1 := i64_small _ (by omega) (by omega)
          have hI := HB0.out.take (k + 1) (by omega)
          have ca := conv_isB (w := w.drew) hI
          obtain ⟨sa, hsa⟩ : ∃ s, s = strOfNums (bs.take (k + 1)) := ⟨_, rfl⟩
          rw [← hsa] at ca
          obtain ⟨ys, hys⟩ : ∃ ys, ys = varB 9 m2 := ⟨_, rfl⟩
          have PX := hide fun w => refPutVar_any (.slice none 0 0) [] m2 w (IsB.nil w) (by simp) hm20 hm21
          simp only [List.nil_append] at PX
          rw [← hys] at PX
          obtain ⟨sb, hsb⟩ : ∃ s, s = strOfNums ys := ⟨_, rfl⟩
          have HI := hide hI
          have HSA := hide hsa
          have HSB := hide hsb
          have hkc : (0 : Int) ≤ (k : Int) + 1 := by omega
          have hkc2 : (k : Int) + 1 ≤ (cap : Int) := by omega
          by_cases heq : ys = bs.take (k + 1)
          · have hGv : G = (m2, k + 1, true) := by rw [HG.out]; exact gv_ref_yes bs m2 hm20 hm21 (k + 1) (by omega) (by rw [← hys]; exact heq)
            have hst : sb = sa := by rw [hsa, hsb, heq]
            subst hGv
            obtain rfl := hst
            clear hI hsa hsb heq hys hd
            go_wp2
            go_region_held (fun w' => (convert 22 9 (.slice (some ⟨b, off, none⟩) (k + 1) cap)).run Try.prog w' = .ok (.string sb) w') (first | assumption) (first | (go_at_call 20; refine (PX.out _).mono ?_; rintro e w3 ⟨g3, cap3, rfl, o3, b3⟩; have b3' := below_undrew b3; have c3 := conv_isB o3.isB; rw [← HSB.out] at c3; have c4 := conv_isB (HI.out.below b3'); rw [← HSA.out] at c4; clear o3 b3))
            go_wp2
            go_ret3
            exact ⟨by simp, b3'⟩
          · have hGv : G = (0, 0, false) := by rw [HG.out]; exact gv_ref_no bs HBB.out (by rw [hd, ← HM2.out, ← hys]; exact heq)
            have hst : ¬ sb = sa := fun e => heq (strOfNums_inj (by rw [hys]; exact varB_bytes 9 m2 hm20) (fun z hz => HBB.out z (List.mem_of_mem_take hz)) (by rw [← hsa, ← hsb]; exact e))
            have hne : (sb.toList == sa.toList) = false := str_ne hst
            subst hGv
            clear hI hsa hsb heq hys hd hst
            go_wp2
            go_region_held (fun w' => (convert 22 9 (.slice (some ⟨b, off, none⟩) (k + 1) cap)).run Try.prog w' = .ok (.string sa) w') (first | assumption) (first | (go_at_call 20; refine (PX.out _).mono ?_; rintro e w3 ⟨g3, cap3, rfl, o3, b3⟩; have b3' := below_undrew b3; have c3 := conv_isB o3.isB; rw [← HSB.out] at c3; have c4 := conv_isB (HI.out.below b3'); rw [← HSA.out] at c4; clear o3 b3))
            go_wp2
            go_ret3
            exact ⟨rfl, b3'⟩
        · go_wp2
          go_round
          case rel => exact ⟨k + 1, m2, by omega, by omega, by go_num, rfl, hm20, hm21, HM2, fun j hj => by by_cases e : j = k; (subst e; rw [← HX.out]; omega); exact HA.out j (by omega)⟩
          case measure => simp [intOf]; omega
      · have hGv : G = (0, 0, false) := by rw [HG.out]; exact gv_of_dig bs (digN_none 10 bs fun j hj hjl => HA.out j (by omega))
        subst hGv
        go_wp2
        go_ret3
        exact ⟨rfl, Below.refl _ _⟩
    · have hGv : G = (0, 0, false) := by rw [HG.out]; exact gv_of_dig bs (digN_none 10 bs fun j hj hjl => HA.out j (by omega))
      subst hGv
      go_wp2
      go_ret3
      exact ⟨rfl, Below.refl _ _⟩
end Go.Proofs.Ytoneaaafdgllbaa
