/-
  Proved: for every slice of slices of bytes, every two integers, byte and integer, BlockDamage returns true and leaves them as they were (a byte of the sum that is another one is ErrSum; what is cut is ErrForm). No condition.
-/
import Derived.WalkKit
import Derived.ProofKit
import Derived.OpenShut
import Derived.ShutString
import Derived.Deep.RegionHeld
import Derived.Test.YtjnmggbkclnbkaaBPure2
namespace Go.Proofs.Ytjnmggbkclnbkaa.blockDamage
open Go.ChangeShapes Go.WideShapes Go.ChangeAt Go.RowKit
open Go.ChangeMaps (open_string shut_string)
set_option linter.unusedVariables false

theorem own : ownKnob Try.prog.godebug = none := by kernel_rfl
theorem laidOut : laidOutB Try.prog = true := by kernel_rfl

theorem i64_and65535d (n : Int) : bits .and .i64 n 65535 = n % 65536 := by
  have hm : (BitVec.ofInt 64 65535).toNat = 2 ^ 16 - 1 := by decide
  have key : (BitVec.ofInt 64 n &&& BitVec.ofInt 64 65535).toNat = (n % ((2 ^ 64 : Nat) : Int)).toNat % 2 ^ 16 := by
    rw [BitVec.toNat_and, BitVec.toNat_ofInt, hm, Nat.and_two_pow_sub_one_eq_mod]
  show IntKind.i64.wrap ((BitVec.ofInt 64 n &&& BitVec.ofInt 64 65535).toNat : Nat) = n % 65536
  rw [key, IntKind.wrap_i64]
  omega
theorem i64_and3 (n : Int) : bits .and .i64 n 3 = n % 4 := by
  have hm : (BitVec.ofInt 64 3).toNat = 2 ^ 2 - 1 := by decide
  have key : (BitVec.ofInt 64 n &&& BitVec.ofInt 64 3).toNat = (n % ((2 ^ 64 : Nat) : Int)).toNat % 2 ^ 2 := by
    rw [BitVec.toNat_and, BitVec.toNat_ofInt, hm, Nat.and_two_pow_sub_one_eq_mod]
  show IntKind.i64.wrap ((BitVec.ofInt 64 n &&& BitVec.ofInt 64 3).toNat : Nat) = n % 4
  rw [key, IntKind.wrap_i64]
  omega

/-! ### The walk -/
set_option maxRecDepth 100000 in
set_option maxHeartbeats 2000000 in
theorem walk (a0 : Option Addr) (len0 cap0 : Nat) (bs0 : List (List Int)) (a1 : Int) (a2 : Int) (a3 : Int) (a4 : Int) (w : World) (i0 : IsBB w (.slice a0 len0 cap0) bs0) (l0 : bs0.length = len0) (c0 : len0 ≤ cap0) (m0 : cap0 ≤ maxLen) (w1 : (Lit.int .i64 a1).wf = true) (w2 : (Lit.int .i64 a2).wf = true) (w3 : (Lit.int .u8 a3).wf = true) (w4 : (Lit.int .i64 a4).wf = true) :
    Calls Try.prog 6 #[.slice a0 len0 cap0, .int .i64 a1, .int .i64 a2, .int .u8 a3, .int .i64 a4] w fun e w' => e = .returned (.bool true) ∧ Below w.heap.size w w' := by
  subst l0
  obtain ⟨xf, hxf⟩ : ∃ xf, xf = fewT bs0 := ⟨_, rfl⟩
  have hfl : xf.length = min bs0.length 20 := by rw [hxf]; simp [fewT]; omega
  have hab : ∀ t ∈ xf, ∀ z ∈ t, 0 ≤ z ∧ z ≤ 255 := by rw [hxf]; exact fewT_bytes _ i0.bytes
  have hae : ∀ t ∈ xf, t.length ≤ 1010 := fun t ht => by rw [hxf] at ht; exact fewT_each _ t ht
  have FA := hide fun w h => few_any (.slice a0 bs0.length cap0) bs0 w h
  rw [← hxf] at FA
  have hm := min_len bs0.length 5 5 rfl
  obtain ⟨m, hmm⟩ : ∃ m, m = min bs0.length 5 := ⟨_, rfl⟩
  rw [← hmm] at hm
  have hmf : m ≤ xf.length := by omega
  have hm5 : m ≤ 5 := by omega
  have hm0 : (0 : Int) ≤ (m : Int) := by omega
  have HI := hide i0
  have HAB := hide hab
  have HAE := hide hae
  clear i0 hxf hab hae hmm hfl
  go_enter Try.func6, Try.ntmps6
  go_wp2_with fail
  refine (shown_any _).mono ?_
  rintro e w1' ⟨rfl, B1⟩
  have I1 := hide (HI.out.below B1)
  have HB1 := hide B1
  clear B1
  go_wp2_with fail
  refine (FA.out w1' I1.out (by unfold maxLen at m0; omega)).mono ?_
  rintro e w2' ⟨v2, rfl, r2, b2, f2⟩
  obtain ⟨q2, cap2, rfl⟩ := r2.slice
  have B2 := hide (below_then HB1.out b2)
  have hxc : xf.length ≤ cap2 := by
    obtain ⟨_, _, he, hle⟩ := r2.isBB.form
    simp only [Value.slice.injEq, true_and] at he
    omega
  have r3 := r2.take m hmf
  obtain ⟨xa, hxa⟩ : ∃ xa, xa = xf.take m := ⟨_, rfl⟩
  rw [← hxa] at r3
  have hal : m = xa.length := by rw [hxa, List.length_take]; omega
  have HAB2 : Hid (∀ t ∈ xa, ∀ z ∈ t, 0 ≤ z ∧ z ≤ 255) := fun t ht => HAB.out t (by rw [hxa] at ht; exact List.mem_of_mem_take ht)
  have HAE2 : Hid (∀ t ∈ xa, t.length ≤ 1010) := fun t ht => HAE.out t (by rw [hxa] at ht; exact List.mem_of_mem_take ht)
  have R2 := hide r3
  have F2 : Hid (∀ x ∈ Ytjnmggbkclnbkaa.own (.slice q2 m cap2), w.heap.size ≤ x) := fun x hx => Nat.le_trans HB1.out.size (f2 x (by rw [own_len q2 _ m _ cap2]; exact hx))
  have hmc : (m : Int) ≤ (cap2 : Int) := by omega
  subst hal
  clear b2 f2 r2 r3 hxa HAB HAE hmf
  go_wp2
  go_loopw [12] (fun i wr => ∃ k : Nat, k ≤ xa.length ∧ i = .int .i64 k ∧ Hid (RowT wr (.slice q2 xa.length cap2) (cutT k xa)) ∧ Hid (Below w.heap.size w wr)) (fun i _ => xa.length - (intOf i).toNat)
  case atStart => exact ⟨0, Nat.zero_le _, rfl, by show RowT _ _ _; rw [cutT_zero]; exact R2.out, B2⟩
  case round =>
    obtain ⟨k, hk, rfl, HR, HB⟩ := hrel
    by_cases hlt : k < xa.length
    · have hcl := cutT_length k xa
      have hr := HR.out
      rw [← hcl] at hr
      obtain ⟨g, hga⟩ : ∃ g, q2 = some ⟨g, 0, none⟩ := by
        rcases HR.out.form with ⟨h, _⟩ | ⟨g, c, h⟩
        · simp only [Value.slice.injEq] at h
          omega
        · simp only [Value.slice.injEq] at h
          exact ⟨g, h.1⟩
      subst hga
      obtain ⟨hxc, hfz, ta, tc, hcell, ht, hd⟩ := hr.at k (by omega)
      have hat := cutT_at k xa hlt
      have hst := cutT_step k xa hlt
      have htl : (xa[k]?.getD []).length ≤ 1010 := HAE2.out _ (by simp [hlt])
      rw [hat] at hcell ht hd
      obtain ⟨t, hte⟩ : ∃ t, t = xa[k]?.getD [] := ⟨_, rfl⟩
      rw [← hte] at hcell ht hd hst htl
      have hm1 := min_len t.length 1000 1000 rfl
      obtain ⟨mm, hmm⟩ : ∃ mm, mm = min t.length 1000 := ⟨_, rfl⟩
      rw [← hmm] at hm1
      obtain ⟨_, _, he, htc, _⟩ := id ht
      simp only [Value.slice.injEq, true_and] at he
      obtain ⟨rfl, rfl⟩ := he
      have hmmc : (mm : Int) ≤ tc := by omega
      have hmt : mm ≤ t.length := by omega
      have hmm0 : (0 : Int) ≤ (mm : Int) := by omega
      have hts : t.take 1000 = t.take mm := by
        rw [hmm]
        by_cases h : t.length ≤ 1000
        · rw [Nat.min_eq_left h, List.take_of_length_le (Nat.le_refl _), List.take_of_length_le h]
        · rw [Nat.min_eq_right (by omega)]
      have hml : (t.take mm).length = mm := by simp; omega
      have rS := hr.stored k (by omega) (.slice ta mm tc) (t.take mm) (ht.take mm hmt) (fun hne x hx => hd (fun e => hne (by rw [e]; simp)) x (by rw [own_len ta _ mm _ tc]; exact hx))
      rw [← hts, hst, hcl] at rS
      have bS : Below w.heap.size w (wr.setCell ⟨g, k, none⟩ (.slice ta mm tc)) := HB.out.setCell (p := ⟨g, k, none⟩) (F2.out g (by simp [Value.ownBlock])) _
      have cS : (wr.setCell ⟨g, k, none⟩ (.slice ta mm tc)).cell? ⟨g, k, none⟩ = some (.slice ta mm tc) := World.cell?_setCell_same' _ _ _ (by rw [hcell]; rfl)
      have RS := hide rS
      have BS := hide bS
      clear hr hat hst ht hd hte hts rS bS hml hmm hcl
      go_wp2
      go_region_with (fail)
      all_goals
        go_wp2
        go_roundw
        case rel => exact ⟨k + 1, by omega, by go_num, RS.out.below ⟨rfl, rfl, rfl, Nat.le_refl _, fun _ _ => rfl⟩, BS.out.drew⟩
        case measure => simp [intOf]; omega
    · have hkl : k = xa.length := by omega
      subst hkl
      obtain ⟨xc, hxc⟩ : ∃ xc, xc = cutT xa.length xa := ⟨_, rfl⟩
      have hxe : xc = xa.map (fun t => t.take 1000) := by rw [hxc, cutT_all]
      have hxl : xa.length = xc.length := by rw [hxc, cutT_length]
      have hok : okL xc = true := by rw [hxe]; exact okL_cut xa
      have hxb : ∀ t ∈ xc, ∀ z ∈ t, 0 ≤ z ∧ z ≤ 255 := by rw [hxe]; exact cut_bytes xa HAB2.out
      have hjr : joinR xc = (joinB xc, 0) := by rw [joinR, if_pos hok]
      have hte : ∀ t ∈ xc, t.length ≤ 70368744177664 := fun t ht => by
        rw [hxe] at ht
        obtain ⟨s, _, rfl⟩ := List.mem_map.1 ht
        simp
        omega
      have JA := hide fun v w h => join_any v xc w h (by omega) hte
      rw [hjr] at JA
      have hjl : (joinB xc).length ≤ 1006 * 5 := by have := joinB_length_le xc hok; omega
      rw [← hxc, hxl] at HR
      have HOK := hide hok
      have HXB := hide hxb
      have HXL := hide hxl
      clear hxc hxe hok hxb hjr hte hm
      by_cases hz : xa.length = 0
      · have hz2 : xc.length = 0 := by omega
        have hzi : ((xa.length : Nat) : Int) = 0 := by omega
        clear hz hz2 hxl
        go_wp2
        go_ret
        exact ⟨rfl, HB.out⟩
      · have hlp : 0 < xa.length := by omega
        have hlc : 0 < xc.length := by omega
        have hand := i64_and65535d a1
        obtain ⟨wh, hwh⟩ : ∃ wh : Nat, a1 % 65536 % (xc.length : Int) = (wh : Int) := ⟨(a1 % 65536 % (xc.length : Int)).toNat, by have := Int.emod_nonneg (a1 % 65536) (show (xc.length : Int) ≠ 0 by omega); omega⟩
        have hwl : wh < xc.length := by have := Int.emod_lt_of_pos (a1 % 65536) (show (0 : Int) < (xc.length : Int) by omega); omega
        have hlne : ¬ (xc.length : Int) = 0 := by omega
        have h16 : (0 : Int) ≤ a1 % 65536 := by omega
        clear hz
        go_wp2
        obtain ⟨wo, hwo⟩ : ∃ wo, wo = wr := ⟨_, rfl⟩
        subst hwo
        go_loopw [13, 14] (fun f i wr => ∃ k : Nat, k ≤ wh ∧ i = .int .i64 k ∧ f = .int .i64 (fromT k xc : Nat) ∧ Hid (wr = wo)) (fun _ i _ => wh - (intOf i).toNat)
        case atStart => exact ⟨0, Nat.zero_le _, rfl, by rw [fromT_zero]; rfl, rfl⟩
        case round =>
          obtain ⟨k, hk, rfl, rfl, HW⟩ := hrel
          obtain rfl := HW.out
          by_cases hlt : k < wh
          · obtain ⟨b, off, cap', he, _, hc⟩ := HR.out.isBB.opened (by omega)
            simp only [Value.slice.injEq] at he
            obtain ⟨rfl, _, rfl⟩ := he
            obtain ⟨ta, tc, hcell, _⟩ := hc k (by omega)
            have hst := fromT_step k xc (by omega)
            have hfl := fromT_le (k + 1) xc
            obtain ⟨n, hn⟩ : ∃ n, n = (xc[k]?.getD []).length := ⟨_, rfl⟩
            rw [← hn] at hcell hst
            have HST := hide hst
            have hfb : fromT k xc + n + 6 ≤ 5030 := by omega
            clear hc hn hst hfl
            go_wp2
            go_roundw
            case rel => exact ⟨k + 1, by omega, by go_num, by rw [HST.out]; go_num, by simp [Hid]⟩
            case measure => simp [intOf]; omega
          · obtain rfl : k = wh := by omega
            have hfl := fromT_le k xc
            obtain ⟨fr, hfr⟩ : ∃ fr, fr = fromT k xc := ⟨_, rfl⟩
            rw [← hfr] at hfl ⊢
            have HFR := hide hfr
            clear hfr
            go_wp2_with fail
            refine (JA.out _ wr HR.out.isBB).mono ?_
            rintro e w5 ⟨v5, rfl, r5, b5, f5⟩
            dsimp only at r5 ⊢
            obtain ⟨js, hjs⟩ : ∃ js, js = joinB xc := ⟨_, rfl⟩
            rw [← hjs] at r5 hjl hfl
            obtain ⟨a5, cap5, rfl, hc5⟩ := r5.isB.form
            have B5 := hide (below_then HB.out b5)
            have R5 := hide (HR.out.below b5)
            have J5 := hide r5
            have F5 : Hid (∀ x ∈ Ytjnmggbkclnbkaa.own (.slice a5 js.length cap5), w.heap.size ≤ x) := fun x hx => Nat.le_trans HB.out.size (f5 x hx)
            have HJS := hide hjs
            clear r5 b5 f5 hjs HR HB JA
            go_wp2
            go_loopw [17, 18] (fun f i wr => ∃ k : Nat, k ≤ xc.length ∧ i = .int .i64 k ∧ f = .int .i64 (fromT k xc : Nat) ∧ Hid (wr = w5)) (fun _ i _ => xc.length - (intOf i).toNat)
            case atStart => exact ⟨0, Nat.zero_le _, rfl, by rw [fromT_zero]; rfl, rfl⟩
            case round =>
              obtain ⟨k2, hk2, rfl, rfl, HW⟩ := hrel
              obtain rfl := HW.out
              by_cases hlt2 : k2 < xc.length
              · obtain ⟨b, off, cap', he, _, hc⟩ := R5.out.isBB.opened (by omega)
                simp only [Value.slice.injEq] at he
                obtain ⟨rfl, _, rfl⟩ := he
                obtain ⟨ta, tc, hcell, _⟩ := hc k2 (by omega)
                have hst := fromT_step k2 xc (by omega)
                have hfl2 := fromT_le (k2 + 1) xc
                rw [← HJS.out] at hfl2
                obtain ⟨n, hn⟩ : ∃ n, n = (xc[k2]?.getD []).length := ⟨_, rfl⟩
                rw [← hn] at hcell hst
                have HST := hide hst
                have hfb : fromT k2 xc + n + 6 ≤ 5030 := by omega
                clear hc hn hst hfl2
                go_wp2
                go_roundw
                case rel => exact ⟨k2 + 1, by omega, by go_num, by rw [HST.out]; go_num, by simp [Hid]⟩
                case measure => simp [intOf]; omega
              · obtain rfl : k2 = xc.length := by omega
                have hall := fromT_all xc
                rw [← HJS.out] at hall
                rw [hall]
                obtain ⟨b, off, cap', he, hbc, hc⟩ := R5.out.isBB.opened (by omega)
                simp only [Value.slice.injEq] at he
                obtain ⟨rfl, _, rfl⟩ := he
                obtain ⟨ta, tc, hcl, _⟩ := hc (xc.length - 1) (by omega)
                obtain ⟨ta2, tc2, hck, _⟩ := hc k (by omega)
                obtain ⟨nl, hnl⟩ : ∃ nl, nl = (xc[xc.length - 1]?.getD []).length := ⟨_, rfl⟩
                obtain ⟨nw, hnw⟩ : ∃ nw, nw = (xc[k]?.getD []).length := ⟨_, rfl⟩
                have hokl : ∀ t ∈ xc, t.length ≤ 1000 := by
                  have h := HOK.out
                  simp only [okL, List.all_eq_true, decide_eq_true_eq] at h
                  exact h
                have hnl2 : nl ≤ 1000 := by rw [hnl]; exact hokl _ (by simp [show xc.length - 1 < xc.length by omega])
                have hnw2 : nw ≤ 1000 := by rw [hnw]; exact hokl _ (by simp [show k < xc.length by omega])
                rw [← hnl] at hcl
                rw [← hnw] at hck
                have hand4 := i64_and65535d a4
                have hand2 := i64_and3 a2
                obtain ⟨c, hcc⟩ : ∃ c : Nat, a4 % 65536 % ((nl : Int) + 6 - 1) = (c : Int) := ⟨(a4 % 65536 % ((nl : Int) + 6 - 1)).toNat, by have := Int.emod_nonneg (a4 % 65536) (show (nl : Int) + 6 - 1 ≠ 0 by omega); omega⟩
                have hc2 : c < nl + 5 := by have := Int.emod_lt_of_pos (a4 % 65536) (show (0 : Int) < (nl : Int) + 6 - 1 by omega); omega
                have h164 : (0 : Int) ≤ a4 % 65536 := by omega
                have hw2 : ((xc.length : Int) - 1) = ((xc.length - 1 : Nat) : Int) := by omega
                have hjn : nl + 6 ≤ js.length := by
                  have h := joinB_split xc (xc.length - 1) (by omega)
                  rw [← HJS.out] at h
                  rw [h, List.length_append, List.length_append, blkB_length]
                  omega
                have hjw : fr + nw + 6 ≤ js.length := by
                  have h1 := fromT_step k xc (by omega)
                  have h2 := fromT_le (k + 1) xc
                  rw [← HJS.out] at h2
                  rw [HFR.out]
                  omega
                have HNL := hide hnl
                have HNW := hide hnw
                obtain ⟨q, hq⟩ : ∃ q, q = js.length - (c + 1) := ⟨_, rfl⟩
                have hjc : ((js.length : Int) - (1 + (c : Int))) = (q : Int) := by omega
                have hqc : (q : Int) ≤ (cap5 : Int) := by omega
                have hq0 : (0 : Int) ≤ (q : Int) := by omega
                have hql : q ≤ js.length := by omega
                have I6 := hide (J5.out.isB.take q hql)
                have hcut := all_cut xc HOK.out HXB.out (by omega) (nl + 6) (c + 1) (by rw [hnl]) (by omega) (by omega)
                rw [← HJS.out, ← hq] at hcut
                have A6 := hide fun v w h => all_any v (js.take q) w h (by rw [List.length_take]; omega)
                rw [hcut] at A6
                clear hc hall hokl hnl hnw hq hcut
                go_wp2_with fail
                refine (A6.out _ _ I6.out).mono ?_
                rintro e w6 ⟨v6, rfl, r6, b6⟩
                dsimp only at r6 ⊢
                obtain ⟨a6, cap6, rfl⟩ := r6.slice
                have hpl : ((js.length - (nl + 6) : Nat) : Int) = (js.length : Int) - ((nl : Int) + 6) := by omega
                rw [hpl]
                have B6 := hide (below_then B5.out b6)
                have J6 := hide (J5.out.kept (Kept.of_below (fp := []) b6) (by simp))
                have hck6 : w6.cell? ⟨b, off + k, none⟩ = some (.slice ta2 nw tc2) := (World.cell?_of_block (b6.block _ (World.block_lt_of_cell? _ _ hck))).trans hck
                obtain ⟨g5, hg5⟩ : ∃ g5, a5 = some ⟨g5, 0, none⟩ := by
                  rcases J6.out.form with ⟨h, _⟩ | ⟨g, cc, h, _⟩
                  · simp only [Value.slice.injEq] at h
                    omega
                  · simp only [Value.slice.injEq] at h
                    exact ⟨g, h.1⟩
                subst hg5
                obtain ⟨aa, haa⟩ : ∃ aa : Nat, a2 % 4 = (aa : Int) := ⟨(a2 % 4).toNat, by omega⟩
                have haa4 : aa < 4 := by omega
                obtain ⟨kk, hkk⟩ : ∃ kk, kk = fr + 2 + nw + aa := ⟨_, rfl⟩
                have hki : (fr : Int) + 2 + (nw : Int) + (aa : Int) = (kk : Int) := by omega
                have hkj : kk < js.length := by omega
                have hfz := World.ownsRow.frozenAt J6.out.1 kk
                obtain ⟨x, hx⟩ : ∃ x, x = js[kk]?.getD 0 := ⟨_, rfl⟩
                have hcx : w6.cell? ⟨g5, kk, none⟩ = some (.int .u8 x) := by
                  obtain ⟨b', o', c', he, _, h⟩ := J6.out.isB.opened (by omega)
                  simp only [Value.slice.injEq, Option.some.injEq, Addr.mk.injEq, and_true, true_and] at he
                  obtain ⟨⟨rfl, rfl⟩, _⟩ := he
                  have := h kk hkj
                  rw [Nat.zero_add, ← hx] at this
                  exact this
                have hxb := J6.out.2 x (by rw [hx]; simp [hkj])
                have h3b := bounds_u8 w3
                obtain ⟨hy0, hy1, hye, hyn⟩ := u8_xor x a3 hxb h3b
                obtain ⟨y, hy⟩ : ∃ y, bits .xor .u8 x a3 = y := ⟨_, rfl⟩
                rw [hy] at hy0 hy1 hye hyn
                have RS : Hid (RowB (w6.setCell ⟨g5, kk, none⟩ (.int .u8 y)) (.slice (some ⟨g5, 0, none⟩) js.length cap5) (js.set kk y)) := by
                  refine ⟨?_, fun z hz => ?_⟩
                  · have := (World.ownsRow.stored J6.out.1 kk (.int .u8 y)).1
                    rw [← List.map_set] at this
                    simpa using this
                  · rcases List.mem_or_eq_of_mem_set hz with hz | rfl
                    · exact J6.out.2 z hz
                    · exact ⟨hy0, hy1⟩
                have BS : Hid (Below w.heap.size w (w6.setCell ⟨g5, kk, none⟩ (.int .u8 y))) := B6.out.setCell (p := ⟨g5, kk, none⟩) (F5.out g5 (by simp [Value.ownBlock])) _
                have A7 := hide fun v w h => all_any v (js.set kk y) w h (by rw [List.length_set]; omega)
                have HKK := hide hkk
                have HX := hide hx
                have HYE := hide hye
                have HYN := hide hyn
                have HYB : Hid (0 ≤ y ∧ y ≤ 255) := ⟨hy0, hy1⟩
                clear r6 b6 hpl hcl hck hkk hx hye hyn hxb h3b hy0 hy1 J6
                by_cases hz3 : a3 = 0
                · have hset : js.set kk y = joinB xc := by
                    rw [HYE.out hz3, HX.out, ← HJS.out]
                    apply List.ext_getElem?
                    intro i
                    by_cases hi : i = kk
                    · subst hi
                      rw [List.getElem?_set_self hkj]
                      simp [hkj]
                    · rw [List.getElem?_set_ne (by omega)]
                  have e7 := allB_join xc HOK.out HXB.out
                  rw [← hset] at e7
                  rw [e7] at A7
                  clear hset e7
                  subst hz3
                  go_wp2_with fail
                  refine (A7.out _ _ RS.out.isB).mono ?_
                  rintro e w7 ⟨v7, rfl, r7, b7⟩
                  dsimp only at r7 ⊢
                  obtain ⟨a7, cap7, rfl⟩ := r7.slice
                  have B7 := hide (below_then BS.out b7)
                  clear r7 b7
                  go_wp2
                  go_ret
                  exact ⟨rfl, B7.out⟩
                · have e7 := all_sum xc HOK.out HXB.out k (by omega) aa haa4 y HYB.out (by
                    rw [← HFR.out, ← HNW.out, ← HJS.out, ← HKK.out, ← HX.out]
                    exact HYN.out hz3)
                  rw [← HFR.out, ← HNW.out, ← HJS.out, ← HKK.out] at e7
                  rw [e7] at A7
                  have hz3b : (a3 == 0) = false := by simpa using hz3
                  clear e7 hz3
                  go_wp2_with fail
                  refine (A7.out _ _ RS.out.isB).mono ?_
                  rintro e w7 ⟨v7, rfl, r7, b7⟩
                  dsimp only at r7 ⊢
                  obtain ⟨a7, cap7, rfl⟩ := r7.slice
                  have B7 := hide (below_then BS.out b7)
                  clear r7 b7
                  go_wp2
                  go_ret
                  exact ⟨rfl, B7.out⟩

/-! ### The row's step -/
set_option maxRecDepth 100000 in
theorem lifted (os : Os) (started : os.Started) (H : Type) (enc : TypeId × Value → H) :
    ReturnsInHanded {} Try.checked os 6 .any (Rows.blockDamageSpec.pre6 enc Try.prog Try.f6 Rows.blockDamageRow.domain false) (Rows.blockDamageSpec.post enc Try.prog Try.f6 false true false false) := by
  refine returnsInHanded_of_change (C := Try.checked) own started (by kernel_rfl) Try.func6
    (ChangeSpec.witness6 (enc := enc) (C := Try.checked) false ⟨#[], #[.slice none 0 0, .int .i64 0, .int .i64 0, .int .u8 0, .int .i64 0], []⟩ 8 (by kernel_rfl) (by kernel_rfl) (by kernel_rfl) (by kernel_rfl)) ?_
  intro W base args ds gs before hval0 hW hcnd _
  have hval : ∀ (j : Nat) t v, Try.f6.params[j]? = some t → args[j]? = some v → Value.okWide Try.prog W .any base t v := hval0
  have hW' := hW
  obtain ⟨p, q, hA0, hV, rfl, hfz, hnd⟩ := hW
  have hA : DataW.TrodAll enc Try.prog W 0 (fun _ => true) true Try.f6.params.toList args.toList ds p := hA0
  rw [Try.params6] at hA hval
  obtain ⟨v0, vs0, d0, ds0, p0, q0, hargs, rfl, rfl, h0, r0⟩ := trodAll_cons hA
  obtain ⟨v1, vs1, d1, ds1, p1, q1, rfl, rfl, rfl, h1, r1⟩ := trodAll_cons r0
  obtain ⟨v2, vs2, d2, ds2, p2, q2, rfl, rfl, rfl, h2, r2⟩ := trodAll_cons r1
  obtain ⟨v3, vs3, d3, ds3, p3, q3, rfl, rfl, rfl, h3, r3⟩ := trodAll_cons r2
  obtain ⟨v4, vs4, d4, ds4, p4, q4, rfl, rfl, rfl, h4, r4⟩ := trodAll_cons r3
  obtain ⟨rfl, rfl, rfl⟩ := trodAll_nil r4
  obtain rfl : args = #[v0, v1, v2, v3, v4] := by cases args; simp_all
  obtain ⟨rfl, rfl⟩ := trodVars_none hV
  obtain ⟨a0, len0, cap0, rfl⟩ := okWide_slice Try.underlying22 (hval 0 22 v0 rfl rfl)
  have k0 := h0
  have lt0 : ∀ x ∈ p0, x.block < W.heap.size := by obtain ⟨m, hm⟩ := k0; exact DataW.trod_lt m _ _ _ hm
  obtain ⟨bs0, i0, l0, c0, m0⟩ : ∃ bs, IsBB W (.slice a0 len0 cap0) bs ∧ bs.length = len0 ∧ len0 ≤ cap0 ∧ cap0 ≤ maxLen := by
    obtain ⟨fuel, hf⟩ := h0
    rcases open_byterows hf with hcs | ⟨x, l, c, bs, hcs, e1, e2, e3, e4⟩
    · simp [Value.cells] at hcs
      obtain ⟨rfl, rfl, rfl⟩ := hcs
      exact ⟨[], IsBB.nil W, rfl, Nat.le_refl _, Nat.zero_le _⟩
    · simp [Value.cells] at hcs
      obtain ⟨rfl, rfl, rfl⟩ := hcs
      exact ⟨bs, e4, e1, e2, e3⟩
  obtain ⟨a1, rfl, rfl, rfl, w1⟩ := open_int Try.underlying3 (hval 1 3 v1 rfl rfl) h1
  obtain ⟨a2, rfl, rfl, rfl, w2⟩ := open_int Try.underlying3 (hval 2 3 v2 rfl rfl) h2
  obtain ⟨a3, rfl, rfl, rfl, w3⟩ := open_int Try.underlying5 (hval 3 5 v3 rfl rfl) h3
  obtain ⟨a4, rfl, rfl, rfl, w4⟩ := open_int Try.underlying3 (hval 4 3 v4 rfl rfl) h4
  clear hA0 hval0
  refine (walk a0 len0 cap0 bs0 a1 a2 a3 a4 W i0 l0 c0 m0 w1 w2 w3 w4).mono fun e W' ⟨he, bel⟩ => ?_
  subst he
  exact ⟨_, rfl, _, _, _, [], _, [], hW', trodAll_mk1 (shut_bool Try.underlying4 _), (trodAll_cons_mk (Below.trod laidOut (by kernel_rfl) (of_decide_eq_true (by kernel_rfl)) k0 bel lt0) (trodAll_cons_mk (shut_int Try.underlying3 w1) (trodAll_cons_mk (shut_int Try.underlying3 w2) (trodAll_cons_mk (shut_int Try.underlying5 w3) (trodAll_cons_mk (shut_int Try.underlying3 w4) trodAll_mk0))))), rfl, bel.frame _, fun h => by cases h⟩

theorem over : Rows.blockDamageRow.holds Try.pinned (OpenSpec.ofChange Rows.blockDamageSpec) :=
  OpenClaim.holds_of_wide 6 Try.f6 rfl rfl rfl rfl rfl rfl rfl ⟨rfl, rfl, rfl, rfl, rfl⟩ rfl rfl rfl rfl rfl (by kernel_rfl) Try.func6 (by kernel_rfl)
    (of_decide_eq_true (by kernel_rfl)) (by unfold Func.isWrapper; first | (rw [if_pos (by decide +kernel)]; kernel_rfl) | (rw [if_neg (by decide +kernel)]; exact ⟨rfl, rfl⟩))
    (fun os started H enc _ => lifted os started H enc)

/-- The statement. -/
theorem proved : Rows.BlockDamageSaid := over
#print axioms proved
end Go.Proofs.Ytjnmggbkclnbkaa.blockDamage
