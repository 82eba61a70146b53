/-
  Proved: for both numbers and every slice of steps, PoolSame returns true and leaves them as they were (it does not matter how many frames there are). No condition.
-/
import Derived.WalkKit
import Derived.ProofKit
import Derived.OpenShut
import Derived.ShutString
import Derived.Deep.CutBlock
import Derived.Deep.DeepCutAuto
import Derived.Test.YtbhjdcoehgajcaaPSame
namespace Go.Proofs.Ytbhjdcoehgajcaa.poolSame
open Go.ChangeShapes Go.WideShapes Go.ChangeAt Go.RowKit
open Go.ChangeMaps (open_string shut_string)
set_option linter.unusedVariables false

theorem own : ownKnob Try.prog.godebug = none := by kernel_rfl
theorem laidOut : laidOutB Try.prog = true := by kernel_rfl

def numOf : Value → Nat | .int _ q => q.toNat | _ => 0
open Go.Proofs.Ytbhjdcoehgajcaa.L.P
theorem i64_and65535 (n : Int) : bits .and .i64 n 65535 = n % 65536 := by
  have hm : (BitVec.ofInt 64 65535).toNat = 2 ^ 16 - 1 := by decide
  have key : (BitVec.ofInt 64 n &&& BitVec.ofInt 64 65535).toNat = (n % ((2 ^ 64 : Nat) : Int)).toNat % 2 ^ 16 := by
    rw [BitVec.toNat_and, BitVec.toNat_ofInt, hm, Nat.and_two_pow_sub_one_eq_mod]
  show IntKind.i64.wrap ((BitVec.ofInt 64 n &&& BitVec.ofInt 64 65535).toNat : Nat) = n % 65536
  rw [key, IntKind.wrap_i64]
  omega

theorem mod12 (a : Int) : ∃ r n : Nat, (bits .and .i64 a 65535).tmod 12 = (r : Int) ∧ IntKind.i64.wrap (1 + (r : Int)) = (n : Int) ∧ 1 + (r : Int) = (n : Int) ∧ 1 ≤ n ∧ n ≤ 12 := by
  refine ⟨((a % 65536).tmod 12).toNat, ((a % 65536).tmod 12).toNat + 1, ?_, ?_, ?_, ?_, ?_⟩
  · rw [i64_and65535]
    have := Int.tmod_nonneg 12 (show 0 ≤ a % 65536 by omega)
    omega
  · have h2 := Int.tmod_lt_of_pos (a % 65536) (show (0 : Int) < 12 by omega)
    have := Int.tmod_nonneg 12 (show 0 ≤ a % 65536 by omega)
    rw [i64_small _ (by omega) (by omega)]
    omega
  · omega
  · omega
  · have h2 := Int.tmod_lt_of_pos (a % 65536) (show (0 : Int) < 12 by omega)
    have := Int.tmod_nonneg 12 (show 0 ≤ a % 65536 by omega)
    omega

/-! ### The walk -/
set_option maxRecDepth 100000 in
set_option maxHeartbeats 30000000 in
theorem walk (a0 : Int) (a1 : Int) (a2 : Option Addr) (len2 cap2 : Nat) (ss2 : List L.P.St) (w : World) (w0 : (Lit.int .i64 a0).wf = true) (w1 : (Lit.int .i64 a1).wf = true) (i2 : L.P.IsS w (.slice a2 len2 cap2) ss2) (l2 : ss2.length = len2) (m2 : len2 ≤ maxLen) :
    Calls Try.prog 7 #[.int .i64 a0, .int .i64 a1, .slice a2 len2 cap2] w fun e w' => e = .returned (.bool true) ∧ Below w.heap.size w w' := by
  subst l2
  unfold maxLen at m2
  obtain ⟨r0, n0, hr0, hn0, hs0, hp0, hq0⟩ := mod12 a0
  obtain ⟨r1, n1, hr1, hn1, hs1, hp1, hq1⟩ := mod12 a1
  have SH := hide (shown_any w)
  have I2 := hide i2
  clear w0 w1 i2
  go_enter Try.func7, Try.ntmps7
  go_wp2_with (go_at_call 9; refine SH.out.mono ?_; rintro e w1 ⟨rfl, b1'⟩; have B1 := hide b1'; clear b1')
  refine (made_any w w1 200 100 (by omega) (by omega) B1.out).mono ?_
  rintro e w2 ⟨c, rfl, d2⟩
  have D2 := hide d2
  clear d2 SH
  go_wp2_with fail
  refine (made_any w2 w2 200 100 (by omega) (by omega) (Below.refl _ _)).mono ?_
  rintro e w3 ⟨d, rfl, d3⟩
  have D3 := hide (Two2.of D2.out d3)
  clear d3 D2
  go_wp2_with fail
  refine (Two2.new (m := 4) D3.out n0 rfl rfl (two_len (by rw [allOf_length]; omega) (by rw [allOf_length]; omega)) (by simp [S7]) (Ct_look _ _)).mono ?_
  rintro e w4 ⟨p, rfl, fd, l4, e4, n4⟩
  have L4 := hide (And.intro l4 (And.intro e4 n4))
  clear l4 e4 n4 D3
  go_wp2_with fail
  refine (new_second (m' := 4) L4.out.1 L4.out.2.1 L4.out.2.2 n1 rfl rfl (two_len (by rw [allOf_length]; omega) (by rw [allOf_length]; omega)) (by simp [S7]) (Ct_look _ _)).mono ?_
  rintro e w5 ⟨q, rfl, k5⟩
  obtain ⟨fr, hfr, hfr1⟩ : ∃ fr : Int, fr = max (n0 : Int) 1 ∧ fr ≤ 12 := ⟨_, rfl, by omega⟩
  obtain ⟨gr, hgr, hgr1⟩ : ∃ gr : Int, gr = max (n1 : Int) 1 ∧ gr ≤ 12 := ⟨_, rfl, by omega⟩
  rw [← hfr, ← hgr] at k5
  have hla := allOf_length fA 200
  have hlb := allOf_length fB 100
  generalize allOf fA 200 = xA at k5 hla
  generalize allOf fB 100 = yB at k5 hlb
  have K5 := hide k5
  have HLA := hide (And.intro hla hlb)
  clear k5 L4 hfr hgr hla hlb B1
  go_wp2
  go_loopw [12] (fun v wr => ∃ (i : Nat) (x y : List Int), v = .int .i64 i ∧ i ≤ ss2.length ∧ i ≤ 40 ∧ Hid (x.length = 200 ∧ y.length = 100) ∧ Hid (P2 w wr [] p c fr (Ct x y) (fun _ => True) (4 + 1000 * i) q d gr (Ct x y) (fun _ => True) (4 + 1000 * i))) (fun v _ => 41 - numOf v)
  case atStart => exact ⟨0, xA, yB, by first | rfl | go_num, Nat.zero_le _, by omega, HLA, K5.out.more (by omega) (by omega)⟩
  case round =>
    obtain ⟨i, x, y, rfl, hi, hi1, HXY, KI⟩ := hrel
    have hw1 : IntKind.i64.wrap ((i : Int) + 1) = (i : Int) + 1 := i64_small _ (by omega) (by omega)
    by_cases hin : i < ss2.length ∧ i < 40
    · obtain ⟨hil, hi2⟩ := hin
      have hi3 : (i : Int) < 40 := by omega
      have hok := I2.out.ok i hil
      obtain ⟨sb, so, rfl, s0, s1, s2, s3, s4⟩ := I2.out.read KI.out.bel i hil
      obtain ⟨s, hs⟩ : ∃ s, s = ss2[i] := ⟨_, rfl⟩
      rw [← hs] at s0 s1 s2 s3 s4 hok
      clear hs
      obtain ⟨sk, sat, sn, o, sda, sdn, sdc, sbs⟩ := s
      obtain ⟨hk0, ha0, hn0', hdl, hrow⟩ := hok
      simp only at s0 s1 s2 s3 s4 hk0 ha0 hn0' hdl hrow
      have HOK := hide (And.intro hk0 (And.intro ha0 (And.intro hn0' (And.intro hdl hrow))))
      have K1 := hide (KI.out.boxed (.cells #[.int .i64 sk, .int .i64 sat, .int .i64 sn, .bool o, .slice sda sdn sdc] 32))
      have hbx := heap_alloc_new wr (.cells #[.int .i64 sk, .int .i64 sat, .int .i64 sn, .bool o, .slice sda sdn sdc] 32)
      obtain ⟨W1, hW1⟩ : ∃ W1, W1 = wr.alloc (.cells #[.int .i64 sk, .int .i64 sat, .int .i64 sn, .bool o, .slice sda sdn sdc] 32) := ⟨_, rfl⟩
      rw [← hW1] at K1 hbx
      have c0 : W1.cell? ⟨wr.heap.size, 0, none⟩ = some (.int .i64 sk) := cell_of_heap hbx 0
      have c1 : W1.cell? ⟨wr.heap.size, 1, none⟩ = some (.int .i64 sat) := cell_of_heap hbx 1
      have c2 : W1.cell? ⟨wr.heap.size, 2, none⟩ = some (.int .i64 sn) := cell_of_heap hbx 2
      have c3 : W1.cell? ⟨wr.heap.size, 3, none⟩ = some (.bool o) := cell_of_heap hbx 3
      have c4 : W1.cell? ⟨wr.heap.size, 4, none⟩ = some (.slice sda sdn sdc) := cell_of_heap hbx 4
      have HBX := hide hbx
      clear hk0 ha0 hn0' hdl hrow hbx
      go_upto_if 68 with fail
      go_cut [14] (fun s14 wx => s14 = .string (nmO o) ∧ wx = W1)
      case first =>
        cases o
        · go_wp2
          go_meet
          case rel => exact ⟨rfl, hW1.symm⟩
        · go_wp2
          go_meet
          case rel => exact ⟨rfl, hW1.symm⟩
      case rest =>
        obtain ⟨rfl, rfl⟩ := hcut
        clear s0 s1 s2 s3 s4 hW1
        obtain ⟨bx, hbxd⟩ : ∃ bx, bx = wr.heap.size := ⟨_, rfl⟩
        rw [← hbxd] at K1 c0 c1 c2 c3 c4 HBX ⊢
        rw [List.nil_append] at K1
        have HBD := hide hbxd
        clear hbxd
        obtain ⟨dl, hdl, hdmin⟩ : ∃ dl : Nat, dl = min sdn 100 ∧ ∀ (ts : Array TypeId) (t : TypeId) (w : World), (Builtin.min_ ts t #[.int .i64 (sdn : Int), .int .i64 100]).run Try.prog w = .ok (.int .i64 (dl : Int)) w := by
          refine ⟨min sdn 100, rfl, fun ts t w => ?_⟩
          rw [run_min_int2]
          congr 2
          split <;> omega
        obtain ⟨_, _, hfo, hdc⟩ := HOK.out.2.2.2.2.form
        simp only [Value.slice.injEq] at hfo
        have hdlc : (dl : Int) ≤ (sdc : Int) := by have := HOK.out.2.2.2.1; omega
        have HDL := hide hdl
        clear hfo hdl hdc
        obtain ⟨L, hL⟩ : ∃ L, L = (sel o x y).length := ⟨_, rfl⟩
        have HL := hide hL
        have hL3 : L ≤ 300 := by rw [hL]; have := HXY.out; cases o <;> simp [sel] <;> omega
        clear hL
        have ha2 := HOK.out.2.1.2
        have ha1 := HOK.out.2.1.1
        have hd1 : dl ≤ 100 := by have := HDL.out; omega
        have HBL : Hid ((sbs.take dl).length = dl) := by show _ = _; have := HOK.out.2.2.2.1; have := HDL.out; simp; omega
        have HBR : Hid (IsB w (.slice sda dl sdc) (sbs.take dl)) := HOK.out.2.2.2.2.take dl (by have := HDL.out; omega)
        have HLT : Hid (sbs.take dl ≠ [] → ∀ z ∈ Ytbhjdcoehgajcaa.own (.slice sda dl sdc), z < w.heap.size) := fun hne => HBR.out.lt hne
        go_upto_if 79 with fail
        by_cases hkk : (bits .and .i64 sk 1 == 0) = true
        · by_cases hmay : 0 ≤ sat ∧ 0 ≤ sn ∧ sat + sn ≤ (L : Int)
          · obtain ⟨at_, rfl⟩ : ∃ at_ : Nat, sat = (at_ : Int) := ⟨sat.toNat, by omega⟩
            obtain ⟨n, rfl⟩ : ∃ n : Nat, sn = (n : Int) := ⟨sn.toNat, by omega⟩
            have hfit : at_ + n ≤ (sel o x y).length := by have := HL.out; omega
            have HF := hide hfit
            have hn3 : n ≤ 300 := by have := HF.out; have := HL.out; omega
            clear hfit hmay
            go_wp2_with fail
            refine (K1.out.read o at_ n HF.out (by omega) (by omega)).mono ?_
            rintro e w6 ⟨va, ca, rfl, ri, k6, b6⟩
            have hb6 := b6.heap (b := bx) (by simp) HBX.out
            have e1 : w6.cell? ⟨bx, 1, none⟩ = some (.int .i64 (at_ : Int)) := cell_of_heap hb6 1
            have e2 : w6.cell? ⟨bx, 2, none⟩ = some (.int .i64 (n : Int)) := cell_of_heap hb6 2
            have RI := hide ri
            have K6 := hide k6.swap
            clear ri k6 b6 hb6 c0 c1 c2 c3 c4
            dsimp only
            go_wp2_with fail
            refine (K6.out.read o at_ n HF.out (by omega) (by omega)).mono ?_
            rintro e w7 ⟨vb, cb, rfl, rj, k7, b7⟩
            have ri7 := b7.isB RI.out (fun z hz => List.mem_append.2 (.inr hz))
            have X7 : (convert 28 9 (.slice va n ca)).run Try.prog w7 = .ok (.string (strOfNums (((sel o x y).drop at_).take n))) w7 := conv_isB ri7
            have Y7 : (convert 28 9 (.slice vb n cb)).run Try.prog w7 = .ok (.string (strOfNums (((sel o x y).drop at_).take n))) w7 := conv_isB rj
            generalize strOfNums (((sel o x y).drop at_).take n) = str at X7 Y7
            have K7 := hide k7.swap
            clear ri7 rj k7 b7 e1 e2
            dsimp only
            go_wp2
            go_roundw
            case rel => exact ⟨i + 1, x, y, by go_num, by omega, by omega, HXY, (K7.out.less (by simp)).more (by omega) (by omega)⟩
            case measure => simp [numOf]; omega
          · have hbad : sat < 0 ∨ sn < 0 ∨ ((sel o x y).length : Int) - sat < sn := by have := HL.out; omega
            have HF := hide hbad
            clear hbad hmay
            go_wp2_with fail
            refine (K1.out.read_arg o sat sn (by omega) ha2 HF.out).mono ?_
            rintro e w6 ⟨rfl, k6, b6⟩
            have hb6 := b6.heap (b := bx) (by simp) HBX.out
            have e1 : w6.cell? ⟨bx, 1, none⟩ = some (.int .i64 sat) := cell_of_heap hb6 1
            have e2 : w6.cell? ⟨bx, 2, none⟩ = some (.int .i64 sn) := cell_of_heap hb6 2
            have K6 := hide k6.swap
            clear k6 b6 hb6 c0 c1 c2 c3 c4
            dsimp only
            go_wp2_with fail
            refine (K6.out.read_arg o sat sn (by omega) ha2 HF.out).mono ?_
            rintro e w7 ⟨rfl, k7, b7⟩
            have X7 : (convert 28 9 (.slice none 0 0)).run Try.prog w7 = .ok (.string (strOfNums [])) w7 := conv_isB (IsB.nil w7)
            generalize strOfNums [] = str at X7
            have K7 := hide k7.swap
            clear k7 b7 e1 e2
            dsimp only
            go_wp2
            go_roundw
            case rel => exact ⟨i + 1, x, y, by go_num, by omega, by omega, HXY, (K7.out.less (by simp)).more (by omega) (by omega)⟩
            case measure => simp [numOf]; omega
        · have hkf : (bits .and .i64 sk 1 == 0) = false := by simpa using hkk
          clear hkk
          by_cases hmay : 0 ≤ sat ∧ sat + (dl : Int) ≤ (L : Int)
          · obtain ⟨at_, rfl⟩ : ∃ at_ : Nat, sat = (at_ : Int) := ⟨sat.toNat, by omega⟩
            have HF : Hid (at_ + dl ≤ (sel o x y).length) := by show _ ≤ _; have := HL.out; omega
            have HQ : Hid (fr ≤ 100000 ∧ gr ≤ 100000 ∧ 4 + 1000 * i + 2 * dl ≤ 998000) := by show _ ∧ _; omega
            have Hb := hide (K1.out.bel.drew)
            have K1' := hide (K1.out.below (Below.refl _ _).drew)
            clear hmay
            go_upto_region 23 with fail
            go_region_held (fun W => W.cell? ⟨bx, 1, none⟩ = some (.int .i64 (at_ : Int))) (first | exact c1 | exact cell_of_heap HB7.out 1 | exact cell_of_heap HB6.out 1) (first | (go_at_call_of 14 (Value.pointer (some ⟨p, 0, none⟩)); refine (K1'.out.write o at_ sda dl sdc (sbs.take dl) HBL.out (HBR.out.below Hb.out) HLT.out HF.out HQ.out.1 HQ.out.2.2).mono ?_; rintro e w6 ⟨rfl, k6, b6⟩; have HB6 := hide (b6.heap (b := bx) (List.mem_singleton.2 rfl) HBX.out); have K6 := hide k6.swap; clear k6 b6) | (go_at_call_of 14 (Value.pointer (some ⟨q, 0, none⟩)); refine (K6.out.write o at_ sda dl sdc (sbs.take dl) HBL.out (HBR.out.below K6.out.bel) HLT.out HF.out HQ.out.2.1 HQ.out.2.2).mono ?_; rintro e w7 ⟨rfl, k7, b7⟩; have HB7 := hide (b7.heap (b := bx) (List.mem_singleton.2 rfl) HB6.out); have K7 := hide k7.swap; clear k7 b7))
            go_wp2
            go_roundw
            case rel =>
              have h1 := HXY.out
              have h2 : (putA (sel o x y) at_ (sbs.take dl)).length = (sel o x y).length := by
                rw [putA_length (sel o x y) at_ (sbs.take dl) (by have := HF.out; have := HBL.out; omega)]
                have := HF.out
                have := HBL.out
                omega
              refine ⟨i + 1, _, _, by go_num, by omega, by omega, ?_, (K7.out.less (by simp)).more (by omega) (by omega)⟩
              show _ ∧ _
              cases o <;> simp only [sel, if_true, if_false, Bool.false_eq_true] at h2 ⊢ <;> omega
            case measure => simp [numOf]; omega
          · have HF : Hid (sat < 0 ∨ ((sel o x y).length : Int) - sat < (dl : Int)) := by show _ ∨ _; have := HL.out; omega
            have HQ : Hid (4 + 1000 * i ≤ 900000) := by show _ ≤ _; omega
            have K1' := hide (K1.out.below (Below.refl _ _).drew)
            clear hmay
            go_upto_region 23 with fail
            go_region_held (fun W => W.cell? ⟨bx, 1, none⟩ = some (.int .i64 sat)) (first | exact c1 | exact cell_of_heap HB7.out 1 | exact cell_of_heap HB6.out 1) (first | (go_at_call_of 14 (Value.pointer (some ⟨p, 0, none⟩)); refine (K1'.out.write_arg o sat sda dl sdc HQ.out ha2 HF.out).mono ?_; rintro e w6 ⟨rfl, k6, b6⟩; have HB6 := hide (b6.heap (b := bx) (List.mem_singleton.2 rfl) HBX.out); have K6 := hide k6.swap; clear k6 b6) | (go_at_call_of 14 (Value.pointer (some ⟨q, 0, none⟩)); refine (K6.out.write_arg o sat sda dl sdc HQ.out ha2 HF.out).mono ?_; rintro e w7 ⟨rfl, k7, b7⟩; have HB7 := hide (b7.heap (b := bx) (List.mem_singleton.2 rfl) HB6.out); have K7 := hide k7.swap; clear k7 b7))
            go_wp2
            go_roundw
            case rel => exact ⟨i + 1, x, y, by go_num, by omega, by omega, HXY, (K7.out.less (by simp)).more (by omega) (by omega)⟩
            case measure => simp [numOf]; omega
    · by_cases hlen : i < ss2.length
      · have h60 : ¬ (i : Int) < 40 := by omega
        clear hin
        have KB := hide (KI.out.boxed (.cells #[.string ⟨#[97]⟩, .string ⟨#[98]⟩] 9))
        have HB0 := hide (heap_alloc_new wr (.cells #[.string ⟨#[97]⟩, .string ⟨#[98]⟩] 9))
        obtain ⟨nb, hnb⟩ : ∃ nb, nb = wr.heap.size := ⟨_, rfl⟩
        go_wp2
        rw [← hnb, List.nil_append] at KB
        rw [← hnb] at HB0 ⊢
        clear hnb
        go_loopw [21] (fun v wq => ∃ j : Nat, v = .int .i64 j ∧ j ≤ 2 ∧ Hid (wq.heap[nb]? = some (.cells #[.string ⟨#[97]⟩, .string ⟨#[98]⟩] 9)) ∧ Hid (P2 w wq [nb] p c fr (Ct x y) (fun _ => True) (41000 + 100 * j) q d gr (Ct x y) (fun _ => True) (41000 + 100 * j))) (fun v _ => 3 - numOf v)
        case atStart => exact ⟨0, by first | rfl | go_num, by omega, HB0, KB.out.more (by omega) (by omega)⟩
        case round =>
          obtain ⟨j, rfl, hj, HN, KJ⟩ := hrel
          by_cases hj2 : j < 2
          · have hj3 : (j : Int) < 2 := by omega
            obtain ⟨o, ho⟩ : ∃ o : Bool, (o = false ∧ j = 0) ∨ (o = true ∧ j = 1) := by
              rcases Nat.lt_or_ge j 1 with h | h
              · exact ⟨false, .inl ⟨rfl, by omega⟩⟩
              · exact ⟨true, .inr ⟨rfl, by omega⟩⟩
            have HC : Hid (∀ W : World, W.heap[nb]? = some (.cells #[.string ⟨#[97]⟩, .string ⟨#[98]⟩] 9) → W.cell? ⟨nb, j, none⟩ = some (.string (nmO o))) := by
              intro W hW
              rcases ho with ⟨rfl, rfl⟩ | ⟨rfl, rfl⟩
              · exact cell_of_heap hW 0
              · exact cell_of_heap hW 1
            obtain ⟨n, hn, hni⟩ : ∃ n : Nat, n = (sel o x y).length ∧ 200 - 100 * (j : Int) = (n : Int) := by
              refine ⟨_, rfl, ?_⟩
              have := HXY.out
              rcases ho with ⟨rfl, rfl⟩ | ⟨rfl, rfl⟩ <;> simp only [sel, if_true, if_false, Bool.false_eq_true] <;> omega
            have HNL := hide hn
            have hw2 : IntKind.i64.wrap (100 * (j : Int)) = 100 * (j : Int) := i64_small _ (by omega) (by omega)
            have hw3 : IntKind.i64.wrap (200 - 100 * (j : Int)) = (n : Int) := by rw [hni]; exact i64_small _ (by omega) (by omega)
            have hw4 : IntKind.i64.wrap ((j : Int) + 1) = (j : Int) + 1 := i64_small _ (by omega) (by omega)
            have e5 := HC.out wr HN.out
            clear ho hn hni
            go_wp2_with fail
            refine (KJ.out.flush o (by omega) (by omega)).mono ?_
            rintro e w6 ⟨rfl, k6, b6⟩
            have HB6 := hide (b6.heap (b := nb) (by simp) HN.out)
            have e6 := HC.out w6 HB6.out
            have K6 := hide k6.swap
            clear k6 b6 e5
            go_wp2_with fail
            refine (K6.out.flush o (by omega) (by omega)).mono ?_
            rintro e w7 ⟨rfl, k7, b7⟩
            have HB7 := hide (b7.heap (b := nb) (by simp) HB6.out)
            have e7 := HC.out w7 HB7.out
            have K7 := hide k7.swap
            clear k7 b7 e6
            go_wp2_with fail
            refine (K7.out.dread o (fun h => h.2 rfl) n HNL.out (by omega)).mono ?_
            rintro e w8 ⟨va, ca, rfl, ri, k8, b8⟩
            have HB8 := hide (b8.heap (b := nb) (by simp) HB7.out)
            have e8 := HC.out w8 HB8.out
            have K8 := hide k8.swap
            have RI := hide ri
            clear k8 b8 e7 ri
            dsimp only
            go_wp2_with fail
            refine (K8.out.dread o (fun h => h.2 rfl) n HNL.out (by omega)).mono ?_
            rintro e w9 ⟨vb, cb, rfl, rj, k9, b9⟩
            have HB9 := hide (b9.heap (b := nb) (by simp) HB8.out)
            have ri9 := b9.isB RI.out (fun z hz => List.mem_append.2 (.inr hz))
            have X9 : (convert 28 9 (.slice va n ca)).run Try.prog w9 = .ok (.string (strOfNums (sel o x y))) w9 := conv_isB ri9
            have Y9 : (convert 28 9 (.slice vb n cb)).run Try.prog w9 = .ok (.string (strOfNums (sel o x y))) w9 := conv_isB rj
            generalize strOfNums (sel o x y) = str at X9 Y9
            have K9 := hide k9.swap
            clear k9 b9 e8 ri9 rj
            dsimp only
            go_wp2
            go_roundw
            case rel => exact ⟨j + 1, by go_num, by omega, HB9, (K9.out.less (by simp)).more (by omega) (by omega)⟩
            case measure => simp [numOf]; omega
          · obtain rfl : j = 2 := by omega
            go_wp2
            go_ret
            exact ⟨rfl, KJ.out.bel⟩
      · clear hin
        have KB := hide (KI.out.boxed (.cells #[.string ⟨#[97]⟩, .string ⟨#[98]⟩] 9))
        have HB0 := hide (heap_alloc_new wr (.cells #[.string ⟨#[97]⟩, .string ⟨#[98]⟩] 9))
        obtain ⟨nb, hnb⟩ : ∃ nb, nb = wr.heap.size := ⟨_, rfl⟩
        go_wp2
        rw [← hnb, List.nil_append] at KB
        rw [← hnb] at HB0 ⊢
        clear hnb
        go_loopw [21] (fun v wq => ∃ j : Nat, v = .int .i64 j ∧ j ≤ 2 ∧ Hid (wq.heap[nb]? = some (.cells #[.string ⟨#[97]⟩, .string ⟨#[98]⟩] 9)) ∧ Hid (P2 w wq [nb] p c fr (Ct x y) (fun _ => True) (41000 + 100 * j) q d gr (Ct x y) (fun _ => True) (41000 + 100 * j))) (fun v _ => 3 - numOf v)
        case atStart => exact ⟨0, by first | rfl | go_num, by omega, HB0, KB.out.more (by omega) (by omega)⟩
        case round =>
          obtain ⟨j, rfl, hj, HN, KJ⟩ := hrel
          by_cases hj2 : j < 2
          · have hj3 : (j : Int) < 2 := by omega
            obtain ⟨o, ho⟩ : ∃ o : Bool, (o = false ∧ j = 0) ∨ (o = true ∧ j = 1) := by
              rcases Nat.lt_or_ge j 1 with h | h
              · exact ⟨false, .inl ⟨rfl, by omega⟩⟩
              · exact ⟨true, .inr ⟨rfl, by omega⟩⟩
            have HC : Hid (∀ W : World, W.heap[nb]? = some (.cells #[.string ⟨#[97]⟩, .string ⟨#[98]⟩] 9) → W.cell? ⟨nb, j, none⟩ = some (.string (nmO o))) := by
              intro W hW
              rcases ho with ⟨rfl, rfl⟩ | ⟨rfl, rfl⟩
              · exact cell_of_heap hW 0
              · exact cell_of_heap hW 1
            obtain ⟨n, hn, hni⟩ : ∃ n : Nat, n = (sel o x y).length ∧ 200 - 100 * (j : Int) = (n : Int) := by
              refine ⟨_, rfl, ?_⟩
              have := HXY.out
              rcases ho with ⟨rfl, rfl⟩ | ⟨rfl, rfl⟩ <;> simp only [sel, if_true, if_false, Bool.false_eq_true] <;> omega
            have HNL := hide hn
            have hw2 : IntKind.i64.wrap (100 * (j : Int)) = 100 * (j : Int) := i64_small _ (by omega) (by omega)
            have hw3 : IntKind.i64.wrap (200 - 100 * (j : Int)) = (n : Int) := by rw [hni]; exact i64_small _ (by omega) (by omega)
            have hw4 : IntKind.i64.wrap ((j : Int) + 1) = (j : Int) + 1 := i64_small _ (by omega) (by omega)
            have e5 := HC.out wr HN.out
            clear ho hn hni
            go_wp2_with fail
            refine (KJ.out.flush o (by omega) (by omega)).mono ?_
            rintro e w6 ⟨rfl, k6, b6⟩
            have HB6 := hide (b6.heap (b := nb) (by simp) HN.out)
            have e6 := HC.out w6 HB6.out
            have K6 := hide k6.swap
            clear k6 b6 e5
            go_wp2_with fail
            refine (K6.out.flush o (by omega) (by omega)).mono ?_
            rintro e w7 ⟨rfl, k7, b7⟩
            have HB7 := hide (b7.heap (b := nb) (by simp) HB6.out)
            have e7 := HC.out w7 HB7.out
            have K7 := hide k7.swap
            clear k7 b7 e6
            go_wp2_with fail
            refine (K7.out.dread o (fun h => h.2 rfl) n HNL.out (by omega)).mono ?_
            rintro e w8 ⟨va, ca, rfl, ri, k8, b8⟩
            have HB8 := hide (b8.heap (b := nb) (by simp) HB7.out)
            have e8 := HC.out w8 HB8.out
            have K8 := hide k8.swap
            have RI := hide ri
            clear k8 b8 e7 ri
            dsimp only
            go_wp2_with fail
            refine (K8.out.dread o (fun h => h.2 rfl) n HNL.out (by omega)).mono ?_
            rintro e w9 ⟨vb, cb, rfl, rj, k9, b9⟩
            have HB9 := hide (b9.heap (b := nb) (by simp) HB8.out)
            have ri9 := b9.isB RI.out (fun z hz => List.mem_append.2 (.inr hz))
            have X9 : (convert 28 9 (.slice va n ca)).run Try.prog w9 = .ok (.string (strOfNums (sel o x y))) w9 := conv_isB ri9
            have Y9 : (convert 28 9 (.slice vb n cb)).run Try.prog w9 = .ok (.string (strOfNums (sel o x y))) w9 := conv_isB rj
            generalize strOfNums (sel o x y) = str at X9 Y9
            have K9 := hide k9.swap
            clear k9 b9 e8 ri9 rj
            dsimp only
            go_wp2
            go_roundw
            case rel => exact ⟨j + 1, by go_num, by omega, HB9, (K9.out.less (by simp)).more (by omega) (by omega)⟩
            case measure => simp [numOf]; omega
          · obtain rfl : j = 2 := by omega
            go_wp2
            go_ret
            exact ⟨rfl, KJ.out.bel⟩

/-! ### The row's step -/
set_option maxRecDepth 100000 in
theorem lifted (os : Os) (started : os.Started) (H : Type) (enc : TypeId × Value → H) :
    ReturnsInHanded {} Try.checked os 7 .any (Rows.poolSameSpec.pre6 enc Try.prog Try.f7 Rows.poolSameRow.domain false) (Rows.poolSameSpec.post enc Try.prog Try.f7 false true false false) := by
  refine returnsInHanded_of_change (C := Try.checked) own started (by kernel_rfl) Try.func7
    (ChangeSpec.witness6 (enc := enc) (C := Try.checked) false ⟨#[], #[.int .i64 0, .int .i64 0, .slice none 0 0], []⟩ 8 (by kernel_rfl) (by kernel_rfl) (by kernel_rfl) (by kernel_rfl)) ?_
  intro W base args ds gs before hval0 hW hcnd _
  have hval : ∀ (j : Nat) t v, Try.f7.params[j]? = some t → args[j]? = some v → Value.okWide Try.prog W .any base t v := hval0
  have hW' := hW
  obtain ⟨p, q, hA0, hV, rfl, hfz, hnd⟩ := hW
  have hA : DataW.TrodAll enc Try.prog W 0 (fun _ => true) true Try.f7.params.toList args.toList ds p := hA0
  rw [Try.params7] at hA hval
  obtain ⟨v0, vs0, d0, ds0, p0, q0, hargs, rfl, rfl, h0, r0⟩ := trodAll_cons hA
  obtain ⟨v1, vs1, d1, ds1, p1, q1, rfl, rfl, rfl, h1, r1⟩ := trodAll_cons r0
  obtain ⟨v2, vs2, d2, ds2, p2, q2, rfl, rfl, rfl, h2, r2⟩ := trodAll_cons r1
  obtain ⟨rfl, rfl, rfl⟩ := trodAll_nil r2
  obtain rfl : args = #[v0, v1, v2] := by cases args; simp_all
  obtain ⟨rfl, rfl⟩ := trodVars_none hV
  obtain ⟨a0, rfl, rfl, rfl, w0⟩ := open_int Try.underlying3 (hval 0 3 v0 rfl rfl) h0
  obtain ⟨a1, rfl, rfl, rfl, w1⟩ := open_int Try.underlying3 (hval 1 3 v1 rfl rfl) h1
  obtain ⟨a2, len2, cap2, rfl⟩ := okWide_slice Try.underlying22 (hval 2 22 v2 rfl rfl)
  have k2 := h2
  have lt2 : ∀ x ∈ p2, x.block < W.heap.size := by obtain ⟨m, hm⟩ := k2; exact DataW.trod_lt m _ _ _ hm
  obtain ⟨ss2, i2, l2, m2⟩ : ∃ ss, L.P.IsS W (.slice a2 len2 cap2) ss ∧ ss.length = len2 ∧ len2 ≤ maxLen := by
    obtain ⟨fuel, hf⟩ := h2
    obtain ⟨a, len, cap, ss, hcs, h1, h2, h3⟩ := L.P.stepsIn06 hf
    simp [Value.cells] at hcs
    obtain ⟨rfl, rfl, rfl⟩ := hcs
    exact ⟨ss, h1, h2, h3⟩
  clear hA0 hval0
  refine (walk a0 a1 a2 len2 cap2 ss2 W w0 w1 i2 l2 m2).mono fun e W' ⟨he, bel⟩ => ?_
  subst he
  exact ⟨_, rfl, _, _, _, [], _, [], hW', trodAll_mk1 (shut_bool Try.underlying4 _), (trodAll_cons_mk (shut_int Try.underlying3 w0) (trodAll_cons_mk (shut_int Try.underlying3 w1) (trodAll_cons_mk (Below.trod laidOut (by kernel_rfl) (of_decide_eq_true (by kernel_rfl)) k2 bel lt2) trodAll_mk0))), rfl, bel.frame _, fun h => by cases h⟩

theorem over : Rows.poolSameRow.holds Try.pinned (OpenSpec.ofChange Rows.poolSameSpec) :=
  OpenClaim.holds_of_wide 7 Try.f7 rfl rfl rfl rfl rfl rfl rfl ⟨rfl, rfl, rfl, rfl, rfl⟩ rfl rfl rfl rfl rfl (by kernel_rfl) Try.func7 (by kernel_rfl)
    (of_decide_eq_true (by kernel_rfl)) (by unfold Func.isWrapper; first | (rw [if_pos (by decide +kernel)]; kernel_rfl) | (rw [if_neg (by decide +kernel)]; exact ⟨rfl, rfl⟩))
    (fun os started H enc _ => lifted os started H enc)

/-- The statement. -/
theorem proved : Rows.PoolSameSaid := over
#print axioms proved
end Go.Proofs.Ytbhjdcoehgajcaa.poolSame
