/-
  Proved: for all three numbers and every slice of steps, PoolKeeps returns true and leaves them as they were (whatever is held, what was written is read; never are more pages held than there are frames; flushed it is on the disk). No condition.
-/
import Derived.WalkKit
import Derived.ProofKit
import Derived.OpenShut
import Derived.ShutString
import Derived.Deep.CutBlock
import Derived.Deep.DeepCutAuto
import Derived.Test.YtbhjdcoehgajcaaGL
namespace Go.Proofs.Ytbhjdcoehgajcaa.poolKeeps
open Go.ChangeShapes Go.WideShapes Go.ChangeAt Go.RowKit
open Go.ChangeMaps (open_string shut_string)
set_option linter.unusedVariables false

theorem own : ownKnob Try.prog.godebug = none := by kernel_rfl
theorem laidOut : laidOutB Try.prog = true := by kernel_rfl

def numOf : Value → Nat | .int _ q => q.toNat | _ => 0
open Go.Proofs.Ytbhjdcoehgajcaa.L.P
theorem i64_and65535 (n : Int) : bits .and .i64 n 65535 = n % 65536 := by
  have hm : (BitVec.ofInt 64 65535).toNat = 2 ^ 16 - 1 := by decide
  have key : (BitVec.ofInt 64 n &&& BitVec.ofInt 64 65535).toNat = (n % ((2 ^ 64 : Nat) : Int)).toNat % 2 ^ 16 := by
    rw [BitVec.toNat_and, BitVec.toNat_ofInt, hm, Nat.and_two_pow_sub_one_eq_mod]
  show IntKind.i64.wrap ((BitVec.ofInt 64 n &&& BitVec.ofInt 64 65535).toNat : Nat) = n % 65536
  rw [key, IntKind.wrap_i64]
  omega

theorem size301 (a : Int) : ∃ r : Nat, (bits .and .i64 a 65535).tmod 301 = (r : Int) ∧ r ≤ 300 := by
  refine ⟨((a % 65536).tmod 301).toNat, ?_, ?_⟩
  · rw [i64_and65535]
    have := Int.tmod_nonneg 301 (show 0 ≤ a % 65536 by omega)
    omega
  · have h1 := Int.tmod_nonneg 301 (show 0 ≤ a % 65536 by omega)
    have h2 := Int.tmod_lt_of_pos (a % 65536) (show (0 : Int) < 301 by omega)
    omega

/-! ### The walk -/
set_option maxRecDepth 100000 in
set_option maxHeartbeats 30000000 in
theorem walk (a0 : Int) (a1 : Int) (a2 : Int) (a3 : Option Addr) (len3 cap3 : Nat) (ss3 : List L.P.St) (w : World) (w0 : (Lit.int .i64 a0).wf = true) (w1 : (Lit.int .i64 a1).wf = true) (w2 : (Lit.int .i64 a2).wf = true) (i3 : L.P.IsS w (.slice a3 len3 cap3) ss3) (l3 : ss3.length = len3) (m3 : len3 ≤ maxLen) :
    Calls Try.prog 3 #[.int .i64 a0, .int .i64 a1, .int .i64 a2, .slice a3 len3 cap3] w fun e w' => e = .returned (.bool true) ∧ Below w.heap.size w w' := by
  obtain ⟨b0, b1⟩ := bounds_i64 w0
  subst l3
  unfold maxLen at m3
  obtain ⟨sA, hsA, hA⟩ := size301 a1
  obtain ⟨sB, hsB, hB⟩ := size301 a2
  obtain ⟨r, hr, hmin⟩ : ∃ r : Int, r = min a0 10 ∧ ∀ (ts : Array TypeId) (t : TypeId) (w : World), (Builtin.min_ ts t #[.int .i64 a0, .int .i64 10]).run Try.prog w = .ok (.int .i64 r) w := by
    refine ⟨min a0 10, rfl, fun ts t w => ?_⟩
    rw [run_min_int2]
    congr 2
    split <;> omega
  obtain ⟨mx, hmx, hmax⟩ : ∃ mx : Int, mx = max r 1 ∧ ∀ (ts : Array TypeId) (t : TypeId) (w : World), (Builtin.max_ ts t #[.int .i64 1, .int .i64 r]).run Try.prog w = .ok (.int .i64 mx) w := by
    refine ⟨max r 1, rfl, ?_⟩
    intro ts t W
    rw [run_max_int2]
    congr 2
    split <;> omega
  have hr10 : r ≤ 10 := by omega
  have SH := hide (shown_any w)
  have I3 := hide i3
  clear w0 w1 w2 i3 hr
  go_enter Try.func3, Try.ntmps3
  go_wp2_with (go_at_call 9; refine SH.out.mono ?_; rintro e w1 ⟨rfl, b1'⟩; have B1 := hide b1'; clear b1')
  refine (made_any w w1 sA sB hA hB B1.out).mono ?_
  rintro e w2 ⟨d, rfl, d2⟩
  have D2 := hide d2
  clear d2 SH
  go_wp2_with fail
  refine (Lp.new (m := 4) D2.out r rfl rfl (two_len (by rw [allOf_length]; omega) (by rw [allOf_length]; omega)) (by simp [S7]) (Ct_look _ _)).mono ?_
  rintro e w3 ⟨q, rfl, l3⟩
  have L3 := hide l3
  clear l3 D2
  go_wp2_with fail
  refine (bytes_any w3 sA sB hA hB).mono ?_
  rintro e w4 ⟨va, vb, rfl, t4⟩
  have k4 := Kp.start L3.out t4
  rw [← hmx] at k4
  have K4 := hide k4
  clear t4 L3 k4
  have hla := allOf_length fA sA
  have hlb := allOf_length fB sB
  have hfr1 : mx ≤ 10 := by omega
  clear hmx
  generalize allOf fA sA = xA at K4 hla
  generalize allOf fB sB = yB at K4 hlb
  have HLA := hide (And.intro hla hlb)
  clear hla hlb B1
  go_wp2
  go_loopw [14] (fun v wr => ∃ (i : Nat) (x y : List Int), v = .int .i64 i ∧ i ≤ ss3.length ∧ i ≤ 60 ∧ Hid (x.length = sA ∧ y.length = sB) ∧ Hid (Kp w wr [] q d mx va vb x y x y (fun _ => True) (4 + 1000 * i))) (fun v _ => 61 - numOf v)
  case atStart => exact ⟨0, xA, yB, by first | rfl | go_num, Nat.zero_le _, by omega, HLA, K4.out.more (by omega)⟩
  case round =>
    obtain ⟨i, x, y, rfl, hi, hi1, HXY, KI⟩ := hrel
    have hw1 : IntKind.i64.wrap ((i : Int) + 1) = (i : Int) + 1 := i64_small _ (by omega) (by omega)
    by_cases hin : i < ss3.length ∧ i < 60
    · obtain ⟨hil, hi2⟩ := hin
      have hi3 : (i : Int) < 60 := by omega
      have hok := I3.out.ok i hil
      obtain ⟨sb, so, rfl, s0, s1, s2, s3, s4⟩ := I3.out.read KI.out.pool.bel i hil
      obtain ⟨s, hs⟩ : ∃ s, s = ss3[i] := ⟨_, rfl⟩
      rw [← hs] at s0 s1 s2 s3 s4 hok
      clear hs
      obtain ⟨sk, sat, sn, o, sda, sdn, sdc, sbs⟩ := s
      obtain ⟨hk0, ha0, hn0, hdl, hrow⟩ := hok
      simp only at s0 s1 s2 s3 s4 hk0 ha0 hn0 hdl hrow
      have HOK := hide (And.intro hk0 (And.intro ha0 (And.intro hn0 (And.intro hdl hrow))))
      have K1 := hide (KI.out.boxed (.cells #[.int .i64 sk, .int .i64 sat, .int .i64 sn, .bool o, .slice sda sdn sdc] 32))
      have hbx := heap_alloc_new wr (.cells #[.int .i64 sk, .int .i64 sat, .int .i64 sn, .bool o, .slice sda sdn sdc] 32)
      obtain ⟨W1, hW1⟩ : ∃ W1, W1 = wr.alloc (.cells #[.int .i64 sk, .int .i64 sat, .int .i64 sn, .bool o, .slice sda sdn sdc] 32) := ⟨_, rfl⟩
      rw [← hW1] at K1 hbx
      have c0 : W1.cell? ⟨wr.heap.size, 0, none⟩ = some (.int .i64 sk) := cell_of_heap hbx 0
      have c1 : W1.cell? ⟨wr.heap.size, 1, none⟩ = some (.int .i64 sat) := cell_of_heap hbx 1
      have c2 : W1.cell? ⟨wr.heap.size, 2, none⟩ = some (.int .i64 sn) := cell_of_heap hbx 2
      have c3 : W1.cell? ⟨wr.heap.size, 3, none⟩ = some (.bool o) := cell_of_heap hbx 3
      have c4 : W1.cell? ⟨wr.heap.size, 4, none⟩ = some (.slice sda sdn sdc) := cell_of_heap hbx 4
      have HBX := hide hbx
      clear hk0 ha0 hn0 hdl hrow hbx
      go_upto_if 70 with fail
      go_cut [16, 17] (fun s16 s17 wx => s16 = .string (nmO o) ∧ s17 = sel o va vb ∧ wx = W1)
      case first =>
        cases o
        · go_wp2
          go_meet
          case rel => exact ⟨rfl, rfl, hW1.symm⟩
        · go_wp2
          go_meet
          case rel => exact ⟨rfl, rfl, hW1.symm⟩
      case rest =>
        obtain ⟨rfl, rfl, rfl⟩ := hcut
        clear s0 s1 s2 s3 s4 hW1
        obtain ⟨bx, hbxd⟩ : ∃ bx, bx = wr.heap.size := ⟨_, rfl⟩
        rw [← hbxd] at K1 c0 c1 c2 c3 c4 HBX ⊢
        have HBD := hide hbxd
        clear hbxd
        obtain ⟨dl, hdl, hdmin⟩ : ∃ dl : Nat, dl = min sdn 100 ∧ ∀ (ts : Array TypeId) (t : TypeId) (w : World), (Builtin.min_ ts t #[.int .i64 (sdn : Int), .int .i64 100]).run Try.prog w = .ok (.int .i64 (dl : Int)) w := by
          refine ⟨min sdn 100, rfl, fun ts t w => ?_⟩
          rw [run_min_int2]
          congr 2
          split <;> omega
        obtain ⟨_, _, hfo, hdc⟩ := HOK.out.2.2.2.2.form
        simp only [Value.slice.injEq] at hfo
        have hdlc : (dl : Int) ≤ (sdc : Int) := by have := HOK.out.2.2.2.1; omega
        have HDL := hide hdl
        clear hfo hdl hdc
        obtain ⟨own_, hown⟩ : ∃ own_, own_ = sel o va vb := ⟨_, rfl⟩
        have rsel : RowB wc own_ (sel o x y) := hown ▸ K1.out.rowO o
        obtain ⟨oa, oc, hof, hoc⟩ := rsel.isB.form
        obtain ⟨L, hL⟩ : ∃ L, L = (sel o x y).length := ⟨_, rfl⟩
        rw [← hL] at hof hoc
        rw [← hown]
        subst hof
        have HOWN := hide hown
        have HRS := hide rsel
        have HL := hide hL
        have hL3 : L ≤ 300 := by rw [hL]; have := HXY.out; cases o <;> simp [sel] <;> omega
        clear hown rsel hL
        have HA : Hid (sat ≤ 9223372036854775807) := HOK.out.2.1.2
        have HD : Hid (dl ≤ 100) := by show dl ≤ 100; have := HDL.out; omega
        have HBL : Hid ((sbs.take dl).length = dl) := by show _ = _; have := HOK.out.2.2.2.1; have := HDL.out; simp; omega
        have HBR : Hid (IsB w (.slice sda dl sdc) (sbs.take dl)) := HOK.out.2.2.2.2.take dl (by have := HDL.out; omega)
        have HLT : Hid (sbs.take dl ≠ [] → ∀ z ∈ Ytbhjdcoehgajcaa.own (.slice sda dl sdc), z < w.heap.size) := fun hne => HBR.out.lt hne
        go_upto_block 2 with fail
        go_cut [] (fun wx => ∃ x2 y2 : List Int, Hid (x2.length = sA ∧ y2.length = sB) ∧ Hid (Kp w wx [] q d mx va vb x2 y2 x2 y2 (fun _ => True) (4 + 1000 * i + 900)))
        case first =>
          exact switchK _ _ _ _ _ _ _ _ _ _ _ _ _ _ _ _ _ _ _ _ _ _ _ _ _ _ _ _ _ _ _ _ _ _ _ _ _ _ _ _ _ _ _ _ _ _ _ _ _ _ _ _ _ _ _ _ _ _ _ _ _ _ _ _ _ _ _ _ _ _ _ _ _ _ _ _ _ _ _ _ _ _ _ _ _ _ _ _ _ _ _ _ _ _ _ _ _ _ _ _ _ _ _ _ _ _ _ _ _ _ _ _ _ _ _ _ _ _ _ _ _ _ _ _ _ _ _ _ _ _ _ _ _ _ _ _ _ _ _ _ _ _ _ _ _ _ _ _ _ _ _ _ _ _ _ _ _ _ _ _ _ _ _ _ _ _ _ _ _ _ _ _ _ _ _ _ _ _ _ _ _ _ _ _ _ _ _ _ _ _ _ _ _ _ _ _ _ _ _ _ _ _ _ _ _ _ _ _ _ _ _ _ _ _ _ _ _ _ _ _ _ _ _ _ _ _ _ _ _ _ _ _ _ _ _ _ _ _ _ _ _ _ _ _ _ _ _ _ _ _ _ _ _ _ _ _ _ _ _ _ _ _ _ HXY K1 HBX HOWN HL hoc hL3 hfr1 (by omega) HA HD HBL HBR HLT _ _ _ (by assumption) (by assumption)
        case rest =>
          obtain ⟨x2, y2, HXY2, K2⟩ := hcut
          obtain ⟨rr, hrr, hRes, nn, hnn, _, hDir⟩ := K2.out.counts (by omega)
          have HR := hide hRes
          have HE := hide hDir
          have hq1 : ¬ mx < (rr : Int) := by omega
          have hq2 : ¬ rr < nn := by omega
          clear hRes hDir hrr hnn
          go_wp2_with fail
          refine (HR.out wc (Below.refl _ _)).mono ?_
          rintro e w6 ⟨rfl, e6⟩
          subst e6
          go_wp2_with fail
          refine (HE.out w6 (Below.refl _ _)).mono ?_
          rintro e w7 ⟨rfl, b7⟩
          have B7 := hide b7
          clear b7
          go_wp2_with fail
          refine (HR.out w7 B7.out).mono ?_
          rintro e w8 ⟨rfl, e8⟩
          subst e8
          go_wp2_with fail
          refine (HE.out w8 B7.out).mono ?_
          rintro e w9 ⟨rfl, b9⟩
          have B9 := hide b9
          clear b9
          go_wp2
          go_roundw
          case rel => exact ⟨i + 1, x2, y2, by go_num, by omega, by omega, HXY2, (K2.out.below (B7.out.trans (B9.out.mono B7.out.size))).more (by omega)⟩
          case measure => simp [numOf]; omega
    · by_cases hlen : i < ss3.length
      · have h60 : ¬ (i : Int) < 60 := by omega
        clear hin
        go_wp2_with fail
        refine (KI.out.flush false (by omega) (by omega)).mono ?_
        rintro e w5 ⟨rfl, k5, b5⟩
        have K5 := hide k5
        clear k5 b5
        go_wp2_with fail
        refine (K5.out.flush true (by omega) (by omega)).mono ?_
        rintro e w6 ⟨rfl, k6, b6⟩
        obtain ⟨rr, _, _, nn, _, hn0, hDir⟩ := k6.counts (by omega)
        have hnn : nn = 0 := hn0 (fun z c hz hd => by
          have h1 : ¬ z = [97] := hd.1.2
          have h2 : ¬ z = [98] := hd.2
          unfold Ct at hz
          rw [if_neg h1, if_neg h2] at hz
          cases hz)
        subst hnn
        have HE := hide hDir
        have K6 := hide k6
        clear k6 b6 hn0 hDir K5
        go_wp2_with fail
        refine (HE.out w6 (Below.refl _ _)).mono ?_
        rintro e w7 ⟨rfl, b7⟩
        have B7 := hide b7
        clear b7
        go_wp2
        go_ret
        exact ⟨rfl, K6.out.pool.bel.trans (B7.out.mono K6.out.pool.bel.size)⟩
      · clear hin
        go_wp2_with fail
        refine (KI.out.flush false (by omega) (by omega)).mono ?_
        rintro e w5 ⟨rfl, k5, b5⟩
        have K5 := hide k5
        clear k5 b5
        go_wp2_with fail
        refine (K5.out.flush true (by omega) (by omega)).mono ?_
        rintro e w6 ⟨rfl, k6, b6⟩
        obtain ⟨rr, _, _, nn, _, hn0, hDir⟩ := k6.counts (by omega)
        have hnn : nn = 0 := hn0 (fun z c hz hd => by
          have h1 : ¬ z = [97] := hd.1.2
          have h2 : ¬ z = [98] := hd.2
          unfold Ct at hz
          rw [if_neg h1, if_neg h2] at hz
          cases hz)
        subst hnn
        have HE := hide hDir
        have K6 := hide k6
        clear k6 b6 hn0 hDir K5
        go_wp2_with fail
        refine (HE.out w6 (Below.refl _ _)).mono ?_
        rintro e w7 ⟨rfl, b7⟩
        have B7 := hide b7
        clear b7
        go_wp2
        go_ret
        exact ⟨rfl, K6.out.pool.bel.trans (B7.out.mono K6.out.pool.bel.size)⟩

/-! ### The row's step -/
set_option maxRecDepth 100000 in
theorem lifted (os : Os) (started : os.Started) (H : Type) (enc : TypeId × Value → H) :
    ReturnsInHanded {} Try.checked os 3 .any (Rows.poolKeepsSpec.pre6 enc Try.prog Try.f3 Rows.poolKeepsRow.domain false) (Rows.poolKeepsSpec.post enc Try.prog Try.f3 false true false false) := by
  refine returnsInHanded_of_change (C := Try.checked) own started (by kernel_rfl) Try.func3
    (ChangeSpec.witness6 (enc := enc) (C := Try.checked) false ⟨#[], #[.int .i64 0, .int .i64 0, .int .i64 0, .slice none 0 0], []⟩ 8 (by kernel_rfl) (by kernel_rfl) (by kernel_rfl) (by kernel_rfl)) ?_
  intro W base args ds gs before hval0 hW hcnd _
  have hval : ∀ (j : Nat) t v, Try.f3.params[j]? = some t → args[j]? = some v → Value.okWide Try.prog W .any base t v := hval0
  have hW' := hW
  obtain ⟨p, q, hA0, hV, rfl, hfz, hnd⟩ := hW
  have hA : DataW.TrodAll enc Try.prog W 0 (fun _ => true) true Try.f3.params.toList args.toList ds p := hA0
  rw [Try.params3] at hA hval
  obtain ⟨v0, vs0, d0, ds0, p0, q0, hargs, rfl, rfl, h0, r0⟩ := trodAll_cons hA
  obtain ⟨v1, vs1, d1, ds1, p1, q1, rfl, rfl, rfl, h1, r1⟩ := trodAll_cons r0
  obtain ⟨v2, vs2, d2, ds2, p2, q2, rfl, rfl, rfl, h2, r2⟩ := trodAll_cons r1
  obtain ⟨v3, vs3, d3, ds3, p3, q3, rfl, rfl, rfl, h3, r3⟩ := trodAll_cons r2
  obtain ⟨rfl, rfl, rfl⟩ := trodAll_nil r3
  obtain rfl : args = #[v0, v1, v2, v3] := by cases args; simp_all
  obtain ⟨rfl, rfl⟩ := trodVars_none hV
  obtain ⟨a0, rfl, rfl, rfl, w0⟩ := open_int Try.underlying3 (hval 0 3 v0 rfl rfl) h0
  obtain ⟨a1, rfl, rfl, rfl, w1⟩ := open_int Try.underlying3 (hval 1 3 v1 rfl rfl) h1
  obtain ⟨a2, rfl, rfl, rfl, w2⟩ := open_int Try.underlying3 (hval 2 3 v2 rfl rfl) h2
  obtain ⟨a3, len3, cap3, rfl⟩ := okWide_slice Try.underlying22 (hval 3 22 v3 rfl rfl)
  have k3 := h3
  have lt3 : ∀ x ∈ p3, x.block < W.heap.size := by obtain ⟨m, hm⟩ := k3; exact DataW.trod_lt m _ _ _ hm
  obtain ⟨ss3, i3, l3, m3⟩ : ∃ ss, L.P.IsS W (.slice a3 len3 cap3) ss ∧ ss.length = len3 ∧ len3 ≤ maxLen := by
    obtain ⟨fuel, hf⟩ := h3
    obtain ⟨a, len, cap, ss, hcs, h1, h2, h3⟩ := L.P.stepsIn06 hf
    simp [Value.cells] at hcs
    obtain ⟨rfl, rfl, rfl⟩ := hcs
    exact ⟨ss, h1, h2, h3⟩
  clear hA0 hval0
  refine (walk a0 a1 a2 a3 len3 cap3 ss3 W w0 w1 w2 i3 l3 m3).mono fun e W' ⟨he, bel⟩ => ?_
  subst he
  exact ⟨_, rfl, _, _, _, [], _, [], hW', trodAll_mk1 (shut_bool Try.underlying4 _), (trodAll_cons_mk (shut_int Try.underlying3 w0) (trodAll_cons_mk (shut_int Try.underlying3 w1) (trodAll_cons_mk (shut_int Try.underlying3 w2) (trodAll_cons_mk (Below.trod laidOut (by kernel_rfl) (of_decide_eq_true (by kernel_rfl)) k3 bel lt3) trodAll_mk0)))), rfl, bel.frame _, fun h => by cases h⟩

theorem over : Rows.poolKeepsRow.holds Try.pinned (OpenSpec.ofChange Rows.poolKeepsSpec) :=
  OpenClaim.holds_of_wide 3 Try.f3 rfl rfl rfl rfl rfl rfl rfl ⟨rfl, rfl, rfl, rfl, rfl⟩ rfl rfl rfl rfl rfl (by kernel_rfl) Try.func3 (by kernel_rfl)
    (of_decide_eq_true (by kernel_rfl)) (by unfold Func.isWrapper; first | (rw [if_pos (by decide +kernel)]; kernel_rfl) | (rw [if_neg (by decide +kernel)]; exact ⟨rfl, rfl⟩))
    (fun os started H enc _ => lifted os started H enc)

/-- The statement. -/
theorem proved : Rows.PoolKeepsSaid := over
#print axioms proved
end Go.Proofs.Ytbhjdcoehgajcaa.poolKeeps
