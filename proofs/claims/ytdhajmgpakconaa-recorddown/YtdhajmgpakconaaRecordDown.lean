/-
  Proved: for every slice of records and two numbers, RecordDown returns true and leaves the slice as it was (a crash on the way is told; what is read of a front of what was written is some of the records from the first one on, or an error). No condition.
-/
import Derived.WalkKit
import Derived.ProofKit
import Derived.OpenShut
import Derived.ShutString
import Derived.Test.YtdhajmgpakconaaGM
namespace Go.Proofs.Ytdhajmgpakconaa.recordDown
open Go.ChangeShapes Go.WideShapes Go.ChangeAt Go.RowKit
open Go.ChangeMaps (open_string shut_string)
set_option linter.unusedVariables false

theorem own : ownKnob Try.prog.godebug = none := by kernel_rfl
theorem laidOut : laidOutB Try.prog = true := by kernel_rfl

/-- The end of the law: what is read, by what the disk has. -/
theorem front_reads {es : List Rc} (hok : ∀ y ∈ es, okR y) (j : Nat) : ∃ rs er, readB false ((fileB es).take j) = (rs, er) ∧ (∀ y ∈ rs, okR y) ∧ rs.length ≤ (fileB es).length ∧ ((er = 0 ∧ rs = es.take rs.length ∧ rs.length ≤ es.length) ∨ er = 2) := by
  obtain ⟨rs, er, hr⟩ : ∃ rs er, readB false ((fileB es).take j) = (rs, er) := ⟨_, _, rfl⟩
  have h1 := readB_ok false ((fileB es).take j) (fun z hz => fileB_bytes es z (List.mem_of_mem_take hz))
  have h2 := readB_len false ((fileB es).take j)
  have h3 := readB_front es hok j
  rw [hr] at h1 h2 h3
  dsimp only at h1 h2 h3
  rw [List.length_take] at h2
  refine ⟨rs, er, hr, h1, by omega, h3.imp (fun ⟨a, b⟩ => ⟨a, b, ?_⟩) id⟩
  have := congrArg List.length b
  rw [List.length_take] at this
  omega

/-! ### The walk -/
set_option maxRecDepth 100000 in
set_option maxHeartbeats 20000000 in
theorem walk (a0 : Option Addr) (len0 cap0 : Nat) (es0 : List Rc) (a1 : Int) (a2 : Int) (w : World) (i0 : IsR w (.slice a0 len0 cap0) es0) (l0 : es0.length = len0) (m0 : len0 ≤ maxLen) (w1 : (Lit.int .i64 a1).wf = true) (w2 : (Lit.int .i64 a2).wf = true) :
    Calls Try.prog 7 #[.slice a0 len0 cap0, .int .i64 a1, .int .i64 a2] w fun e w' => e = .returned (.bool true) ∧ Below w.heap.size w w' := by
  obtain ⟨o2, hc2, ho2⟩ : ∃ o : Nat, (bits .and .i64 a2 65535).tmod 201 = (o : Int) ∧ o < 201 := by
    refine ⟨((a2 % 65536).tmod 201).toNat, ?_, ?_⟩
    · rw [i64_and65535]
      have := Int.tmod_nonneg 201 (show 0 ≤ a2 % 65536 by omega)
      omega
    · have h1 := Int.tmod_nonneg 201 (show 0 ≤ a2 % 65536 by omega)
      have h2 := Int.tmod_lt_of_pos (a2 % 65536) (show (0 : Int) < 201 by omega)
      omega
  obtain ⟨L, hL7, hL1, hL8, hLw⟩ : ∃ L : Int, (1 + bits .and .i64 a1 7 = L) ∧ 1 ≤ L ∧ L ≤ 8 ∧ IntKind.i64.wrap (1 + bits .and .i64 a1 7) = L := by
    refine ⟨1 + a1 % 8, by rw [i64_and7], by omega, by omega, ?_⟩
    rw [i64_and7]
    exact i64_small _ (by omega) (by omega)
  have SH := hide (shown9_any w)
  have HI := hide i0
  have hln : es0.length ≤ 9223372036854775807 := by unfold maxLen at m0; omega
  have HLN := hide hln
  clear i0 l0 m0 hln w1 w2
  go_enter Try.func7, Try.ntmps7
  go_wp2_with fail
  refine SH.out.mono ?_
  rintro e w1 ⟨rfl, b1⟩
  have FW := hide (few9_any (HI.out.below b1) HLN.out)
  have B1 := hide b1
  clear b1
  go_wp2_with fail
  refine FW.out.mono ?_
  rintro e w2 ⟨v, rfl, r2, b2, n2⟩
  obtain ⟨es, hes⟩ : ∃ es, es = es0.take 160 := ⟨_, rfl⟩
  have hel : es.length ≤ 160 := by rw [hes, List.length_take]; omega
  rw [← hes] at r2
  have B2 := hide (below_then B1.out b2)
  have R2 := hide r2
  have HEL := hide hel
  have HOK := hide r2.2
  have hcl : (fileB es).length ≤ 2584 := fileB_len160 hel
  have HCL := hide hcl
  have hsec := sec_small hcl
  have HSEC : Hid (sec (fileB es).length ≤ 1000) := by show _ ≤ _; omega
  obtain ⟨va, vcap, rfl, hvc⟩ := r2.isR.form
  obtain ⟨n, hn⟩ : ∃ n, n = es.length := ⟨_, rfl⟩
  have HN := hide hn
  rw [← hn] at R2 hvc ⊢
  clear hes hel r2 b2 n2 hcl hsec SH FW B1 hn
  go_wp2
  go_loopw [8, 9] (fun v8 v9 wr => ∃ i : Nat, v9 = .int .i64 i ∧ i ≤ o2 ∧ Hid (RowK wr v8 (List.replicate i true) ∧ Kept [] w2 wr ∧ ∀ x ∈ Ytdhajmgpakconaa.own v8, w2.heap.size ≤ x)) (fun _ v9 _ => o2 + 1 - numOf v9)
  case atStart => exact ⟨0, by first | rfl | go_num, Nat.zero_le _, World.ownsRow_nil _ _ _ _, Kept.refl _ _, by simp [Ytdhajmgpakconaa.own, Value.ownBlock]⟩
  case round =>
    obtain ⟨i, rfl, hi, HK⟩ := hrel
    have hw1 : IntKind.i64.wrap ((i : Int) + 1) = (i : Int) + 1 := i64_small _ (by omega) (by omega)
    by_cases hio : i < o2
    · have hio' : (i : Int) < (o2 : Int) := by omega
      have R1 : Hid (RowK (wr.alloc (.cells #[.bool true] 4)) u8 (List.replicate i true)) := HK.out.1.kept ((Kept.refl [] wr).alloc _) (fun _ _ => by simp)
      have K1 := hide (isK_one wr)
      have HLK : Hid ((List.replicate i true).length + [true].length ≤ 1099511627776) := by show _ ≤ _; simp; omega
      go_wp2_with (at_builtin; refine wp_appendK _ rfl _ _ rfl u8 (.slice (some ⟨wr.heap.size, 0, none⟩) 1 1) (List.replicate i true) [true] rfl R1.out rfl K1.out HLK.out ?_; intro v4 w4 r4 k4 n4; have R4 := hide r4; have K4 := hide (And.intro k4 n4); clear r4 k4 n4)
      go_roundw
      case rel =>
        obtain ⟨k4, n4⟩ := K4.out
        have r4 := R4.out
        rw [show List.replicate i true ++ [true] = List.replicate (i + 1) true from List.replicate_succ'.symm] at r4
        have k0 := HK.out.2.1
        refine ⟨i + 1, by go_num, by omega, r4, (k0.alloc _).trans (k4.mono (fp' := Ytdhajmgpakconaa.own u8) (fun _ h => h)) (fun x hx => .inr (HK.out.2.2 x hx)), fun x hx => ?_⟩
        rcases n4 x hx with e | e
        · exact HK.out.2.2 x e
        · rw [World.size_alloc] at e
          have := k0.size
          omega
      case measure => simp [numOf]; omega
    · obtain rfl : i = o2 := by omega
      obtain ⟨ks, hks⟩ : ∃ ks, ks = List.replicate i true := ⟨_, rfl⟩
      have HKS := hide hks
      have b2r : Below w2.heap.size w2 wr := HK.out.2.1.below (Nat.le_refl _) (by simp)
      have B3 := hide (B2.out.trans (b2r.mono B2.out.size))
      have R3 := hide (R2.out.kept (Kept.of_below (fp := []) b2r) (by simp))
      have RK := HK.out.1
      rw [← hks] at RK
      have HRK := hide RK
      have hkl : ks.length ≤ 1099511627776 := by rw [hks, List.length_replicate]; omega
      have HKL := hide hkl
      obtain ⟨wo, hwo⟩ : ∃ wo, wo = wr := ⟨_, rfl⟩
      subst hwo
      clear b2r RK hks R2 B2 hkl
      go_wp2_with fail
      refine (Lw.new (w0 := w) (w := wo) (hs := Ytdhajmgpakconaa.own u8 ++ Ytdhajmgpakconaa.own (.slice va n vcap)) 1000 (by omega) B3.out (fun x hx => by rcases List.mem_append.1 hx with hx | hx; exact HRK.out.lt x hx; exact R3.out.low x hx)).mono ?_
      rintro e w4 ⟨p, rfl, L4, b4⟩
      have HL4 := hide L4
      have R4 := hide (R3.out.hld (Hld.below b4) (hs := Ytdhajmgpakconaa.own (.slice va n vcap)) (fun x hx => hx))
      have HRK4 := hide (HRK.out.hld (Hld.below b4) (hs := Ytdhajmgpakconaa.own u8) (fun x hx => hx))
      clear L4 b4 R3 HRK
      go_wp2_with fail
      refine (HL4.out.arm L (by omega) u8 ks HRK4.out.isK (fun _ x hx => by simp [hx]) HKL.out (arm_new hL1)).mono ?_
      rintro e w5 ⟨rfl, L5, d5⟩
      have HL5 := hide (L5.sub (hs' := Ytdhajmgpakconaa.own (.slice va n vcap)) (fun x hx => by simp [hx]))
      have R5 := hide (R4.out.hld d5 (fun x hx => by simp [hx]))
      clear L5 d5 R4 HL4 HRK4
      go_wp2_with fail
      have WO := write_arm_out (m := i) es hL1 HSEC.out
      rw [← HKS.out] at WO
      rcases WO with ⟨k6, L6, hk6, eW⟩ | ⟨j, k6, hk6, eW⟩ | eW
      · -- written
        refine (HL5.out.write ⟨#[102]⟩ nmF (l := es) (by have := HEL.out; simp only [armS]; omega) R5.out.isR (fun _ x hx => hx) eW).mono ?_
        rintro e w6 ⟨rfl, L7, d7⟩
        have R6 := hide (R5.out.hld d7 (fun x hx => hx))
        have HL6 := hide L7
        have DN := hide L7.down
        simp only [armS] at DN
        have HRD : Hid (readB false (fileB es) = (es, 0)) := readB_file es HOK.out
        clear L7 d7 R5 HL5 eW
        go_wp2_with (go_at_call 30; refine DN.out.mono ?_; rintro e w7 ⟨rfl, rfl⟩)
        refine (HL6.out.arm 0 (by omega) _ [] (IsK.nil _) (by simp) (Nat.zero_le _) (arm_off _ _ _ _ _)).mono ?_
        rintro e w8 ⟨rfl, L8, d8⟩
        have R8 := hide (R6.out.hld d8 (fun x hx => hx))
        have HL8 := hide L8
        clear L8 d8 R6 HL6 DN
        go_wp2_with fail
        refine HL8.out.restart.mono ?_
        rintro e w9 ⟨rfl, L9, d9⟩
        have L9' : Lw w w9 p ([([102], fileB es, fileB es)], upS 1000 (sec (fileB es).length) k6) (Ytdhajmgpakconaa.own (.slice va n vcap)) := L9
        have R9 := hide (R8.out.hld d9 (fun x hx => hx))
        have HL9 := hide L9'
        clear L9 L9' d9 R8 HL8
        go_wp2_with fail
        refine (HL9.out.read ⟨#[102]⟩ nmF (x := ([102], fileB es, fileB es)) (by simp [lookA]) (by have := HCL.out; dsimp only; omega) HRD.out HOK.out (by have := HEL.out; omega)).mono ?_
        rintro e w10 ⟨rv, k10, rfl, r10, L10, d10, _, _⟩
        rw [if_pos rfl] at r10
        have SM := hide (same_recs r10.isR (R9.out.hld d10 (fun x hx => hx)).isR (by have := HEL.out; omega))
        rw [decide_eq_true rfl] at SM
        have HB := hide L10.bel
        clear r10 L10 d10 R9 HL9
        go_wp2_with (go_at_call 19; refine SM.out.mono ?_; rintro e w11 ⟨rfl, k11⟩; have K11 := hide k11; clear k11)
        go_ret
        exact ⟨rfl, HB.out.trans ((K11.out.below (Nat.le_refl _) (by simp)).mono HB.out.size)⟩
      · -- a front
        refine (HL5.out.write ⟨#[102]⟩ nmF (l := es) (by have := HEL.out; simp only [armS]; omega) R5.out.isR (fun _ x hx => hx) eW).mono ?_
        rintro e w6 ⟨rfl, L7, d7⟩
        have R6 := hide (R5.out.hld d7 (fun x hx => hx))
        have HL6 := hide L7
        have DN := hide L7.down
        simp only [downS] at DN
        obtain ⟨rs, er, hrd, hrok, hrl, hcase⟩ := front_reads HOK.out j
        have HRD := hide (And.intro hrd hrok)
        have HCS := hide hcase
        have HTL : Hid (((fileB es).take j).length ≤ 1000000000) := by show _ ≤ _; have := HCL.out; rw [List.length_take]; omega
        have hrl2 : rs.length ≤ 3000 := by have := HCL.out; omega
        generalize (fileB es).take j = T at HRD HTL HL6
        clear L7 d7 R5 HL5 eW hrd hrok hcase hrl
        go_wp2_with (go_at_call 30; refine DN.out.mono ?_; rintro e w7 ⟨rfl, rfl⟩)
        refine (HL6.out.arm 0 (by omega) _ [] (IsK.nil _) (by simp) (Nat.zero_le _) (arm_down _ _ _)).mono ?_
        rintro e w8 ⟨rfl, L8, d8⟩
        have R8 := hide (R6.out.hld d8 (fun x hx => hx))
        have HL8 := hide L8
        clear L8 d8 R6 HL6 DN
        go_wp2_with fail
        refine HL8.out.restart.mono ?_
        rintro e w9 ⟨rfl, L9, d9⟩
        have L9' : Lw w w9 p ([([102], T, T)], upS 1000 (sec T.length) k6) (Ytdhajmgpakconaa.own (.slice va n vcap)) := L9
        have R9 := hide (R8.out.hld d9 (fun x hx => hx))
        have HL9 := hide L9'
        clear L9 L9' d9 R8 HL8
        go_wp2_with fail
        refine (HL9.out.read ⟨#[102]⟩ nmF (x := ([102], T, T)) (by simp [lookA]) HTL.out HRD.out.1 HRD.out.2 (by have := HEL.out; omega)).mono ?_
        rintro e w10 ⟨rv, k10, rfl, r10, L10, d10, _, _⟩
        rcases HCS.out with ⟨rfl, hrt, hrn⟩ | rfl
        · rw [if_pos rfl] at r10
          obtain ⟨ra, rcap, rfl, _⟩ := r10.isR.form
          obtain ⟨m, hm⟩ : ∃ m, m = rs.length := ⟨_, rfl⟩
          have hmn : m ≤ n := by have := HN.out; omega
          have hmn' : (m : Int) ≤ (n : Int) := by omega
          have hmc : (m : Int) ≤ (vcap : Int) := by omega
          have RT := ((R9.out.hld d10 (fun x hx => hx)).isR).take m (by have := HN.out; omega)
          have SM := same_recs r10.isR RT (by omega)
          rw [decide_eq_true (by rw [hm]; exact hrt), ← hm] at SM
          have HSM := hide SM
          have HB := hide L10.bel
          rw [← hm]
          clear r10 L10 d10 R9 HL9 RT SM hm hrt hrn hrl2
          go_wp2_with (go_at_call 19; refine HSM.out.mono ?_; rintro e w11 ⟨rfl, k11⟩; have K11 := hide k11; clear k11)
          go_ret
          exact ⟨rfl, HB.out.trans ((K11.out.below (Nat.le_refl _) (by simp)).mono HB.out.size)⟩
        · rw [if_neg (by omega)] at r10
          obtain ⟨ra, rcap, rfl, _⟩ := r10.isR.form
          have HB := hide L10.bel
          clear r10 L10 d10 R9 HL9
          simp only [List.length_nil]
          go_wp2
          go_ret
          exact ⟨rfl, HB.out⟩
      · -- nothing
        refine (HL5.out.write ⟨#[102]⟩ nmF (l := es) (by have := HEL.out; simp only [armS]; omega) R5.out.isR (fun _ x hx => hx) eW).mono ?_
        rintro e w6 ⟨rfl, L7, d7⟩
        have HL6 := hide L7
        have DN := hide L7.down
        simp only [downS] at DN
        clear L7 d7 R5 HL5 eW
        go_wp2_with (go_at_call 30; refine DN.out.mono ?_; rintro e w7 ⟨rfl, rfl⟩)
        refine (HL6.out.arm 0 (by omega) _ [] (IsK.nil _) (by simp) (Nat.zero_le _) (arm_down _ _ _)).mono ?_
        rintro e w8 ⟨rfl, L8, d8⟩
        have HL8 := hide L8
        clear L8 d8 HL6 DN
        go_wp2_with fail
        refine HL8.out.restart.mono ?_
        rintro e w9 ⟨rfl, L9, d9⟩
        have L9' : Lw w w9 p ([], upS 1000 0 1) (Ytdhajmgpakconaa.own (.slice va n vcap)) := L9
        have HL9 := hide L9'
        clear L9 L9' d9 HL8
        go_wp2_with fail
        refine (HL9.out.read_no ⟨#[102]⟩ nmF (by simp [lookA]) (by omega)).mono ?_
        rintro e w10 ⟨rfl, L10, d10⟩
        have HB := hide L10.bel
        clear L10 d10 HL9
        go_wp2
        go_ret
        exact ⟨rfl, HB.out⟩

/-! ### The row's step -/
set_option maxRecDepth 100000 in
theorem lifted (os : Os) (started : os.Started) (H : Type) (enc : TypeId × Value → H) :
    ReturnsInHanded {} Try.checked os 7 .any (Rows.recordDownSpec.pre6 enc Try.prog Try.f7 Rows.recordDownRow.domain false) (Rows.recordDownSpec.post enc Try.prog Try.f7 false true false false) := by
  refine returnsInHanded_of_change (C := Try.checked) own started (by kernel_rfl) Try.func7
    (ChangeSpec.witness6 (enc := enc) (C := Try.checked) false ⟨#[], #[.slice none 0 0, .int .i64 0, .int .i64 0], []⟩ 8 (by kernel_rfl) (by kernel_rfl) (by kernel_rfl) (by kernel_rfl)) ?_
  intro W base args ds gs before hval0 hW hcnd _
  have hval : ∀ (j : Nat) t v, Try.f7.params[j]? = some t → args[j]? = some v → Value.okWide Try.prog W .any base t v := hval0
  have hW' := hW
  obtain ⟨p, q, hA0, hV, rfl, hfz, hnd⟩ := hW
  have hA : DataW.TrodAll enc Try.prog W 0 (fun _ => true) true Try.f7.params.toList args.toList ds p := hA0
  rw [Try.params7] at hA hval
  obtain ⟨v0, vs0, d0, ds0, p0, q0, hargs, rfl, rfl, h0, r0⟩ := trodAll_cons hA
  obtain ⟨v1, vs1, d1, ds1, p1, q1, rfl, rfl, rfl, h1, r1⟩ := trodAll_cons r0
  obtain ⟨v2, vs2, d2, ds2, p2, q2, rfl, rfl, rfl, h2, r2⟩ := trodAll_cons r1
  obtain ⟨rfl, rfl, rfl⟩ := trodAll_nil r2
  obtain rfl : args = #[v0, v1, v2] := by cases args; simp_all
  obtain ⟨rfl, rfl⟩ := trodVars_none hV
  obtain ⟨a0, len0, cap0, rfl⟩ := okWide_slice Try.underlying22 (hval 0 22 v0 rfl rfl)
  have k0 := h0
  have lt0 : ∀ x ∈ p0, x.block < W.heap.size := by obtain ⟨m, hm⟩ := k0; exact DataW.trod_lt m _ _ _ hm
  obtain ⟨es0, i0, l0, m0⟩ : ∃ es, IsR W (.slice a0 len0 cap0) es ∧ es.length = len0 ∧ len0 ≤ maxLen := by
    obtain ⟨fuel, hf⟩ := h0
    obtain ⟨a, len, cap, es, hcs, h1, h2, h3⟩ := recsIn hf
    simp [Value.cells] at hcs
    obtain ⟨rfl, rfl, rfl⟩ := hcs
    exact ⟨es, h1, h2, h3⟩
  obtain ⟨a1, rfl, rfl, rfl, w1⟩ := open_int Try.underlying3 (hval 1 3 v1 rfl rfl) h1
  obtain ⟨a2, rfl, rfl, rfl, w2⟩ := open_int Try.underlying3 (hval 2 3 v2 rfl rfl) h2
  clear hA0 hval0
  refine (walk a0 len0 cap0 es0 a1 a2 W i0 l0 m0 w1 w2).mono fun e W' ⟨he, bel⟩ => ?_
  subst he
  exact ⟨_, rfl, _, _, _, [], _, [], hW', trodAll_mk1 (shut_bool Try.underlying4 _), (trodAll_cons_mk (Below.trod laidOut (by kernel_rfl) (of_decide_eq_true (by kernel_rfl)) k0 bel lt0) (trodAll_cons_mk (shut_int Try.underlying3 w1) (trodAll_cons_mk (shut_int Try.underlying3 w2) trodAll_mk0))), rfl, bel.frame _, fun h => by cases h⟩

theorem over : Rows.recordDownRow.holds Try.pinned (OpenSpec.ofChange Rows.recordDownSpec) :=
  OpenClaim.holds_of_wide 7 Try.f7 rfl rfl rfl rfl rfl rfl rfl ⟨rfl, rfl, rfl, rfl, rfl⟩ rfl rfl rfl rfl rfl (by kernel_rfl) Try.func7 (by kernel_rfl)
    (of_decide_eq_true (by kernel_rfl)) (by unfold Func.isWrapper; first | (rw [if_pos (by decide +kernel)]; kernel_rfl) | (rw [if_neg (by decide +kernel)]; exact ⟨rfl, rfl⟩))
    (fun os started H enc _ => lifted os started H enc)

/-- The statement. -/
theorem proved : Rows.RecordDownSaid := over
#print axioms proved
end Go.Proofs.Ytdhajmgpakconaa.recordDown
