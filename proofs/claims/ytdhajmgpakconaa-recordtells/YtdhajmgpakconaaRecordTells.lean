/-
  Proved: for all slices of records, RecordTells returns true and leaves the slice as it was (a file of records has the bytes that the document says, and they last). No condition.
-/
import Derived.WalkKit
import Derived.ProofKit
import Derived.OpenShut
import Derived.ShutString
import Derived.Test.YtdhajmgpakconaaGM
namespace Go.Proofs.Ytdhajmgpakconaa.recordTells
open Go.ChangeShapes Go.WideShapes Go.ChangeAt Go.RowKit
open Go.ChangeMaps (open_string shut_string)
set_option linter.unusedVariables false

theorem own : ownKnob Try.prog.godebug = none := by kernel_rfl
theorem laidOut : laidOutB Try.prog = true := by kernel_rfl


/-! ### The walk -/
set_option maxRecDepth 100000 in
set_option maxHeartbeats 4000000 in
theorem walk (a0 : Option Addr) (len0 cap0 : Nat) (es0 : List Rc) (w : World) (i0 : IsR w (.slice a0 len0 cap0) es0) (l0 : es0.length = len0) (m0 : len0 ≤ maxLen) :
    Calls Try.prog 3 #[.slice a0 len0 cap0] w fun e w' => e = .returned (.bool true) ∧ Below w.heap.size w w' := by
  have SH := hide (shown9_any w)
  have HI := hide i0
  have hln : es0.length ≤ 9223372036854775807 := by unfold maxLen at m0; omega
  have HLN := hide hln
  clear i0 l0 m0 hln
  go_enter Try.func3, Try.ntmps3
  go_wp2_with fail
  refine SH.out.mono ?_
  rintro e w1 ⟨rfl, b1⟩
  have FW := hide (few9_any (HI.out.below b1) HLN.out)
  have B1 := hide b1
  clear b1
  go_wp2_with fail
  refine FW.out.mono ?_
  rintro e w2 ⟨v, rfl, r2, b2, n2⟩
  obtain ⟨es, hes⟩ : ∃ es, es = es0.take 160 := ⟨_, rfl⟩
  have hel : es.length ≤ 160 := by rw [hes, List.length_take]; omega
  rw [← hes] at r2
  have B2 := hide (below_then B1.out b2)
  have R2 := hide r2
  have HEL := hide hel
  have hok := r2.2
  obtain ⟨c, hc⟩ : ∃ c, c = fileB es := ⟨_, rfl⟩
  have hcl : c.length ≤ 2584 := by rw [hc]; exact fileB_len160 hel
  have HCL := hide hcl
  have HC := hide hc
  have HRD : Hid (readB false c = (es, 0)) := by show _ = _; rw [hc]; exact readB_file es hok
  have HOK := hide hok
  have hsec := sec_small hcl
  have HSEC : Hid (sec c.length ≤ 200) := by show _ ≤ _; omega
  clear hes hel r2 b2 hok hc hcl hsec SH FW B1
  go_wp2_with fail
  refine (Lw.new (w0 := w) (w := w2) (hs := Ytdhajmgpakconaa.own v) 1000 (by omega) B2.out (fun x hx => R2.out.low x hx)).mono ?_
  rintro e w3 ⟨p, rfl, L3, b3⟩
  have HL3 := hide L3
  have R3 := hide (R2.out.hld (Hld.below b3) (hs := Ytdhajmgpakconaa.own v) (fun x hx => hx))
  clear L3 b3 R2
  go_wp2_with fail
  refine (HL3.out.write_ok ⟨#[102]⟩ nmF rfl rfl (by omega) (by have := HSEC.out; rw [← HC.out]; omega) (by have := HEL.out; omega) R3.out.isR (fun _ x hx => hx)).mono ?_
  rintro e w4 ⟨k4, rfl, L4, d4, hk4, hk4'⟩
  rw [← HC.out, Int.zero_add] at L4
  have L4' : Lw w w4 p ([([102], c, c)], upS 1000 (sec c.length) k4) (Ytdhajmgpakconaa.own v) := L4
  have HL4 := hide L4'
  have R4 := hide (R3.out.hld d4 (fun x hx => hx))
  have hkb : k4 ≤ 200 := by have := HEL.out; omega
  clear L4 L4' d4 R3 HL3 hk4'
  go_wp2_with fail
  refine (HL4.out.crash (by simp only [upS]; omega) (crash_synced [] [102] c 1000 k4)).mono ?_
  rintro e w5 ⟨rfl, L5, d5⟩
  have HL5 := hide L5
  have R5 := hide (R4.out.hld d5 (fun x hx => hx))
  clear L5 d5 R4 HL4
  go_wp2_with fail
  refine HL5.out.restart.mono ?_
  rintro e w6 ⟨rfl, L6, d6⟩
  have L6' : Lw w w6 p ([([102], c, c)], upS 1000 (sec c.length) k4) (Ytdhajmgpakconaa.own v) := L6
  have HL6 := hide L6'
  have R6 := hide (R5.out.hld d6 (fun x hx => hx))
  clear L6 L6' d6 R5 HL5
  go_wp2_with fail
  refine (refBytes_any R6.out.isR (by have := HEL.out; omega)).mono ?_
  rintro e w7 ⟨u, rfl, t7, b7, n7⟩
  rw [← HC.out] at t7
  have HL7 := hide (HL6.out.hold (hs' := Ytdhajmgpakconaa.own u) b7 (fun x hx => ⟨n7 x hx, t7.lt x hx⟩))
  have R7 := hide (R6.out.hld (Hld.below b7) (hs := Ytdhajmgpakconaa.own v) (fun x hx => hx))
  obtain ⟨ua, ucap, rfl, _⟩ := t7.isB.form
  have T7 := hide t7
  clear t7 b7 n7 R6 HL6
  obtain ⟨n, hn⟩ : ∃ n, n = c.length := ⟨_, rfl⟩
  have HN := hide hn
  rw [← hn] at HL7 T7 ⊢
  clear hn
  go_wp2_with fail
  refine (HL7.out.size (by simp only [upS]; omega) ⟨#[102]⟩ nmF (m := (n : Int)) (k := 0) (begin_up _ _ _ _) (by have := HN.out; simp [sizeA, errA, upS, lookA, this])).mono ?_
  rintro e w8 ⟨rfl, L8, d8⟩
  have HL8 := hide L8
  have R8 := hide (R7.out.hld d8 (fun x hx => by simp [hx]))
  have T8 := hide (T7.out.hld d8 (fun x hx => by simp [hx]))
  clear L8 d8 R7 T7 HL7
  go_wp2_with fail
  refine (HL8.out.readAll (by omega) ⟨#[102]⟩ nmF (x := ([102], c, c)) (by simp [lookA]) n HN.out).mono ?_
  rintro e w9 ⟨b, rfl, q9, L9, d9⟩
  have HL9 := hide L9
  have R9 := hide (R8.out.hld d9 (fun x hx => by simp [hx]))
  have T9 := hide (T8.out.hld d9 (fun x hx => by simp [hx]))
  have Q9 := hide q9
  clear L9 d9 R8 T8 HL8 q9
  go_wp2_with fail
  refine (HL9.out.read ⟨#[102]⟩ nmF (x := ([102], c, c)) (by simp [lookA]) (by have := HCL.out; dsimp only; omega) HRD.out HOK.out (by have := HEL.out; omega)).mono ?_
  rintro e w10 ⟨rv, k10, rfl, r10, L10, d10, _, _⟩
  rw [if_pos rfl] at r10
  have R10 := hide (R9.out.hld d10 (fun x hx => by simp [hx]))
  have T10 := T9.out.hld d10 (fun x hx => by simp [hx])
  have Q10 := Q9.out.hld d10 (fun x hx => by simp [hx])
  have cv1 := conv_isB T10.isB
  have cv2 := conv_isB Q10.isB
  have SM := hide (same_recs r10.isR R10.out.isR (by have := HEL.out; omega))
  rw [decide_eq_true rfl] at SM
  have HB := hide L10.bel
  clear r10 L10 d10 T10 Q10 R9 T9 Q9 HL9
  go_wp2_with (go_at_call 19; refine SM.out.mono ?_; rintro e w11 ⟨rfl, k11⟩; have K11 := hide k11; clear k11)
  go_ret
  exact ⟨rfl, HB.out.trans ((K11.out.below (Nat.le_refl _) (by simp)).mono HB.out.size)⟩

/-! ### The row's step -/
set_option maxRecDepth 100000 in
theorem lifted (os : Os) (started : os.Started) (H : Type) (enc : TypeId × Value → H) :
    ReturnsInHanded {} Try.checked os 3 .any (Rows.recordTellsSpec.pre6 enc Try.prog Try.f3 Rows.recordTellsRow.domain false) (Rows.recordTellsSpec.post enc Try.prog Try.f3 false true false false) := by
  refine returnsInHanded_of_change (C := Try.checked) own started (by kernel_rfl) Try.func3
    (ChangeSpec.witness6 (enc := enc) (C := Try.checked) false ⟨#[], #[.slice none 0 0], []⟩ 8 (by kernel_rfl) (by kernel_rfl) (by kernel_rfl) (by kernel_rfl)) ?_
  intro W base args ds gs before hval0 hW hcnd _
  have hval : ∀ (j : Nat) t v, Try.f3.params[j]? = some t → args[j]? = some v → Value.okWide Try.prog W .any base t v := hval0
  have hW' := hW
  obtain ⟨p, q, hA0, hV, rfl, hfz, hnd⟩ := hW
  have hA : DataW.TrodAll enc Try.prog W 0 (fun _ => true) true Try.f3.params.toList args.toList ds p := hA0
  rw [Try.params3] at hA hval
  obtain ⟨v0, vs0, d0, ds0, p0, q0, hargs, rfl, rfl, h0, r0⟩ := trodAll_cons hA
  obtain ⟨rfl, rfl, rfl⟩ := trodAll_nil r0
  obtain rfl : args = #[v0] := by cases args; simp_all
  obtain ⟨rfl, rfl⟩ := trodVars_none hV
  obtain ⟨a0, len0, cap0, rfl⟩ := okWide_slice Try.underlying22 (hval 0 22 v0 rfl rfl)
  have k0 := h0
  have lt0 : ∀ x ∈ p0, x.block < W.heap.size := by obtain ⟨m, hm⟩ := k0; exact DataW.trod_lt m _ _ _ hm
  obtain ⟨es0, i0, l0, m0⟩ : ∃ es, IsR W (.slice a0 len0 cap0) es ∧ es.length = len0 ∧ len0 ≤ maxLen := by
    obtain ⟨fuel, hf⟩ := h0
    obtain ⟨a, len, cap, es, hcs, h1, h2, h3⟩ := recsIn hf
    simp [Value.cells] at hcs
    obtain ⟨rfl, rfl, rfl⟩ := hcs
    exact ⟨es, h1, h2, h3⟩
  clear hA0 hval0
  refine (walk a0 len0 cap0 es0 W i0 l0 m0).mono fun e W' ⟨he, bel⟩ => ?_
  subst he
  exact ⟨_, rfl, _, _, _, [], _, [], hW', trodAll_mk1 (shut_bool Try.underlying4 _), (trodAll_cons_mk (Below.trod laidOut (by kernel_rfl) (of_decide_eq_true (by kernel_rfl)) k0 bel lt0) trodAll_mk0), rfl, bel.frame _, fun h => by cases h⟩

theorem over : Rows.recordTellsRow.holds Try.pinned (OpenSpec.ofChange Rows.recordTellsSpec) :=
  OpenClaim.holds_of_wide 3 Try.f3 rfl rfl rfl rfl rfl rfl rfl ⟨rfl, rfl, rfl, rfl, rfl⟩ rfl rfl rfl rfl rfl (by kernel_rfl) Try.func3 (by kernel_rfl)
    (of_decide_eq_true (by kernel_rfl)) (by unfold Func.isWrapper; first | (rw [if_pos (by decide +kernel)]; kernel_rfl) | (rw [if_neg (by decide +kernel)]; exact ⟨rfl, rfl⟩))
    (fun os started H enc _ => lifted os started H enc)

/-- The statement. -/
theorem proved : Rows.RecordTellsSaid := over
#print axioms proved
end Go.Proofs.Ytdhajmgpakconaa.recordTells
