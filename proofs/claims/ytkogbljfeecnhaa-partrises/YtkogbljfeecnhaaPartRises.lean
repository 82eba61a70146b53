/-
  Proved: for every four numbers of 64 bits, PartRises returns true (a greater vertex is in no lesser interval). No condition.
-/
import Derived.Deep.QuietTactic
import Derived.BigQuiet
import Derived.WalkKit
import Derived.ProofKit
import Derived.OpenShut
import Derived.ShutString
import Derived.Test.YtkogbljfeecnhaaZPart
namespace Go.Proofs.Ytkogbljfeecnhaa.partRises
open Go.ChangeShapes Go.WideShapes Go.ChangeAt Go.RowKit
open Go.ChangeMaps (open_string shut_string)
set_option linter.unusedVariables false

theorem own : ownKnob Try.prog.godebug = none := by kernel_rfl
theorem laidOut : laidOutB Try.prog = true := by kernel_rfl


/-! ### The walk -/
set_option maxHeartbeats 4000000 in
theorem walk (a0 : Int) (a1 : Int) (a2 : Int) (a3 : Int) (w : World) (w0 : (Lit.int .i64 a0).wf = true) (w1 : (Lit.int .i64 a1).wf = true) (w2 : (Lit.int .i64 a2).wf = true) (w3 : (Lit.int .i64 a3).wf = true) :
    Calls Try.prog 7 #[.int .i64 a0, .int .i64 a1, .int .i64 a2, .int .i64 a3] w fun e w' => e = .returned (.bool true) ∧ Below w.heap.size w w' := by
  obtain ⟨b0, b1⟩ := bounds_i64 w0
  obtain ⟨b2, b3⟩ := bounds_i64 w1
  obtain ⟨b4, b5⟩ := bounds_i64 w2
  obtain ⟨b6, b7⟩ := bounds_i64 w3
  clear w0 w1 w2 w3
  have hb0 := and1048575 a0
  have hb1 := and65535 a1
  have hb2 := and16777215 a2
  have hb3 := and16777215 a3
  obtain ⟨n, hn⟩ : ∃ n : Nat, (n : Int) = 1 + a0 % 1048576 := ⟨(1 + a0 % 1048576).toNat, by omega⟩
  have hn1 : 1 ≤ n := by omega
  have hn2 : n ≤ 1048576 := by omega
  obtain ⟨s, hs⟩ : ∃ s : Nat, (s : Int) = 1 + a1 % 4096 := ⟨(1 + a1 % 4096).toNat, by omega⟩
  have hs1 : 1 ≤ s := by omega
  have hs2 : s ≤ 4096 := by omega
  obtain ⟨a, ha⟩ : ∃ v : Nat, (v : Int) = a2 % 16777216 % n := ⟨(a2 % 16777216 % n).toNat, by have := Int.emod_nonneg (a2 % 16777216) (show (n : Int) ≠ 0 by omega); omega⟩
  have ha1 : a < n := by have := Int.emod_lt_of_pos (a2 % 16777216) (show (0 : Int) < n by omega); omega
  obtain ⟨b, hb⟩ : ∃ v : Nat, (v : Int) = a3 % 16777216 % n := ⟨(a3 % 16777216 % n).toNat, by have := Int.emod_nonneg (a3 % 16777216) (show (n : Int) ≠ 0 by omega); omega⟩
  have hb1' : b < n := by have := Int.emod_lt_of_pos (a3 % 16777216) (show (0 : Int) < n by omega); omega
  have hn3 : 1 + a0 % 1048576 = (n : Int) := hn.symm
  have hs3 : 1 + a1 % 4096 = (s : Int) := hs.symm
  have ha3 : (a2 % 16777216).tmod n = (a : Int) := by rw [Int.tmod_eq_emod_of_nonneg (by omega)]; exact ha.symm
  have hb4 : (a3 % 16777216).tmod n = (b : Int) := by rw [Int.tmod_eq_emod_of_nonneg (by omega)]; exact hb.symm
  have SH := hide (shown_any w)
  clear hn ha hb hs
  go_enter Try.func7, Try.ntmps7
  go_wp2_with fail
  refine SH.out.mono ?_
  rintro e w1 ⟨rfl, b1'⟩
  have B1 := hide b1'
  clear b1'
  go_wp2_with fail
  case inr =>
    refine (of_go n s a hn2 hs1 hs2 ha1 w1).mono ?_
    rintro e w2 ⟨rfl, rfl⟩
    go_wp2_with fail
    case inr =>
      refine (of_go n s a hn2 hs1 hs2 ha1 w2).mono ?_
      rintro e w3 ⟨rfl, rfl⟩
      have hle : (ofN n s a : Int) ≤ (ofN n s a : Int) := Int.ofNat_le.2 (ofN_mono (by omega))
      have hlt := ofN_lt ha1 hs1
      clear hb0 hb1 hb2 hb3 hn3 hs3 ha3 hb4
      go_wp2
      go_ret
      exact ⟨rfl, B1.out⟩
    case inl =>
      refine (of_go n s b hn2 hs1 hs2 hb1' w2).mono ?_
      rintro e w3 ⟨rfl, rfl⟩
      have hle : (ofN n s a : Int) ≤ (ofN n s b : Int) := Int.ofNat_le.2 (ofN_mono (by omega))
      have hlt := ofN_lt hb1' hs1
      clear hb0 hb1 hb2 hb3 hn3 hs3 ha3 hb4
      go_wp2
      go_ret
      exact ⟨rfl, B1.out⟩
  case inl =>
    refine (of_go n s b hn2 hs1 hs2 hb1' w1).mono ?_
    rintro e w2 ⟨rfl, rfl⟩
    go_wp2_with fail
    case inr =>
      refine (of_go n s a hn2 hs1 hs2 ha1 w2).mono ?_
      rintro e w3 ⟨rfl, rfl⟩
      have hle : (ofN n s b : Int) ≤ (ofN n s a : Int) := Int.ofNat_le.2 (ofN_mono (by omega))
      have hlt := ofN_lt ha1 hs1
      clear hb0 hb1 hb2 hb3 hn3 hs3 ha3 hb4
      go_wp2
      go_ret
      exact ⟨rfl, B1.out⟩

/-! ### The row's step -/
set_option maxRecDepth 100000 in
theorem lifted (os : Os) (started : os.Started) (H : Type) (enc : TypeId × Value → H) :
    ReturnsInHanded {} Try.checked os 7 .any (Rows.partRisesSpec.pre6 enc Try.prog Try.f7 Rows.partRisesRow.domain false) (Rows.partRisesSpec.post enc Try.prog Try.f7 false true false false) := by
  refine returnsInHanded_of_change (C := Try.checked) own started (by kernel_rfl) Try.func7
    (ChangeSpec.witness6 (enc := enc) (C := Try.checked) false ⟨#[], #[.int .i64 0, .int .i64 0, .int .i64 0, .int .i64 0], []⟩ 8 (by kernel_rfl) (by kernel_rfl) (by kernel_rfl) (by kernel_rfl)) ?_
  intro W base args ds gs before hval0 hW hcnd _
  have hval : ∀ (j : Nat) t v, Try.f7.params[j]? = some t → args[j]? = some v → Value.okWide Try.prog W .any base t v := hval0
  have hW' := hW
  obtain ⟨p, q, hA0, hV, rfl, hfz, hnd⟩ := hW
  have hA : DataW.TrodAll enc Try.prog W 0 (fun _ => true) true Try.f7.params.toList args.toList ds p := hA0
  rw [Try.params7] at hA hval
  obtain ⟨v0, vs0, d0, ds0, p0, q0, hargs, rfl, rfl, h0, r0⟩ := trodAll_cons hA
  obtain ⟨v1, vs1, d1, ds1, p1, q1, rfl, rfl, rfl, h1, r1⟩ := trodAll_cons r0
  obtain ⟨v2, vs2, d2, ds2, p2, q2, rfl, rfl, rfl, h2, r2⟩ := trodAll_cons r1
  obtain ⟨v3, vs3, d3, ds3, p3, q3, rfl, rfl, rfl, h3, r3⟩ := trodAll_cons r2
  obtain ⟨rfl, rfl, rfl⟩ := trodAll_nil r3
  obtain rfl : args = #[v0, v1, v2, v3] := by cases args; simp_all
  obtain ⟨rfl, rfl⟩ := trodVars_none hV
  obtain ⟨a0, rfl, rfl, rfl, w0⟩ := open_int Try.underlying3 (hval 0 3 v0 rfl rfl) h0
  obtain ⟨a1, rfl, rfl, rfl, w1⟩ := open_int Try.underlying3 (hval 1 3 v1 rfl rfl) h1
  obtain ⟨a2, rfl, rfl, rfl, w2⟩ := open_int Try.underlying3 (hval 2 3 v2 rfl rfl) h2
  obtain ⟨a3, rfl, rfl, rfl, w3⟩ := open_int Try.underlying3 (hval 3 3 v3 rfl rfl) h3
  clear hA0 hval0
  refine (walk a0 a1 a2 a3 W w0 w1 w2 w3).mono fun e W' ⟨he, bel⟩ => ?_
  subst he
  exact ⟨_, rfl, _, _, _, [], _, [], hW', trodAll_mk1 (shut_bool Try.underlying4 _), (trodAll_cons_mk (shut_int Try.underlying3 w0) (trodAll_cons_mk (shut_int Try.underlying3 w1) (trodAll_cons_mk (shut_int Try.underlying3 w2) (trodAll_cons_mk (shut_int Try.underlying3 w3) trodAll_mk0)))), rfl, bel.frame _, fun h => by cases h⟩

theorem over : Rows.partRisesRow.holds Try.pinned (OpenSpec.ofChange Rows.partRisesSpec) :=
  OpenClaim.holds_of_wide 7 Try.f7 rfl rfl rfl rfl rfl rfl rfl ⟨rfl, rfl, rfl, rfl, rfl⟩ rfl rfl rfl rfl rfl (by kernel_rfl) Try.func7 (by kernel_rfl)
    (of_decide_eq_true (by kernel_rfl)) (by unfold Func.isWrapper; first | (rw [if_pos (by decide +kernel)]; kernel_rfl) | (rw [if_neg (by decide +kernel)]; exact ⟨rfl, rfl⟩))
    (fun os started H enc _ => lifted os started H enc)

/-- The statement. -/
theorem proved : Rows.PartRisesSaid := over
#print axioms proved
end Go.Proofs.Ytkogbljfeecnhaa.partRises
