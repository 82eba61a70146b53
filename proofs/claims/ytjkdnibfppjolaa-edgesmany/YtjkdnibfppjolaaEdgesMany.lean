/-
  Proved: for every number of 32 bits, EdgesMany returns true (a graph may have as many vertices as the greatest number; not one more). No condition.
-/
import Derived.Test.YtjkdnibfppjolaaShown2
import Derived.WalkKit
import Derived.ProofKit
import Derived.OpenShut
import Derived.ShutString
namespace Go.Proofs.Ytjkdnibfppjolaa.edgesMany
open Go.ChangeShapes Go.WideShapes Go.ChangeAt Go.RowKit
open Go.ChangeMaps (open_string shut_string)
set_option linter.unusedVariables false      -- a walk need not use every 'w<i>' (that an integer argument fits its kind)

theorem own : ownKnob Try.prog.godebug = none := by kernel_rfl

theorem num4 (a : Int) (h0 : 0 ≤ a) (h1 : a ≤ 4294967295) : numAt [a % 256, a / 256 % 256, a / 65536 % 256, a / 16777216] 0 = a := by
  simp only [numAt, List.drop_zero, List.take_succ_cons, List.take_zero, valB]
  omega
theorem dec4 (a : Int) (h0 : 0 ≤ a) (h1 : a ≤ 4294967295) : dec [a % 256, a / 256 % 256, a / 65536 % 256, a / 16777216] = if 1048576 < a then (0, [], 0, 1) else (a, [], 0, 0) := by
  unfold dec
  rw [num4 a h0 h1, if_neg (by simp)]
  by_cases h : 1048576 < a
  · rw [if_pos h, if_pos h]
  · rw [if_neg h, if_neg h, if_neg (by simp)]
    simp [edgesOf, badAt]

/-! ### The walk -/
set_option maxHeartbeats 1000000 in
theorem walk (a0 : Int) (w0 : (Lit.int .u32 a0).wf = true) (w : World) :
    Calls Try.prog 10 #[.int .u32 a0] w fun e w' => e = .returned (.bool true) ∧ Below w.heap.size w w' := by
  obtain ⟨h0, h1⟩ := bounds_u32 w0
  clear w0
  go_enter Try.func10, Try.ntmps10
  go_wp2_with fail
  refine (shown_any _).mono ?_
  rintro e w1 ⟨rfl, B1⟩
  go_wp2_with fail
  have D1 := decode_any _ _ _ (IsB.new w1 [a0 % 256, a0 / 256 % 256, a0 / 65536 % 256, a0 / 16777216] (0, 0) (by simp; omega)) (by simp)
  rw [dec4 a0 h0 h1] at D1
  by_cases h : 1048576 < a0
  · rw [if_pos h] at D1
    refine D1.mono ?_
    clear D1
    rintro e w2 ⟨v, rfl, i2, b2⟩
    obtain ⟨a, cap, rfl, _⟩ := i2.form
    have B2 := below_after B1 b2
    go_wp2
    go_ret
    exact ⟨rfl, B2.alloc B2.size _⟩
  · rw [if_neg h] at D1
    refine D1.mono ?_
    clear D1
    rintro e w2 ⟨v, rfl, i2, b2⟩
    obtain ⟨a, cap, rfl, _⟩ := i2.form
    have B2 := below_after B1 b2
    go_wp2
    go_ret
    exact ⟨by simp, B2.alloc B2.size _⟩

/-! ### THE ROW's STEP: WRITTEN OUT: LEAVE IT -/
set_option maxRecDepth 100000 in
theorem lifted (os : Os) (started : os.Started) (H : Type) (enc : TypeId × Value → H) :
    ReturnsInHanded {} Try.checked os 10 .any (Rows.edgesManySpec.pre6 enc Try.prog Try.f10 Rows.edgesManyRow.domain false) (Rows.edgesManySpec.post enc Try.prog Try.f10 false true false false) := by
  refine returnsInHanded_of_change (C := Try.checked) own started (by kernel_rfl) Try.func10
    (ChangeSpec.witness6 (enc := enc) (C := Try.checked) false ⟨#[], #[.int .u32 0], []⟩ 8 (by kernel_rfl) (by kernel_rfl) (by kernel_rfl) (by kernel_rfl)) ?_
  intro W base args ds gs before hval0 hW hcnd _
  have hval : ∀ (j : Nat) t v, Try.f10.params[j]? = some t → args[j]? = some v → Value.okWide Try.prog W .any base t v := hval0
  have hW' := hW
  obtain ⟨p, q, hA0, hV, rfl, hfz, hnd⟩ := hW
  have hA : DataW.TrodAll enc Try.prog W 0 (fun _ => true) true Try.f10.params.toList args.toList ds p := hA0
  rw [Try.params10] at hA hval
  obtain ⟨v0, vs0, d0, ds0, p0, q0, hargs, rfl, rfl, h0, r0⟩ := trodAll_cons hA
  obtain ⟨rfl, rfl, rfl⟩ := trodAll_nil r0
  obtain rfl : args = #[v0] := by cases args; simp_all
  obtain ⟨rfl, rfl⟩ := trodVars_none hV
  obtain ⟨a0, rfl, rfl, rfl, w0⟩ := open_int Try.underlying37 (hval 0 37 v0 rfl rfl) h0
  clear hA0 hval0
  simp only [List.append_nil] at hW'
  refine (walk a0 w0 W).mono fun e W' ⟨he, hg⟩ => ?_
  subst he
  exact ⟨_, rfl, _, _, _, [], [], [], hW', trodAll_mk1 (shut_bool Try.underlying4 _), (trodAll_cons_mk (shut_int Try.underlying37 w0) trodAll_mk0), rfl, hg.frame _, fun h => by cases h⟩

theorem over : Rows.edgesManyRow.holds Try.pinned (OpenSpec.ofChange Rows.edgesManySpec) :=
  OpenClaim.holds_of_wide 10 Try.f10 rfl rfl rfl rfl rfl rfl rfl ⟨rfl, rfl, rfl, rfl, rfl⟩ rfl rfl rfl rfl rfl (by kernel_rfl) Try.func10 (by kernel_rfl)
    (of_decide_eq_true (by kernel_rfl)) (by unfold Func.isWrapper; first | (rw [if_pos (by decide +kernel)]; kernel_rfl) | (rw [if_neg (by decide +kernel)]; exact ⟨rfl, rfl⟩))
    (fun os started H enc _ => lifted os started H enc)

/-- ████ THE STATEMENT ████ -/
theorem proved : Rows.EdgesManySaid :=
  over
#print axioms proved
end Go.Proofs.Ytjkdnibfppjolaa.edgesMany
