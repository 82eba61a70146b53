/-
  Proved: for any two numbers of 64 bits, OctetsOrder returns true (the one with more digits is the greater one; each has one digit for each seven bits). No condition.
-/
import Derived.Test.YtoneaaafdgllbaaNil
import Derived.WalkKit
import Derived.ProofKit
import Derived.OpenShut
import Derived.ShutString
namespace Go.Proofs.Ytoneaaafdgllbaa.octetsOrder
open Go.ChangeShapes Go.WideShapes Go.ChangeAt Go.RowKit
open Go.ChangeMaps (open_string shut_string)
set_option linter.unusedVariables false      -- a walk need not use every 'w<i>' (that an integer argument fits its kind)

theorem own : ownKnob Try.prog.godebug = none := by kernel_rfl


/-! ### The walk -/
set_option maxHeartbeats 1000000 in
theorem walk (a0 : Int) (a1 : Int) (w0 : (Lit.int .u64 a0).wf = true) (w1 : (Lit.int .u64 a1).wf = true) (w : World) :
    Calls Try.prog 10 #[.int .u64 a0, .int .u64 a1] w fun e w' => e = .returned (.bool true) ∧ Below w.heap.size w w' := by
  obtain ⟨ha0, ha1⟩ := bounds_u64 w0
  obtain ⟨hb0, hb1⟩ := bounds_u64 w1
  obtain ⟨xs, hxs⟩ : ∃ xs, xs = varB 9 a0 := ⟨_, rfl⟩
  obtain ⟨ys, hys⟩ : ∃ ys, ys = varB 9 a1 := ⟨_, rfl⟩
  have hm1 := varB_mono 9 a0 a1
  have hm2 := varB_mono 9 a1 a0
  rw [← hxs, ← hys] at hm1 hm2
  have hl1 := varB_length 9 a0
  rw [← hxs] at hl1
  have HX := hide hxs
  have PX := hide (putVar_nil a0 xs hxs)
  have PY := hide (putVar_nil a1 ys hys)
  clear hxs hys w0 w1
  have hlt1 : xs.length < ys.length → a0 < a1 := fun h => by
    by_cases h' : a1 ≤ a0
    · have := hm1 h'; omega
    · omega
  have hlt2 : ys.length < xs.length → a1 < a0 := fun h => by
    by_cases h' : a0 ≤ a1
    · have := hm2 h'; omega
    · omega
  have hcase : ((xs.length : Int) < ys.length ∧ a0 < a1) ∨ ((ys.length : Int) < xs.length ∧ a1 < a0) ∨ ((xs.length : Int) = ys.length) := by omega
  clear hm1 hm2 hlt1 hlt2
  rcases hcase with ⟨c1, c2⟩ | ⟨c1, c2⟩ | c1
  case' inl => have d1 : ¬ (ys.length : Int) < xs.length := by omega
  case' inr.inl => have d1 : ¬ (xs.length : Int) < ys.length := by omega
  case' inr.inr =>
    have d1 : ¬ (xs.length : Int) < ys.length := by omega
    have d2 : ¬ (ys.length : Int) < xs.length := by omega
    clear c1
  all_goals
    go_enter Try.func10, Try.ntmps10
    go_wp2_with fail
    refine (shown_any _).mono ?_
    rintro e w1 ⟨rfl, B1⟩
    go_wp2_with fail
    refine (PX.out w1 ha0 (by omega)).mono ?_
    rintro e w2 ⟨g2, cap2, rfl, o2, b2⟩
    have B2 := below_then B1 b2
    clear B1 b2 o2
    go_wp2_with fail
    refine (PY.out w2 hb0 (by omega)).mono ?_
    rintro e w3 ⟨g3, cap3, rfl, o3, b3⟩
    have B3 := below_then B2 b3
    clear B2 b3 o3
    go_wp2
    go_loop [0, 8] (fun a n => ∃ (f k : Nat) (m : Int), f ≤ 9 ∧ a = .int .u64 m ∧ n = .int .i64 k ∧ 0 ≤ m ∧ Hid (m < 2 * 128 ^ f) ∧ m < 18446744073709551616 ∧ k ≤ 10 - f ∧ Hid (k + (varB f m).length = xs.length + 1)) (fun a _ => (intOf a).toNat)
    case atStart => exact ⟨9, 1, a0, by omega, rfl, rfl, ha0, (show a0 < 2 * 128 ^ 9 by omega), by omega, by omega, (show 1 + (varB 9 a0).length = xs.length + 1 by rw [← HX.out]; omega)⟩
    case round =>
      obtain ⟨f, k, m, hf, rfl, rfl, hm0, HM, hm1, hk, HK⟩ := hrel
      by_cases h128 : 128 ≤ m
      · obtain ⟨f', rfl⟩ : ∃ f', f = f' + 1 := by
          cases f with
          | zero => have := HM.out; simp at this; omega
          | succ f' => exact ⟨f', rfl⟩
        go_wp2
        go_round
        case rel => exact ⟨f', k + 1, m / 128, by omega, rfl, by go_num, by omega, (by have := HM.out; rw [Int.pow_succ] at this; show _ < _; omega), by omega, by omega, (by have := HK.out; rw [varB_more f' m h128] at this; show _ = _; omega)⟩
        case measure => simp [intOf]; omega
      · have hkx : ((xs.length : Int) == (k : Int)) = true := by have := HK.out; rw [varB_one f m h128] at this; simp; omega
        go_wp2
        go_ret
        exact ⟨rfl, B3⟩

/-! ### THE ROW's STEP: WRITTEN OUT: LEAVE IT -/
set_option maxRecDepth 100000 in
theorem lifted (os : Os) (started : os.Started) (H : Type) (enc : TypeId × Value → H) :
    ReturnsInHanded {} Try.checked os 10 .any (Rows.octetsOrderSpec.pre6 enc Try.prog Try.f10 Rows.octetsOrderRow.domain false) (Rows.octetsOrderSpec.post enc Try.prog Try.f10 false true false false) := by
  refine returnsInHanded_of_change (C := Try.checked) own started (by kernel_rfl) Try.func10
    (ChangeSpec.witness6 (enc := enc) (C := Try.checked) false ⟨#[], #[.int .u64 0, .int .u64 0], []⟩ 8 (by kernel_rfl) (by kernel_rfl) (by kernel_rfl) (by kernel_rfl)) ?_
  intro W base args ds gs before hval0 hW hcnd _
  have hval : ∀ (j : Nat) t v, Try.f10.params[j]? = some t → args[j]? = some v → Value.okWide Try.prog W .any base t v := hval0
  have hW' := hW
  obtain ⟨p, q, hA0, hV, rfl, hfz, hnd⟩ := hW
  have hA : DataW.TrodAll enc Try.prog W 0 (fun _ => true) true Try.f10.params.toList args.toList ds p := hA0
  rw [Try.params10] at hA hval
  obtain ⟨v0, vs0, d0, ds0, p0, q0, hargs, rfl, rfl, h0, r0⟩ := trodAll_cons hA
  obtain ⟨v1, vs1, d1, ds1, p1, q1, rfl, rfl, rfl, h1, r1⟩ := trodAll_cons r0
  obtain ⟨rfl, rfl, rfl⟩ := trodAll_nil r1
  obtain rfl : args = #[v0, v1] := by cases args; simp_all
  obtain ⟨rfl, rfl⟩ := trodVars_none hV
  obtain ⟨a0, rfl, rfl, rfl, w0⟩ := open_int Try.underlying23 (hval 0 23 v0 rfl rfl) h0
  obtain ⟨a1, rfl, rfl, rfl, w1⟩ := open_int Try.underlying23 (hval 1 23 v1 rfl rfl) h1
  clear hA0 hval0
  simp only [List.append_nil] at hW'
  refine (walk a0 a1 w0 w1 W).mono fun e W' ⟨he, hg⟩ => ?_
  subst he
  exact ⟨_, rfl, _, _, _, [], [], [], hW', trodAll_mk1 (shut_bool Try.underlying4 _), (trodAll_cons_mk (shut_int Try.underlying23 w0) (trodAll_cons_mk (shut_int Try.underlying23 w1) trodAll_mk0)), rfl, hg.frame _, fun h => by cases h⟩

theorem over : Rows.octetsOrderRow.holds Try.pinned (OpenSpec.ofChange Rows.octetsOrderSpec) :=
  OpenClaim.holds_of_wide 10 Try.f10 rfl rfl rfl rfl rfl rfl rfl ⟨rfl, rfl, rfl, rfl, rfl⟩ rfl rfl rfl rfl rfl (by kernel_rfl) Try.func10 (by kernel_rfl)
    (of_decide_eq_true (by kernel_rfl)) (by unfold Func.isWrapper; first | (rw [if_pos (by decide +kernel)]; kernel_rfl) | (rw [if_neg (by decide +kernel)]; exact ⟨rfl, rfl⟩))
    (fun os started H enc _ => lifted os started H enc)

/-- ████ THE STATEMENT ████ -/
theorem proved : Rows.OctetsOrderSaid :=
  over
#print axioms proved
end Go.Proofs.Ytoneaaafdgllbaa.octetsOrder
