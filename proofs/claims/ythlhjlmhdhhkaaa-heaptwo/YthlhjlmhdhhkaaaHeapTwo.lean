/-
  Proved: for every slice of records, HeapTwo returns true and leaves it as it was (two heaps have nothing to do with each other). No condition.
-/
import Derived.WalkKit
import Derived.ProofKit
import Derived.OpenShut
import Derived.ShutString
import Derived.Test.YthlhjlmhdhhkaaaHEnd
namespace Go.Proofs.Ythlhjlmhdhhkaaa.heapTwo
open Go.ChangeShapes Go.WideShapes Go.ChangeAt Go.RowKit
open Go.ChangeMaps (open_string shut_string)
set_option linter.unusedVariables false

theorem own : ownKnob Try.prog.godebug = none := by kernel_rfl
theorem laidOut : laidOutB Try.prog = true := by kernel_rfl


/-! ### The walk -/
set_option maxRecDepth 100000 in
set_option maxHeartbeats 2000000 in
theorem walk (a0 : Option Addr) (len0 cap0 : Nat) (es0 : List Rc) (w : World) (i0 : IsR w (.slice a0 len0 cap0) es0) (l0 : es0.length = len0) (m0 : len0 ≤ maxLen) :
    Calls Try.prog 5 #[.slice a0 len0 cap0] w fun e w' => e = .returned (.bool true) ∧ Below w.heap.size w w' := by
  subst l0
  unfold maxLen at m0
  have SH := hide (shown_any w)
  have I0 := hide i0
  clear i0
  go_enter Try.func5, Try.ntmps5
  go_wp2_with fail
  refine SH.out.mono ?_
  rintro e w1 ⟨rfl, b1⟩
  have N1 := hide (H2.new (H1.new b1))
  clear b1 SH
  go_wp2
  go_loopw [6, 7] (fun vo v wr => ∃ (i : Nat) (R : List Rc), v = .int .i64 i ∧ i ≤ es0.length ∧ i ≤ 100 ∧ R.length ≤ i ∧ Hid (H2 w wr [] w1.heap.size R (w1.heap.size + 1) [] vo R)) (fun _ v _ => 101 - numOf v)
  case atStart => exact ⟨0, [], by first | rfl | go_num, Nat.zero_le _, by omega, by simp, by have := N1.out; simpa [Hid] using this⟩
  case round =>
    obtain ⟨i, R, rfl, hi, hi1, hR, NI⟩ := hrel
    have hw1 : IntKind.i64.wrap ((i : Int) + 1) = (i : Int) + 1 := i64_small _ (by omega) (by omega)
    by_cases hin : i < es0.length ∧ i < 100
    · obtain ⟨hil, hi2⟩ := hin
      have hi3 : (i : Int) < 100 := by omega
      obtain ⟨b, off, rfl, d1, d2⟩ := I0.out.read NI.out.below i hil
      obtain ⟨x, hx⟩ : ∃ x, x = es0[i]! := ⟨_, rfl⟩
      rw [← hx] at d1 d2
      have hox : okR x := by rw [hx]; exact I0.out.okAt i hil
      have HX := hide (And.intro hx hox)
      clear hx hox
      obtain ⟨x1, x2⟩ := x
      simp only at d1 d2
      rcases Nat.mod_two_eq_zero_or_one i with hm | hm
      · have hm1 : (i : Int).tmod 2 = 0 := by rw [Int.tmod_eq_emod_of_nonneg (by omega)]; omega
        have hm2 : (i : Int) % 2 = 0 := by omega
        go_wp2_with fail
        refine (NI.out.push (by omega) x1 x2 HX.out.2).mono ?_
        rintro e w3 ⟨rfl, n3⟩
        obtain ⟨b', off', e', d3, d4⟩ := I0.out.read n3.below i hil
        simp only [Option.some.injEq, Addr.mk.injEq, and_true] at e'
        obtain ⟨rfl, rfl⟩ := e'
        rw [← HX.out.1] at d3 d4
        simp only at d3 d4
        have N3 := hide n3
        clear n3 d1 d2
        go_wp2_with fail
        refine (N3.out.put NI.out.rises (by omega) x1 x2 HX.out.2).mono ?_
        rintro e w4 ⟨ov, rfl, n4⟩
        have N4 := hide n4
        clear n4
        go_wp2
        go_roundw
        case rel => exact ⟨i + 1, _, by go_num, by omega, by omega, by rw [insR_length]; omega, N4.out⟩
        case measure => simp [numOf]; omega
      · have hm1 : (i : Int).tmod 2 = 1 := by rw [Int.tmod_eq_emod_of_nonneg (by omega)]; omega
        have hm2 : (i : Int) % 2 = 1 := by omega
        go_wp2_with fail
        refine (NI.out.pushB (by simp) x1 x2 HX.out.2).mono ?_
        rintro e w3 ⟨rfl, n3⟩
        have N3 := hide n3
        clear n3 d1 d2
        go_wp2_with fail
        refine (H2.pop_consB (x1 := x1) (x2 := x2) (T := []) N3.out (by simp)).mono ?_
        rintro e w4 ⟨rfl, n4⟩
        have N4 := hide n4
        clear n4
        go_wp2
        go_roundw
        case rel => exact ⟨i + 1, R, by go_num, by omega, by omega, by omega, N4.out⟩
        case measure => simp [numOf]; omega
    · obtain ⟨wo, hwo⟩ : ∃ wo, wo = wr := ⟨_, rfl⟩
      subst hwo
      obtain ⟨oa, oc, ho, hoc⟩ := NI.out.row.form
      subst ho
      have hR1 : R.length ≤ 100 := by omega
      rcases (show (i < es0.length ∧ ¬ (i : Int) < 100) ∨ (¬ i < es0.length ∧ True) from if h : i < es0.length then .inl ⟨h, by omega⟩ else .inr ⟨h, trivial⟩) with ⟨hil, hi2⟩ | ⟨hil, hi2⟩
      all_goals
        go_wp2
        go_loopw [8] (fun v wr2 => ∃ j : Nat, v = .int .i64 j ∧ j ≤ R.length ∧ Hid (H2 w wr2 [] w1.heap.size (R.drop j) (w1.heap.size + 1) [] (.slice oa R.length oc) R)) (fun v _ => 101 - numOf v)
        case atStart => exact ⟨0, by first | rfl | go_num, Nat.zero_le _, NI.out⟩
        case round =>
          obtain ⟨j, rfl, hj, NJ⟩ := hrel
          have hw2 : IntKind.i64.wrap ((j : Int) + 1) = (j : Int) + 1 := i64_small _ (by omega) (by omega)
          by_cases hjR : j < R.length
          · have hjR' : (j : Int) < (R.length : Int) := by omega
            have nj := NJ.out
            rw [List.drop_eq_getElem_cons hjR] at nj
            obtain ⟨y, hy⟩ : ∃ y, y = R[j] := ⟨_, rfl⟩
            rw [← hy] at nj
            rw [← getElem!_pos R j hjR] at hy
            have HY := hide hy
            clear hy
            obtain ⟨y1, y2⟩ := y
            have NK := hide nj
            clear nj
            go_wp2_with fail
            refine (NK.out.pop_cons (by simp; omega)).mono ?_
            rintro e w5 ⟨rfl, n5⟩
            have n5 := n5.boxed y1 y2
            obtain ⟨c1, c2⟩ := n5.at_ (b := w5.heap.size) (x1 := y1) (x2 := y2) (by simp)
            obtain ⟨gb, go, gc, hg, _, hgc⟩ := n5.row.opened (by omega)
            simp only [Value.slice.injEq, true_and] at hg
            obtain ⟨rfl, rfl⟩ := hg
            obtain ⟨d1, d2⟩ := hgc j hjR
            rw [← HY.out] at d1 d2
            simp only at d1 d2
            have N5 := hide n5
            clear n5 hgc
            go_wp2
            go_quiet (fail)
            go_wp2
            go_roundw
            case rel => exact ⟨j + 1, by go_num, by omega, (N5.out.fewer (by simp)).drewN _⟩
            case measure => simp [numOf]; omega
          · obtain rfl : j = R.length := by omega
            have nj := NJ.out
            rw [List.drop_of_length_le (Nat.le_refl _)] at nj
            have NK := hide nj
            clear nj
            go_wp2_with fail
            refine NK.out.len (by simp) |>.mono ?_
            rintro e w7 ⟨rfl, n7⟩
            have N7 := hide n7
            clear n7
            go_wp2_with fail
            refine N7.out.lenB (by simp) |>.mono ?_
            rintro e w8 ⟨rfl, n8⟩
            have N8 := hide n8
            clear n8
            go_wp2
            go_ret
            exact ⟨rfl, N8.out.below⟩

/-! ### The row's step -/
set_option maxRecDepth 100000 in
theorem lifted (os : Os) (started : os.Started) (H : Type) (enc : TypeId × Value → H) :
    ReturnsInHanded {} Try.checked os 5 .any (Rows.heapTwoSpec.pre6 enc Try.prog Try.f5 Rows.heapTwoRow.domain false) (Rows.heapTwoSpec.post enc Try.prog Try.f5 false true false false) := by
  refine returnsInHanded_of_change (C := Try.checked) own started (by kernel_rfl) Try.func5
    (ChangeSpec.witness6 (enc := enc) (C := Try.checked) false ⟨#[], #[.slice none 0 0], []⟩ 8 (by kernel_rfl) (by kernel_rfl) (by kernel_rfl) (by kernel_rfl)) ?_
  intro W base args ds gs before hval0 hW hcnd _
  have hval : ∀ (j : Nat) t v, Try.f5.params[j]? = some t → args[j]? = some v → Value.okWide Try.prog W .any base t v := hval0
  have hW' := hW
  obtain ⟨p, q, hA0, hV, rfl, hfz, hnd⟩ := hW
  have hA : DataW.TrodAll enc Try.prog W 0 (fun _ => true) true Try.f5.params.toList args.toList ds p := hA0
  rw [Try.params5] at hA hval
  obtain ⟨v0, vs0, d0, ds0, p0, q0, hargs, rfl, rfl, h0, r0⟩ := trodAll_cons hA
  obtain ⟨rfl, rfl, rfl⟩ := trodAll_nil r0
  obtain rfl : args = #[v0] := by cases args; simp_all
  obtain ⟨rfl, rfl⟩ := trodVars_none hV
  obtain ⟨a0, len0, cap0, rfl⟩ := okWide_slice Try.underlying22 (hval 0 22 v0 rfl rfl)
  have k0 := h0
  have lt0 : ∀ x ∈ p0, x.block < W.heap.size := by obtain ⟨m, hm⟩ := k0; exact DataW.trod_lt m _ _ _ hm
  obtain ⟨es0, i0, l0, m0⟩ : ∃ es, IsR W (.slice a0 len0 cap0) es ∧ es.length = len0 ∧ len0 ≤ maxLen := by
    obtain ⟨fuel, hf⟩ := h0
    obtain ⟨a, len, cap, es, hcs, h1, h2, h3⟩ := recsIn hf
    simp [Value.cells] at hcs
    obtain ⟨rfl, rfl, rfl⟩ := hcs
    exact ⟨es, h1, h2, h3⟩
  clear hA0 hval0
  refine (walk a0 len0 cap0 es0 W i0 l0 m0).mono fun e W' ⟨he, bel⟩ => ?_
  subst he
  exact ⟨_, rfl, _, _, _, [], _, [], hW', trodAll_mk1 (shut_bool Try.underlying4 _), (trodAll_cons_mk (Below.trod laidOut (by kernel_rfl) (of_decide_eq_true (by kernel_rfl)) k0 bel lt0) trodAll_mk0), rfl, bel.frame _, fun h => by cases h⟩

theorem over : Rows.heapTwoRow.holds Try.pinned (OpenSpec.ofChange Rows.heapTwoSpec) :=
  OpenClaim.holds_of_wide 5 Try.f5 rfl rfl rfl rfl rfl rfl rfl ⟨rfl, rfl, rfl, rfl, rfl⟩ rfl rfl rfl rfl rfl (by kernel_rfl) Try.func5 (by kernel_rfl)
    (of_decide_eq_true (by kernel_rfl)) (by unfold Func.isWrapper; first | (rw [if_pos (by decide +kernel)]; kernel_rfl) | (rw [if_neg (by decide +kernel)]; exact ⟨rfl, rfl⟩))
    (fun os started H enc _ => lifted os started H enc)

/-- The statement. -/
theorem proved : Rows.HeapTwoSaid := over
#print axioms proved
end Go.Proofs.Ythlhjlmhdhhkaaa.heapTwo
