/-
  Proved: for every slice of records and every number, HeapAgain returns true and leaves them as they were (what is popped, and pushed again, is popped again). No condition.
-/
import Derived.WalkKit
import Derived.ProofKit
import Derived.OpenShut
import Derived.ShutString
import Derived.Test.YthlhjlmhdhhkaaaHSort
namespace Go.Proofs.Ythlhjlmhdhhkaaa.heapAgain
open Go.ChangeShapes Go.WideShapes Go.ChangeAt Go.RowKit
open Go.ChangeMaps (open_string shut_string)
set_option linter.unusedVariables false

theorem own : ownKnob Try.prog.godebug = none := by kernel_rfl
theorem laidOut : laidOutB Try.prog = true := by kernel_rfl


/-! ### The walk -/
set_option maxRecDepth 100000 in
set_option maxHeartbeats 2000000 in
theorem walk (a0 : Option Addr) (len0 cap0 : Nat) (es0 : List Rc) (a1 : Int) (w : World) (i0 : IsR w (.slice a0 len0 cap0) es0) (l0 : es0.length = len0) (m0 : len0 ≤ maxLen) (w1 : (Lit.int .i64 a1).wf = true) :
    Calls Try.prog 7 #[.slice a0 len0 cap0, .int .i64 a1] w fun e w' => e = .returned (.bool true) ∧ Below w.heap.size w w' := by
  subst l0
  unfold maxLen at m0
  obtain ⟨n, hn, hmin⟩ := min100 es0.length
  obtain ⟨r, hcr, hr50⟩ : ∃ r : Nat, (bits .and .i64 a1 65535).tmod 50 = (r : Int) ∧ r < 50 := by
    refine ⟨((a1 % 65536).tmod 50).toNat, ?_, ?_⟩
    · rw [i64_and65535]
      have := Int.tmod_nonneg 50 (show 0 ≤ a1 % 65536 by omega)
      omega
    · have h1 := Int.tmod_nonneg 50 (show 0 ≤ a1 % 65536 by omega)
      have h2 := Int.tmod_lt_of_pos (a1 % 65536) (show (0 : Int) < 50 by omega)
      omega
  obtain ⟨_, _, hfo, hcap⟩ := i0.form
  simp only [Value.slice.injEq, true_and] at hfo
  obtain ⟨rfl, rfl⟩ := hfo
  have SH := hide (shown_any w)
  have I0 := hide i0
  have hnl : n ≤ es0.length := by omega
  have hn1 : n ≤ 100 := by omega
  have HN := hide hn
  clear i0 hn
  go_enter Try.func7, Try.ntmps7
  go_wp2_with fail
  refine SH.out.mono ?_
  rintro e w2 ⟨rfl, b2⟩
  have N2 := hide (H1.new b2)
  clear b2 SH
  go_wp2
  go_loopw [7] (fun v wr => ∃ i : Nat, v = .int .i64 i ∧ i ≤ n ∧ Hid (H1 w wr [] w2.heap.size (sortR [] (es0.take i)) (.slice none 0 0) [])) (fun v _ => n + 1 - numOf v)
  case atStart => exact ⟨0, by first | rfl | go_num, Nat.zero_le _, N2.out⟩
  case round =>
    obtain ⟨i, rfl, hi, NI⟩ := hrel
    have hw1 : IntKind.i64.wrap ((i : Int) + 1) = (i : Int) + 1 := i64_small _ (by omega) (by omega)
    by_cases hin : i < n
    · have hil : i < es0.length := by omega
      have hi3 : (i : Int) < 100 := by omega
      obtain ⟨b, off, rfl, d1, d2⟩ := I0.out.read NI.out.below i hil
      obtain ⟨x, hx⟩ : ∃ x, x = es0[i]! := ⟨_, rfl⟩
      rw [← hx] at d1 d2
      have hox : okR x := by rw [hx]; exact I0.out.okAt i hil
      have HX := hide (And.intro hx hox)
      clear hx hox
      obtain ⟨x1, x2⟩ := x
      simp only at d1 d2
      go_wp2_with fail
      refine (NI.out.push (by rw [sortR_length]; simp; omega) x1 x2 HX.out.2).mono ?_
      rintro e w3 ⟨rfl, n3⟩
      have N3 := hide n3
      clear n3
      go_wp2
      go_roundw
      case rel =>
        refine ⟨i + 1, by go_num, by omega, ?_⟩
        have := N3.out
        rw [HX.out.1, sortR_snoc _ _ _ hil] at this
        exact this
      case measure => simp [numOf]; omega
    · obtain rfl : i = n := by omega
      obtain ⟨wo, hwo⟩ : ∃ wo, wo = wr := ⟨_, rfl⟩
      subst hwo
      have hic : (i : Int) ≤ (cap0 : Int) := by omega
      rcases (show (i < es0.length ∧ ¬ (i : Int) < 100) ∨ (¬ i < es0.length ∧ True) from if h : i < es0.length then .inl ⟨h, by have := HN.out; omega⟩ else .inr ⟨h, trivial⟩) with ⟨hil, hi2⟩ | ⟨hil, hi2⟩
      all_goals
        go_wp2_with fail
        refine (NI.out.lenN i (by rw [sortR_length]; simp; omega) (by omega)).mono ?_
        rintro e w3 ⟨rfl, n3⟩
        have N3 := hide n3
        clear n3
        by_cases hi0 : i = 0
        · subst hi0
          go_wp2
          go_ret
          exact ⟨rfl, N3.out.below⟩
        · have hi0' : ¬ (i : Int) = 0 := by omega
          have SO := hide (refSort_any ((I0.out.below N3.out.below).take i hnl) (by simp; omega))
          obtain ⟨U, hU⟩ : ∃ U, U = sortR [] (es0.take i) := ⟨_, rfl⟩
          have hUl : U.length = i := by rw [hU, sortR_length]; simp; omega
          rw [← hU] at SO N3
          clear hU
          cases U with
          | nil => simp at hUl; omega
          | cons f U =>
            obtain ⟨f1, f2⟩ := f
            have HUR := hide N3.out.rises
            have HUO := hide (N3.out.ok (f1, f2) (by simp))
            have HUL := hide hUl
            clear hUl
            go_wp2_with fail
            refine SO.out.mono ?_
            rintro e w4 ⟨v4, rfl, r4, b4⟩
            obtain ⟨g4, cap4, e4, q4⟩ := r4.blk (by simp)
            subst e4
            obtain ⟨d1, d2⟩ := r4.cell2 0 (by simp)
            simp only [Nat.zero_mul, Nat.zero_add, List.getElem!_cons_zero] at d1 d2
            have N4 := hide ((N3.out.stayB b4).boxed f1 f2)
            have hp0 : (0 : Int) < (U.length : Int) + 1 := by omega
            clear r4 b4 q4
            go_wp2
            go_loopw [10] (fun v wr2 => ∃ j : Nat, v = .int .i64 j ∧ j ≤ r ∧ Hid (H1 w wr2 [(w4.heap.size, (f1, f2))] w2.heap.size ((f1, f2) :: U) (.slice none 0 0) [])) (fun v _ => r + 1 - numOf v)
            case atStart => exact ⟨0, by first | rfl | go_num, Nat.zero_le _, N4.out⟩
            case round =>
              obtain ⟨j, rfl, hj, NJ⟩ := hrel
              have hw2 : IntKind.i64.wrap ((j : Int) + 1) = (j : Int) + 1 := i64_small _ (by omega) (by omega)
              by_cases hjr : j < r
              · have hjr' : (j : Int) < (r : Int) := by omega
                go_wp2_with fail
                refine (NJ.out.pop_cons (by have := HUL.out; simp at this; omega)).mono ?_
                rintro e w5 ⟨rfl, n5⟩
                have n5 := n5.boxed f1 f2
                obtain ⟨c1, c2⟩ := n5.at_ (b := w5.heap.size) (x1 := f1) (x2 := f2) (by simp)
                obtain ⟨c3, c4⟩ := n5.at_ (b := w4.heap.size) (x1 := f1) (x2 := f2) (by simp)
                have N5 := hide n5
                clear n5
                go_wp2_with fail
                refine (N5.out.push (by have := HUL.out; simp at this; omega) f1 f2 HUO.out).mono ?_
                rintro e w6 ⟨rfl, n6⟩
                rw [insR_head HUR.out] at n6
                have N6 := hide n6
                clear n6
                go_wp2
                go_roundw
                case rel => exact ⟨j + 1, by go_num, by omega, N6.out.fewer (by simp)⟩
                case measure => simp [numOf]; omega
              · obtain rfl : j = r := by omega
                go_wp2_with fail
                refine (NJ.out.lenN i HUL.out (by omega)).mono ?_
                rintro e w5 ⟨rfl, n5⟩
                have N5 := hide n5
                clear n5
                go_wp2
                go_ret
                exact ⟨rfl, N5.out.below⟩

/-! ### The row's step -/
set_option maxRecDepth 100000 in
theorem lifted (os : Os) (started : os.Started) (H : Type) (enc : TypeId × Value → H) :
    ReturnsInHanded {} Try.checked os 7 .any (Rows.heapAgainSpec.pre6 enc Try.prog Try.f7 Rows.heapAgainRow.domain false) (Rows.heapAgainSpec.post enc Try.prog Try.f7 false true false false) := by
  refine returnsInHanded_of_change (C := Try.checked) own started (by kernel_rfl) Try.func7
    (ChangeSpec.witness6 (enc := enc) (C := Try.checked) false ⟨#[], #[.slice none 0 0, .int .i64 0], []⟩ 8 (by kernel_rfl) (by kernel_rfl) (by kernel_rfl) (by kernel_rfl)) ?_
  intro W base args ds gs before hval0 hW hcnd _
  have hval : ∀ (j : Nat) t v, Try.f7.params[j]? = some t → args[j]? = some v → Value.okWide Try.prog W .any base t v := hval0
  have hW' := hW
  obtain ⟨p, q, hA0, hV, rfl, hfz, hnd⟩ := hW
  have hA : DataW.TrodAll enc Try.prog W 0 (fun _ => true) true Try.f7.params.toList args.toList ds p := hA0
  rw [Try.params7] at hA hval
  obtain ⟨v0, vs0, d0, ds0, p0, q0, hargs, rfl, rfl, h0, r0⟩ := trodAll_cons hA
  obtain ⟨v1, vs1, d1, ds1, p1, q1, rfl, rfl, rfl, h1, r1⟩ := trodAll_cons r0
  obtain ⟨rfl, rfl, rfl⟩ := trodAll_nil r1
  obtain rfl : args = #[v0, v1] := by cases args; simp_all
  obtain ⟨rfl, rfl⟩ := trodVars_none hV
  obtain ⟨a0, len0, cap0, rfl⟩ := okWide_slice Try.underlying22 (hval 0 22 v0 rfl rfl)
  have k0 := h0
  have lt0 : ∀ x ∈ p0, x.block < W.heap.size := by obtain ⟨m, hm⟩ := k0; exact DataW.trod_lt m _ _ _ hm
  obtain ⟨es0, i0, l0, m0⟩ : ∃ es, IsR W (.slice a0 len0 cap0) es ∧ es.length = len0 ∧ len0 ≤ maxLen := by
    obtain ⟨fuel, hf⟩ := h0
    obtain ⟨a, len, cap, es, hcs, h1, h2, h3⟩ := recsIn hf
    simp [Value.cells] at hcs
    obtain ⟨rfl, rfl, rfl⟩ := hcs
    exact ⟨es, h1, h2, h3⟩
  obtain ⟨a1, rfl, rfl, rfl, w1⟩ := open_int Try.underlying3 (hval 1 3 v1 rfl rfl) h1
  clear hA0 hval0
  refine (walk a0 len0 cap0 es0 a1 W i0 l0 m0 w1).mono fun e W' ⟨he, bel⟩ => ?_
  subst he
  exact ⟨_, rfl, _, _, _, [], _, [], hW', trodAll_mk1 (shut_bool Try.underlying4 _), (trodAll_cons_mk (Below.trod laidOut (by kernel_rfl) (of_decide_eq_true (by kernel_rfl)) k0 bel lt0) (trodAll_cons_mk (shut_int Try.underlying3 w1) trodAll_mk0)), rfl, bel.frame _, fun h => by cases h⟩

theorem over : Rows.heapAgainRow.holds Try.pinned (OpenSpec.ofChange Rows.heapAgainSpec) :=
  OpenClaim.holds_of_wide 7 Try.f7 rfl rfl rfl rfl rfl rfl rfl ⟨rfl, rfl, rfl, rfl, rfl⟩ rfl rfl rfl rfl rfl (by kernel_rfl) Try.func7 (by kernel_rfl)
    (of_decide_eq_true (by kernel_rfl)) (by unfold Func.isWrapper; first | (rw [if_pos (by decide +kernel)]; kernel_rfl) | (rw [if_neg (by decide +kernel)]; exact ⟨rfl, rfl⟩))
    (fun os started H enc _ => lifted os started H enc)

/-- The statement. -/
theorem proved : Rows.HeapAgainSaid := over
#print axioms proved
end Go.Proofs.Ythlhjlmhdhhkaaa.heapAgain
