/-
  Proved: for every slice of records, HeapLast returns true and leaves it as it was (what stands behind all is popped last; what stands ahead of all first). No condition.
-/
import Derived.WalkKit
import Derived.ProofKit
import Derived.OpenShut
import Derived.ShutString
import Derived.Test.YthlhjlmhdhhkaaaHEnd
namespace Go.Proofs.Ythlhjlmhdhhkaaa.heapLast
open Go.ChangeShapes Go.WideShapes Go.ChangeAt Go.RowKit
open Go.ChangeMaps (open_string shut_string)
set_option linter.unusedVariables false

theorem own : ownKnob Try.prog.godebug = none := by kernel_rfl
theorem laidOut : laidOutB Try.prog = true := by kernel_rfl


/-! ### The walk -/
set_option maxRecDepth 100000 in
set_option maxHeartbeats 2000000 in
theorem walk (a0 : Option Addr) (len0 cap0 : Nat) (es0 : List Rc) (w : World) (i0 : IsR w (.slice a0 len0 cap0) es0) (l0 : es0.length = len0) (m0 : len0 ≤ maxLen) :
    Calls Try.prog 6 #[.slice a0 len0 cap0] w fun e w' => e = .returned (.bool true) ∧ Below w.heap.size w w' := by
  subst l0
  unfold maxLen at m0
  obtain ⟨n, hn, hmin⟩ := min100 es0.length
  have SH := hide (shown_any w)
  have I0 := hide i0
  have hnl : n ≤ es0.length := by omega
  have hn1 : n ≤ 100 := by omega
  clear i0 hn
  go_enter Try.func6, Try.ntmps6
  go_wp2_with fail
  refine SH.out.mono ?_
  rintro e w1 ⟨rfl, b1⟩
  have N1 := hide ((H1.new b1).boxed 18446744073709551615 18446744073709551615)
  clear b1 SH
  obtain ⟨c1, c2⟩ := N1.out.at_ (b := w1.heap.size + 1) (x1 := 18446744073709551615) (x2 := 18446744073709551615) (by simp)
  go_wp2_with fail
  refine (N1.out.push (by decide) 18446744073709551615 18446744073709551615 (by simp [okR])).mono ?_
  rintro e w2 ⟨rfl, n2⟩
  have N2 := hide n2
  clear n2 N1 c1 c2
  have HOK : Hid (∀ e ∈ es0, okR e) := by obtain ⟨_, _, _, _, _, _, h⟩ := I0.out; exact h
  go_wp2
  go_loopw [7] (fun v wr => ∃ i : Nat, v = .int .i64 i ∧ i ≤ n ∧ Hid (H1 w wr [(w1.heap.size + 1, (18446744073709551615, 18446744073709551615))] w1.heap.size (sortR [(18446744073709551615, 18446744073709551615)] (es0.take i)) (.slice none 0 0) [])) (fun v _ => n + 1 - numOf v)
  case atStart => exact ⟨0, by first | rfl | go_num, Nat.zero_le _, by have := N2.out; simpa [insR, sortR, Hid] using this⟩
  case round =>
    obtain ⟨i, rfl, hi, NI⟩ := hrel
    have hw1 : IntKind.i64.wrap ((i : Int) + 1) = (i : Int) + 1 := i64_small _ (by omega) (by omega)
    by_cases hin : i < n
    · have hin' : (i : Int) < (n : Int) := by omega
      obtain ⟨b, off, rfl, d1, d2⟩ := I0.out.read NI.out.below i (by omega)
      obtain ⟨x, hx⟩ : ∃ x, x = es0[i]! := ⟨_, rfl⟩
      rw [← hx] at d1 d2
      have hox : okR x := by rw [hx]; exact I0.out.okAt i (by omega)
      have HX := hide (And.intro hx hox)
      clear hx hox
      obtain ⟨x1, x2⟩ := x
      simp only at d1 d2
      have hil : i < es0.length := by omega
      go_wp2_with fail
      refine (NI.out.push (by rw [sortR_length]; simp; omega) x1 x2 HX.out.2).mono ?_
      rintro e w3 ⟨rfl, n3⟩
      have N3 := hide n3
      clear n3
      go_wp2
      go_roundw
      case rel =>
        refine ⟨i + 1, by go_num, by omega, ?_⟩
        have := N3.out
        rw [HX.out.1, sortR_snoc _ _ _ hil] at this
        exact this
      case measure => simp [numOf]; omega
    · obtain rfl : i = n := by omega
      obtain ⟨T, hT⟩ : ∃ T, T = sortR [] (es0.take i) := ⟨_, rfl⟩
      have hTl : T.length = i := by rw [hT, sortR_length]; simp; omega
      have n3 := NI.out
      rw [sortR_last (fun e he => HOK.out e (List.mem_of_mem_take he)), ← hT] at n3
      have N3 := hide n3
      have HTL := hide hTl
      have hrs := n3.rises
      have hok := n3.ok
      clear n3 NI hTl hT
      go_wp2_with fail
      refine (N3.out.push (by have := HTL.out; simp; omega) 0 0 (by simp [okR])).mono ?_
      rintro e w4 ⟨rfl, n4⟩
      rw [insR_zero hrs hok] at n4
      have N4 := hide n4
      clear n4 hrs hok
      go_wp2_with fail
      refine (N4.out.pop_cons (by have := HTL.out; simp; omega)).mono ?_
      rintro e w5 ⟨rfl, n5⟩
      have N5 := hide (n5.boxed 0 0)
      obtain ⟨c1, c2⟩ := N5.out.at_ (b := w5.heap.size) (x1 := 0) (x2 := 0) (by simp)
      clear n5
      have hwi : IntKind.i64.wrap ((i : Int) + 1) = (i : Int) + 1 := i64_small _ (by omega) (by omega)
      go_wp2_with fail
      refine (N5.out.lenN (i + 1) (by have := HTL.out; simp; omega) (by omega)).mono ?_
      rintro e w6 ⟨rfl, n6⟩
      have N6 := hide (n6.fewer (hs' := [(w1.heap.size + 1, (18446744073709551615, 18446744073709551615))]) (by simp))
      clear n6 c1 c2
      have hci : ((i + 1 : Nat) : Int) = (i : Int) + 1 := by omega
      rw [hci]
      go_wp2
      go_loopw [10] (fun v wr => ∃ j : Nat, v = .int .i64 j ∧ j ≤ i ∧ Hid (H1 w wr [(w1.heap.size + 1, (18446744073709551615, 18446744073709551615))] w1.heap.size (T.drop j ++ [(18446744073709551615, 18446744073709551615)]) (.slice none 0 0) [])) (fun v _ => i + 1 - numOf v)
      case atStart => exact ⟨0, by first | rfl | go_num, Nat.zero_le _, by have := N6.out; simpa [Hid] using this⟩
      case round =>
        obtain ⟨j, rfl, hj, NJ⟩ := hrel
        have hw2 : IntKind.i64.wrap ((j : Int) + 1) = (j : Int) + 1 := i64_small _ (by omega) (by omega)
        by_cases hji : j < i
        · have hji' : (j : Int) < (i : Int) := by omega
          have hjT : j < T.length := by have := HTL.out; omega
          have nj := NJ.out
          rw [List.drop_eq_getElem_cons hjT, List.cons_append] at nj
          obtain ⟨y, hy⟩ : ∃ y, y = T[j] := ⟨_, rfl⟩
          rw [← hy] at nj
          clear hy
          obtain ⟨y1, y2⟩ := y
          have NK := hide nj
          clear nj
          go_wp2_with fail
          refine (NK.out.pop_cons (by have := HTL.out; simp; omega)).mono ?_
          rintro e w7 ⟨rfl, n7⟩
          have N7 := hide n7
          clear n7
          go_wp2
          go_roundw
          case rel => exact ⟨j + 1, by go_num, by omega, N7.out⟩
          case measure => simp [numOf]; omega
        · obtain rfl : j = i := by omega
          have nj := NJ.out
          rw [List.drop_of_length_le (by have := HTL.out; omega), List.nil_append] at nj
          have NK := hide nj
          clear nj
          go_wp2_with fail
          refine (NK.out.pop_cons (by simp)).mono ?_
          rintro e w7 ⟨rfl, n7⟩
          have N7 := hide (n7.boxed 18446744073709551615 18446744073709551615)
          clear n7
          go_wp2_with fail
          refine N7.out.pop_nil.mono ?_
          rintro e w8 ⟨rfl, n8⟩
          have N8 := hide (n8.boxed 0 0)
          obtain ⟨c1, c2⟩ := N8.out.at_ (b := w7.heap.size) (x1 := 18446744073709551615) (x2 := 18446744073709551615) (by simp)
          obtain ⟨c3, c4⟩ := N8.out.at_ (b := w1.heap.size + 1) (x1 := 18446744073709551615) (x2 := 18446744073709551615) (by simp)
          clear n8
          go_wp2
          go_ret
          exact ⟨rfl, N8.out.below⟩

/-! ### The row's step -/
set_option maxRecDepth 100000 in
theorem lifted (os : Os) (started : os.Started) (H : Type) (enc : TypeId × Value → H) :
    ReturnsInHanded {} Try.checked os 6 .any (Rows.heapLastSpec.pre6 enc Try.prog Try.f6 Rows.heapLastRow.domain false) (Rows.heapLastSpec.post enc Try.prog Try.f6 false true false false) := by
  refine returnsInHanded_of_change (C := Try.checked) own started (by kernel_rfl) Try.func6
    (ChangeSpec.witness6 (enc := enc) (C := Try.checked) false ⟨#[], #[.slice none 0 0], []⟩ 8 (by kernel_rfl) (by kernel_rfl) (by kernel_rfl) (by kernel_rfl)) ?_
  intro W base args ds gs before hval0 hW hcnd _
  have hval : ∀ (j : Nat) t v, Try.f6.params[j]? = some t → args[j]? = some v → Value.okWide Try.prog W .any base t v := hval0
  have hW' := hW
  obtain ⟨p, q, hA0, hV, rfl, hfz, hnd⟩ := hW
  have hA : DataW.TrodAll enc Try.prog W 0 (fun _ => true) true Try.f6.params.toList args.toList ds p := hA0
  rw [Try.params6] at hA hval
  obtain ⟨v0, vs0, d0, ds0, p0, q0, hargs, rfl, rfl, h0, r0⟩ := trodAll_cons hA
  obtain ⟨rfl, rfl, rfl⟩ := trodAll_nil r0
  obtain rfl : args = #[v0] := by cases args; simp_all
  obtain ⟨rfl, rfl⟩ := trodVars_none hV
  obtain ⟨a0, len0, cap0, rfl⟩ := okWide_slice Try.underlying22 (hval 0 22 v0 rfl rfl)
  have k0 := h0
  have lt0 : ∀ x ∈ p0, x.block < W.heap.size := by obtain ⟨m, hm⟩ := k0; exact DataW.trod_lt m _ _ _ hm
  obtain ⟨es0, i0, l0, m0⟩ : ∃ es, IsR W (.slice a0 len0 cap0) es ∧ es.length = len0 ∧ len0 ≤ maxLen := by
    obtain ⟨fuel, hf⟩ := h0
    obtain ⟨a, len, cap, es, hcs, h1, h2, h3⟩ := recsIn hf
    simp [Value.cells] at hcs
    obtain ⟨rfl, rfl, rfl⟩ := hcs
    exact ⟨es, h1, h2, h3⟩
  clear hA0 hval0
  refine (walk a0 len0 cap0 es0 W i0 l0 m0).mono fun e W' ⟨he, bel⟩ => ?_
  subst he
  exact ⟨_, rfl, _, _, _, [], _, [], hW', trodAll_mk1 (shut_bool Try.underlying4 _), (trodAll_cons_mk (Below.trod laidOut (by kernel_rfl) (of_decide_eq_true (by kernel_rfl)) k0 bel lt0) trodAll_mk0), rfl, bel.frame _, fun h => by cases h⟩

theorem over : Rows.heapLastRow.holds Try.pinned (OpenSpec.ofChange Rows.heapLastSpec) :=
  OpenClaim.holds_of_wide 6 Try.f6 rfl rfl rfl rfl rfl rfl rfl ⟨rfl, rfl, rfl, rfl, rfl⟩ rfl rfl rfl rfl rfl (by kernel_rfl) Try.func6 (by kernel_rfl)
    (of_decide_eq_true (by kernel_rfl)) (by unfold Func.isWrapper; first | (rw [if_pos (by decide +kernel)]; kernel_rfl) | (rw [if_neg (by decide +kernel)]; exact ⟨rfl, rfl⟩))
    (fun os started H enc _ => lifted os started H enc)

/-- The statement. -/
theorem proved : Rows.HeapLastSaid := over
#print axioms proved
end Go.Proofs.Ythlhjlmhdhhkaaa.heapLast
