/-
  Proved: for every slice of records, HeapSorts returns true and leaves it as it was (what is pushed in any order is popped in one). No condition.
-/
import Derived.WalkKit
import Derived.ProofKit
import Derived.OpenShut
import Derived.ShutString
import Derived.Test.YthlhjlmhdhhkaaaHEnd
namespace Go.Proofs.Ythlhjlmhdhhkaaa.heapSorts
open Go.ChangeShapes Go.WideShapes Go.ChangeAt Go.RowKit
open Go.ChangeMaps (open_string shut_string)
set_option linter.unusedVariables false

theorem own : ownKnob Try.prog.godebug = none := by kernel_rfl
theorem laidOut : laidOutB Try.prog = true := by kernel_rfl


/-! ### The walk -/
set_option maxRecDepth 100000 in
set_option maxHeartbeats 2000000 in
theorem walk (a0 : Option Addr) (len0 cap0 : Nat) (es0 : List Rc) (w : World) (i0 : IsR w (.slice a0 len0 cap0) es0) (l0 : es0.length = len0) (m0 : len0 ≤ maxLen) :
    Calls Try.prog 4 #[.slice a0 len0 cap0] w fun e w' => e = .returned (.bool true) ∧ Below w.heap.size w w' := by
  subst l0
  unfold maxLen at m0
  obtain ⟨n, hn, hmin⟩ := min100 es0.length
  have SH := hide (shown_any w)
  have I0 := hide i0
  have hnl : n ≤ es0.length := by omega
  have hn1 : n ≤ 100 := by omega
  clear i0 hn
  go_enter Try.func4, Try.ntmps4
  go_wp2_with fail
  refine SH.out.mono ?_
  rintro e w1 ⟨rfl, b1⟩
  have hb1 := b1.size
  have N1 := hide (H2.new (H1.new b1))
  clear b1 SH
  go_wp2
  go_loopw [7] (fun v wr => ∃ i : Nat, v = .int .i64 i ∧ i ≤ n ∧ Hid (H2 w wr [] w1.heap.size (sortR [] (es0.take i)) (w1.heap.size + 1) (sortR [] ((es0.take n).reverse.take i)) (.slice none 0 0) [])) (fun v _ => n + 1 - numOf v)
  case atStart => exact ⟨0, by first | rfl | go_num, Nat.zero_le _, by have := N1.out; simpa [sortR, Hid] using this⟩
  case round =>
    obtain ⟨i, rfl, hi, NI⟩ := hrel
    have hw1 : IntKind.i64.wrap ((i : Int) + 1) = (i : Int) + 1 := i64_small _ (by omega) (by omega)
    by_cases hin : i < n
    · have hin' : (i : Int) < (n : Int) := by omega
      obtain ⟨k, hk⟩ : ∃ k, k + i + 1 = n := ⟨n - 1 - i, by omega⟩
      have hw2 : IntKind.i64.wrap ((n : Int) - 1) = (n : Int) - 1 := i64_small _ (by omega) (by omega)
      have hw3 : IntKind.i64.wrap ((n : Int) - 1 - (i : Int)) = (k : Int) := by rw [i64_small _ (by omega) (by omega)]; omega
      obtain ⟨b, off, rfl, d1, d2⟩ := I0.out.read NI.out.below i (by omega)
      obtain ⟨x, hx⟩ : ∃ x, x = es0[i]! := ⟨_, rfl⟩
      rw [← hx] at d1 d2
      have hox : okR x := by rw [hx]; exact I0.out.okAt i (by omega)
      have HX := hide (And.intro hx hox)
      clear hx hox
      obtain ⟨x1, x2⟩ := x
      simp only at d1 d2
      have hil : i < es0.length := by omega
      have hkl : k < es0.length := by omega
      have HK := hide hk
      clear hk
      go_wp2_with fail
      refine (NI.out.push (by rw [sortR_length]; simp; omega) x1 x2 HX.out.2).mono ?_
      rintro e w3 ⟨rfl, n3⟩
      obtain ⟨b', off', e', d3, d4⟩ := I0.out.read n3.below k (by omega)
      simp only [Option.some.injEq, Addr.mk.injEq, and_true] at e'
      obtain ⟨rfl, rfl⟩ := e'
      obtain ⟨y, hy⟩ : ∃ y, y = es0[k]! := ⟨_, rfl⟩
      rw [← hy] at d3 d4
      have hoy : okR y := by rw [hy]; exact I0.out.okAt k (by omega)
      have HY := hide (And.intro hy hoy)
      clear hy hoy
      obtain ⟨y1, y2⟩ := y
      simp only at d3 d4
      have N3 := hide n3
      clear n3 d1 d2
      go_wp2_with fail
      refine (N3.out.pushB (by rw [sortR_length]; simp; omega) y1 y2 HY.out.2).mono ?_
      rintro e w4 ⟨rfl, n4⟩
      have N4 := hide n4
      clear n4
      go_wp2
      go_roundw
      case rel =>
        refine ⟨i + 1, by go_num, by omega, ?_⟩
        have := N4.out
        rw [HX.out.1, sortR_snoc _ _ _ hil, HY.out.1, rev_at es0 n i k hnl HK.out, sortR_snoc _ _ _ (by simp; omega)] at this
        exact this
      case measure => simp [numOf]; omega
    · obtain rfl : i = n := by omega
      obtain ⟨U, hU⟩ : ∃ U, U = sortR [] (es0.take i) := ⟨_, rfl⟩
      have hUl : U.length = i := by rw [hU, sortR_length]; simp; omega
      have n3 := NI.out
      rw [List.take_of_length_le (l := (es0.take i).reverse) (by simp; omega), sortR_rev, ← hU] at n3
      have HUR := hide n3.rises
      have N3 := hide (n3.boxed 0 0)
      have HUL := hide hUl
      have hwr := n3.below.size
      clear n3 NI hUl hU N1
      obtain ⟨wo, hwo⟩ : ∃ wo, wo = wr := ⟨_, rfl⟩
      subst hwo
      go_wp2
      go_loopw [9] (fun v wr2 => ∃ (j : Nat) (la : Rc), v = .int .i64 j ∧ j ≤ i ∧ Hid (j = 0 ∨ la = U[j - 1]!) ∧ Hid (H2 w wr2 [(wo.heap.size, la)] w1.heap.size (U.drop j) (w1.heap.size + 1) (U.drop j) (.slice none 0 0) [])) (fun v _ => i + 1 - numOf v)
      case atStart => exact ⟨0, (0, 0), by first | rfl | go_num, Nat.zero_le _, .inl rfl, N3.out⟩
      case round =>
        obtain ⟨j, la, rfl, hj, HLA, NJ⟩ := hrel
        have hw2 : IntKind.i64.wrap ((j : Int) + 1) = (j : Int) + 1 := i64_small _ (by omega) (by omega)
        by_cases hji : j < i
        · have hji' : (j : Int) < (i : Int) := by omega
          have hjU : j < U.length := by have := HUL.out; omega
          have nj := NJ.out
          rw [List.drop_eq_getElem_cons hjU] at nj
          obtain ⟨y, hy⟩ : ∃ y, y = U[j] := ⟨_, rfl⟩
          rw [← hy] at nj
          rw [← getElem!_pos U j hjU] at hy
          have HY := hide hy
          clear hy
          obtain ⟨y1, y2⟩ := y
          obtain ⟨l1, l2⟩ := la
          have NK := hide nj
          clear nj
          have hLS : j ≠ 0 → ltR (y1, y2) (l1, l2) = false := fun hj0 => by
            rcases HLA.out with e | e
            · exact absurd e hj0
            · rw [e, HY.out]
              exact rises_at HUR.out (j - 1) j (by omega) hjU
          go_wp2_with fail
          refine (NK.out.pop_cons (by have := HUL.out; simp; omega)).mono ?_
          rintro e w5 ⟨rfl, n5⟩
          have N5 := hide (n5.boxed y1 y2)
          clear n5
          go_wp2_with fail
          refine (N5.out.pop_consB (by have := HUL.out; simp; omega)).mono ?_
          rintro e w6 ⟨rfl, n6⟩
          have n6 := n6.boxed y1 y2
          obtain ⟨c1, c2⟩ := n6.at_ (b := w6.heap.size) (x1 := y1) (x2 := y2) (by simp)
          obtain ⟨c3, c4⟩ := n6.at_ (b := w5.heap.size) (x1 := y1) (x2 := y2) (by simp)
          obtain ⟨c5, c6⟩ := n6.at_ (b := wo.heap.size) (x1 := l1) (x2 := l2) (by simp)
          have z1 := n6.frozen (b := wo.heap.size) (y := (l1, l2)) (by simp) 0
          have z2 := n6.frozen (b := wo.heap.size) (y := (l1, l2)) (by simp) 1
          have N6 := hide n6
          have hwo : w.heap.size ≤ wo.heap.size := hwr
          clear n6
          by_cases hj0 : j = 0
          · subst hj0
            go_wp2
            go_roundw
            case rel =>
              refine ⟨0 + 1, (y1, y2), by go_num, by omega, .inr (by rw [Nat.add_sub_cancel]; exact HY.out), ?_⟩
              exact (N6.out.fewer (hs' := [(wo.heap.size, (l1, l2))]) (by simp)).setbox (by simp [Ythlhjlmhdhhkaaa.own, Value.ownBlock]) hwo y1 y2
            case measure => simp [numOf]
          · have hj1 : (0 : Int) < (j : Int) := by omega
            have hj2 : 0 < j := by omega
            have LS : Hid (∀ W, Calls Try.prog 14 #[.agg #[.int .u64 y1, .int .u64 y2], .agg #[.int .u64 l1, .int .u64 l2]] W fun e w' => e = .returned (.bool false) ∧ Below W.heap.size W w') := fun W => by have := less_any y1 y2 l1 l2 W; rw [hLS hj0] at this; exact this
            go_wp2_with fail
            refine (LS.out _).mono ?_
            rintro e w7 ⟨rfl, b7⟩
            have n7 := N6.out.stay (Kept.of_below b7)
            obtain ⟨c1', c2'⟩ := n7.at_ (b := w5.heap.size) (x1 := y1) (x2 := y2) (by simp)
            obtain ⟨c3', c4'⟩ := n7.at_ (b := wo.heap.size) (x1 := l1) (x2 := l2) (by simp)
            have z3 := n7.frozen (b := wo.heap.size) (y := (l1, l2)) (by simp) 0
            have z4 := n7.frozen (b := wo.heap.size) (y := (l1, l2)) (by simp) 1
            have N7 := hide n7
            clear n7 b7
            go_wp2
            go_roundw
            case rel =>
              refine ⟨j + 1, (y1, y2), by go_num, by omega, .inr (by rw [Nat.add_sub_cancel]; exact HY.out), ?_⟩
              exact (N7.out.fewer (hs' := [(wo.heap.size, (l1, l2))]) (by simp)).setbox (by simp [Ythlhjlmhdhhkaaa.own, Value.ownBlock]) hwo y1 y2
            case measure => simp [numOf]; omega
        · obtain rfl : j = i := by omega
          have nj := NJ.out
          rw [List.drop_of_length_le (by have := HUL.out; omega)] at nj
          have NK := hide nj
          clear nj
          go_wp2_with fail
          refine NK.out.pop_nil.mono ?_
          rintro e w7 ⟨rfl, n7⟩
          have N7 := hide (n7.boxed 0 0)
          clear n7
          go_wp2
          go_ret
          exact ⟨rfl, N7.out.below⟩

/-! ### The row's step -/
set_option maxRecDepth 100000 in
theorem lifted (os : Os) (started : os.Started) (H : Type) (enc : TypeId × Value → H) :
    ReturnsInHanded {} Try.checked os 4 .any (Rows.heapSortsSpec.pre6 enc Try.prog Try.f4 Rows.heapSortsRow.domain false) (Rows.heapSortsSpec.post enc Try.prog Try.f4 false true false false) := by
  refine returnsInHanded_of_change (C := Try.checked) own started (by kernel_rfl) Try.func4
    (ChangeSpec.witness6 (enc := enc) (C := Try.checked) false ⟨#[], #[.slice none 0 0], []⟩ 8 (by kernel_rfl) (by kernel_rfl) (by kernel_rfl) (by kernel_rfl)) ?_
  intro W base args ds gs before hval0 hW hcnd _
  have hval : ∀ (j : Nat) t v, Try.f4.params[j]? = some t → args[j]? = some v → Value.okWide Try.prog W .any base t v := hval0
  have hW' := hW
  obtain ⟨p, q, hA0, hV, rfl, hfz, hnd⟩ := hW
  have hA : DataW.TrodAll enc Try.prog W 0 (fun _ => true) true Try.f4.params.toList args.toList ds p := hA0
  rw [Try.params4] at hA hval
  obtain ⟨v0, vs0, d0, ds0, p0, q0, hargs, rfl, rfl, h0, r0⟩ := trodAll_cons hA
  obtain ⟨rfl, rfl, rfl⟩ := trodAll_nil r0
  obtain rfl : args = #[v0] := by cases args; simp_all
  obtain ⟨rfl, rfl⟩ := trodVars_none hV
  obtain ⟨a0, len0, cap0, rfl⟩ := okWide_slice Try.underlying22 (hval 0 22 v0 rfl rfl)
  have k0 := h0
  have lt0 : ∀ x ∈ p0, x.block < W.heap.size := by obtain ⟨m, hm⟩ := k0; exact DataW.trod_lt m _ _ _ hm
  obtain ⟨es0, i0, l0, m0⟩ : ∃ es, IsR W (.slice a0 len0 cap0) es ∧ es.length = len0 ∧ len0 ≤ maxLen := by
    obtain ⟨fuel, hf⟩ := h0
    obtain ⟨a, len, cap, es, hcs, h1, h2, h3⟩ := recsIn hf
    simp [Value.cells] at hcs
    obtain ⟨rfl, rfl, rfl⟩ := hcs
    exact ⟨es, h1, h2, h3⟩
  clear hA0 hval0
  refine (walk a0 len0 cap0 es0 W i0 l0 m0).mono fun e W' ⟨he, bel⟩ => ?_
  subst he
  exact ⟨_, rfl, _, _, _, [], _, [], hW', trodAll_mk1 (shut_bool Try.underlying4 _), (trodAll_cons_mk (Below.trod laidOut (by kernel_rfl) (of_decide_eq_true (by kernel_rfl)) k0 bel lt0) trodAll_mk0), rfl, bel.frame _, fun h => by cases h⟩

theorem over : Rows.heapSortsRow.holds Try.pinned (OpenSpec.ofChange Rows.heapSortsSpec) :=
  OpenClaim.holds_of_wide 4 Try.f4 rfl rfl rfl rfl rfl rfl rfl ⟨rfl, rfl, rfl, rfl, rfl⟩ rfl rfl rfl rfl rfl (by kernel_rfl) Try.func4 (by kernel_rfl)
    (of_decide_eq_true (by kernel_rfl)) (by unfold Func.isWrapper; first | (rw [if_pos (by decide +kernel)]; kernel_rfl) | (rw [if_neg (by decide +kernel)]; exact ⟨rfl, rfl⟩))
    (fun os started H enc _ => lifted os started H enc)

/-- The statement. -/
theorem proved : Rows.HeapSortsSaid := over
#print axioms proved
end Go.Proofs.Ythlhjlmhdhhkaaa.heapSorts
