/-
  Proved: for every slice of records and every slice of truths, HeapTells returns true and leaves them as they were (what is popped is the first, step by step). No condition.
-/
import Derived.WalkKit
import Derived.ProofKit
import Derived.OpenShut
import Derived.ShutString
import Derived.Deep.Grids
import Derived.Deep.DeepCutAuto
import Derived.Test.YthlhjlmhdhhkaaaHEnd
namespace Go.Proofs.Ythlhjlmhdhhkaaa.heapTells
open Go.ChangeShapes Go.WideShapes Go.ChangeAt Go.RowKit
open Go.ChangeMaps (open_string shut_string)
set_option linter.unusedVariables false

theorem own : ownKnob Try.prog.godebug = none := by kernel_rfl
theorem laidOut : laidOutB Try.prog = true := by kernel_rfl

def lenOf : Value → Nat | .slice _ n _ => n | _ => 0

/-! ### The walk -/
set_option maxRecDepth 100000 in
set_option maxHeartbeats 2000000 in
theorem walk (a0 : Option Addr) (len0 cap0 : Nat) (es0 : List Rc) (a1 : Option Addr) (len1 cap1 : Nat) (ks1 : List Bool) (w : World) (i0 : IsR w (.slice a0 len0 cap0) es0) (l0 : es0.length = len0) (m0 : len0 ≤ maxLen) (i1 : IsK w (.slice a1 len1 cap1) ks1) (l1 : ks1.length = len1) (c1 : len1 ≤ cap1) :
    Calls Try.prog 3 #[.slice a0 len0 cap0, .slice a1 len1 cap1] w fun e w' => e = .returned (.bool true) ∧ Below w.heap.size w w' := by
  subst l0
  subst l1
  unfold maxLen at m0
  have SH := hide (shown_any w)
  have I0 := hide i0
  have I1 := hide i1
  clear i0 i1
  go_enter Try.func3, Try.ntmps3
  go_wp2_with fail
  refine SH.out.mono ?_
  rintro e w1 ⟨rfl, b1⟩
  have N1 := hide (H1.new b1)
  clear b1 SH
  go_wp2
  go_loopw [7, 8] (fun vo v wr => ∃ (i : Nat) (R : List Rc) (oa : Option Addr) (oc : Nat), v = .int .i64 i ∧ vo = .slice oa R.length oc ∧ i ≤ es0.length ∧ i ≤ 100 ∧ R.length ≤ i ∧ Hid (H1 w wr [] w1.heap.size R (.slice oa R.length oc) R)) (fun _ v _ => 101 - numOf v)
  case atStart => exact ⟨0, [], none, 0, by first | rfl | go_num, rfl, Nat.zero_le _, by omega, by simp, N1.out⟩
  case round =>
    obtain ⟨i, R, oa, oc, rfl, rfl, hi, hi1, hR, NI⟩ := hrel
    have hw1 : IntKind.i64.wrap ((i : Int) + 1) = (i : Int) + 1 := i64_small _ (by omega) (by omega)
    by_cases hin : i < es0.length ∧ i < 100
    · obtain ⟨hil, hi2⟩ := hin
      have hi3 : (i : Int) < 100 := by omega
      go_upto_region 7 with fail
      go_cut [37] (fun s37 wx => (∃ t : Bool, s37 = .bool t) ∧ wx = wr)
      case first =>
        by_cases hip : i < ks1.length
        · obtain ⟨pb, po, rfl, pc⟩ := I1.out.read NI.out.below i hip
          go_wp2
          go_meet
          case rel => exact ⟨⟨_, rfl⟩, rfl⟩
        · go_wp2
          go_meet
          case rel => exact ⟨⟨_, rfl⟩, rfl⟩
      case rest =>
        obtain ⟨⟨t, rfl⟩, rfl⟩ := hcut
        obtain ⟨b, off, rfl, d1, d2⟩ := I0.out.read NI.out.below i hil
        obtain ⟨x, hx⟩ : ∃ x, x = es0[i]! := ⟨_, rfl⟩
        rw [← hx] at d1 d2
        have hox : okR x := by rw [hx]; exact I0.out.okAt i hil
        have HX := hide (And.intro hx hox)
        clear hx hox
        obtain ⟨x1, x2⟩ := x
        simp only at d1 d2
        go_upto_if 37 with fail
        go_cut [7] (fun s7 wx => ∃ (R2 : List Rc) (oa2 : Option Addr) (oc2 : Nat), s7 = .slice oa2 R2.length oc2 ∧ R2.length ≤ i + 1 ∧ Hid (H1 w wx [] w1.heap.size R2 (.slice oa2 R2.length oc2) R2))
        case first =>
          cases t with
          | false =>
            go_wp2_with fail
            refine (NI.out.push (by omega) x1 x2 HX.out.2).mono ?_
            rintro e w3 ⟨rfl, n3⟩
            obtain ⟨b', off', e', d3, d4⟩ := I0.out.read n3.below i hil
            simp only [Option.some.injEq, Addr.mk.injEq, and_true] at e'
            obtain ⟨rfl, rfl⟩ := e'
            rw [← HX.out.1] at d3 d4
            simp only at d3 d4
            have N3 := hide n3
            clear n3 d1 d2
            go_wp2_with fail
            refine (N3.out.put NI.out.rises (by omega) x1 x2 HX.out.2).mono ?_
            rintro e w4 ⟨ov, rfl, n4⟩
            obtain ⟨oa2, oc2, ho, _⟩ := n4.row.form
            subst ho
            have N4 := hide n4
            clear n4
            go_wp2
            go_meet
            case rel => exact ⟨_, oa2, oc2, rfl, by rw [insR_length]; omega, N4⟩
          | true =>
            cases R with
            | nil =>
              go_wp2_with fail
              refine NI.out.pop_nil.mono ?_
              rintro e w3 ⟨rfl, n3⟩
              have n3 := n3.boxed 0 0
              obtain ⟨c1, c2⟩ := n3.at_ (b := w3.heap.size) (x1 := 0) (x2 := 0) (by simp)
              have N3 := hide n3
              clear n3
              go_wp2
              go_quiet (fail)
              go_wp2
              go_meet
              case rel => exact ⟨[], oa, oc, rfl, by simp, (N3.out.fewer (by simp)).drewN _⟩
            | cons y R =>
              obtain ⟨y1, y2⟩ := y
              simp only [List.length_cons] at hR
              go_wp2_with fail
              refine (NI.out.pop_cons (by omega)).mono ?_
              rintro e w3 ⟨rfl, n3⟩
              have n3 := n3.boxed y1 y2
              obtain ⟨c1, c2⟩ := n3.at_ (b := w3.heap.size) (x1 := y1) (x2 := y2) (by simp)
              obtain ⟨gb, go, gc, hg, hgl, hgc⟩ := n3.row.opened (by simp)
              simp only [Value.slice.injEq, true_and] at hg
              obtain ⟨rfl, rfl⟩ := hg
              obtain ⟨e1, e2⟩ := hgc 0 (by simp)
              simp only [Nat.zero_mul, Nat.add_zero, List.getElem!_cons_zero] at e1 e2
              simp only [List.length_cons] at hgl
              have N3 := hide n3
              have hRl : (0 : Int) < ((R.length : Int) + 1) := by omega
              clear n3 hgc
              by_cases hoc : oc - 1 = 0
              · have hR0 : R = [] := List.eq_nil_of_length_eq_zero (by omega)
                subst hR0
                have hoc1 : oc = 1 := by simp at hgl; omega
                subst hoc1
                go_wp2
                go_quiet (fail)
                go_wp2
                go_meet
                case rel => exact ⟨[], some ⟨gb, go, none⟩, 0, rfl, by simp, ((N3.out.fewer (by simp)).drewN _).tail0⟩
              · have hoc1 : (1 : Int) ≤ (oc : Int) := by omega
                go_wp2
                go_quiet (fail)
                go_wp2
                go_meet
                case rel => exact ⟨R, some ⟨gb, go + 2, none⟩, oc - 1, rfl, by omega, ((N3.out.fewer (by simp)).drewN _).tail⟩
        case rest =>
          obtain ⟨R2, oa2, oc2, rfl, hR2, N2⟩ := hcut
          clear NI d1 d2 HX
          cases R2 with
          | nil =>
            go_wp2_with fail
            refine N2.out.peek_nil.mono ?_
            rintro e w5 ⟨rfl, n5⟩
            have n5 := n5.boxed 0 0
            obtain ⟨c1, c2⟩ := n5.at_ (b := w5.heap.size) (x1 := 0) (x2 := 0) (by simp)
            have LQ := hide (n5.lenQ 0 rfl (by omega))
            have N5 := hide n5
            clear n5
            go_wp2
            go_quiet ((go_at_call 13; refine Calls.quiet_of (LQ.out _)))
            go_wp2
            go_roundw
            case rel =>
              have R5 : Hid (H1 w ((w5.alloc (.cells #[.int .u64 0, .int .u64 0] 30)).drewN nq) [] w1.heap.size [] (.slice oa2 0 oc2) []) := (N5.out.fewer (by simp)).drewN _
              first
                | exact ⟨i + 1, [], oa2, oc2, by go_num, rfl, by omega, by omega, by simp, R5⟩
                | ((repeat apply Exists.intro); exact ⟨⟨i + 1, [], oa2, oc2, by go_num, rfl, by omega, by omega, by simp, R5⟩, rfl⟩)
            case measure => simp [numOf]; omega
          | cons y R2 =>
            obtain ⟨y1, y2⟩ := y
            simp only [List.length_cons] at hR2
            go_wp2_with fail
            refine (N2.out.peek_cons (by omega)).mono ?_
            rintro e w5 ⟨rfl, n5⟩
            have n5 := n5.boxed y1 y2
            obtain ⟨c1, c2⟩ := n5.at_ (b := w5.heap.size) (x1 := y1) (x2 := y2) (by simp)
            obtain ⟨gb, go, gc, hg, hgl, hgc⟩ := n5.row.opened (by simp)
            simp only [Value.slice.injEq, true_and] at hg
            obtain ⟨rfl, rfl⟩ := hg
            obtain ⟨e1, e2⟩ := hgc 0 (by simp)
            simp only [Nat.zero_mul, Nat.add_zero, List.getElem!_cons_zero] at e1 e2
            have LQ := hide (n5.lenQ (R2.length + 1) rfl (by omega))
            have hRl : (0 : Int) < ((R2.length : Int) + 1) := by omega
            have N5 := hide n5
            clear n5 hgc
            go_wp2
            go_quiet ((go_at_call 13; refine Calls.quiet_of (LQ.out _)))
            go_wp2
            go_roundw
            case rel =>
              have R5 : Hid (H1 w ((w5.alloc (.cells #[.int .u64 y1, .int .u64 y2] 30)).drewN nq) [] w1.heap.size ((y1, y2) :: R2) (.slice (some ⟨gb, go, none⟩) (R2.length + 1) oc2) ((y1, y2) :: R2)) := (N5.out.fewer (by simp)).drewN _
              first
                | exact ⟨i + 1, (y1, y2) :: R2, some ⟨gb, go, none⟩, oc2, by go_num, rfl, by omega, by omega, by simp; omega, R5⟩
                | ((repeat apply Exists.intro); exact ⟨⟨i + 1, (y1, y2) :: R2, some ⟨gb, go, none⟩, oc2, by go_num, rfl, by omega, by omega, by simp; omega, R5⟩, rfl⟩)
            case measure => simp [numOf]; omega
    · obtain ⟨wo, hwo⟩ : ∃ wo, wo = wr := ⟨_, rfl⟩
      subst hwo
      have hR1 : R.length ≤ 100 := by omega
      rcases (show (i < es0.length ∧ ¬ (i : Int) < 100) ∨ (¬ i < es0.length ∧ True) from if h : i < es0.length then .inl ⟨h, by omega⟩ else .inr ⟨h, trivial⟩) with ⟨hil, hi2⟩ | ⟨hil, hi2⟩
      all_goals
        go_wp2
        go_loopw [7] (fun vo wr2 => ∃ (R3 : List Rc) (oa3 : Option Addr) (oc3 : Nat), vo = .slice oa3 R3.length oc3 ∧ R3.length ≤ 100 ∧ Hid (H1 w wr2 [] w1.heap.size R3 (.slice oa3 R3.length oc3) R3)) (fun vo _ => lenOf vo)
        case atStart => exact ⟨R, oa, oc, rfl, hR1, NI.out⟩
        case round =>
          obtain ⟨R3, oa3, oc3, rfl, hR3, N3⟩ := hrel
          cases R3 with
          | nil =>
            go_wp2_with fail
            refine (N3.out.lenN 0 rfl (by omega)).mono ?_
            rintro e w5 ⟨rfl, n5⟩
            have N5 := hide n5
            clear n5
            go_wp2
            go_ret
            exact ⟨rfl, N5.out.below⟩
          | cons y R3 =>
            obtain ⟨y1, y2⟩ := y
            simp only [List.length_cons] at hR3
            have hRl : (0 : Int) < ((R3.length : Int) + 1) := by omega
            go_wp2_with fail
            refine (N3.out.pop_cons (by omega)).mono ?_
            rintro e w5 ⟨rfl, n5⟩
            have n5 := n5.boxed y1 y2
            obtain ⟨c1, c2⟩ := n5.at_ (b := w5.heap.size) (x1 := y1) (x2 := y2) (by simp)
            obtain ⟨gb, go, gc, hg, hgl, hgc⟩ := n5.row.opened (by simp)
            simp only [Value.slice.injEq, true_and] at hg
            obtain ⟨rfl, rfl⟩ := hg
            obtain ⟨e1, e2⟩ := hgc 0 (by simp)
            simp only [Nat.zero_mul, Nat.add_zero, List.getElem!_cons_zero] at e1 e2
            simp only [List.length_cons] at hgl
            have N5 := hide n5
            clear n5 hgc
            by_cases hoc : oc3 - 1 = 0
            · have hR0 : R3 = [] := List.eq_nil_of_length_eq_zero (by omega)
              subst hR0
              have hoc1 : oc3 = 1 := by simp at hgl; omega
              subst hoc1
              go_wp2
              go_quiet (fail)
              go_wp2
              go_roundw
              case rel => exact ⟨[], some ⟨gb, go, none⟩, 0, rfl, by simp, ((N5.out.fewer (by simp)).drewN _).tail0⟩
              case measure => simp [lenOf]
            · have hoc1 : (1 : Int) ≤ (oc3 : Int) := by omega
              go_wp2
              go_quiet (fail)
              go_wp2
              go_roundw
              case rel => exact ⟨R3, some ⟨gb, go + 2, none⟩, oc3 - 1, rfl, by omega, ((N5.out.fewer (by simp)).drewN _).tail⟩
              case measure => simp [lenOf]

/-! ### The row's step -/
set_option maxRecDepth 100000 in
theorem lifted (os : Os) (started : os.Started) (H : Type) (enc : TypeId × Value → H) :
    ReturnsInHanded {} Try.checked os 3 .any (Rows.heapTellsSpec.pre6 enc Try.prog Try.f3 Rows.heapTellsRow.domain false) (Rows.heapTellsSpec.post enc Try.prog Try.f3 false true false false) := by
  refine returnsInHanded_of_change (C := Try.checked) own started (by kernel_rfl) Try.func3
    (ChangeSpec.witness6 (enc := enc) (C := Try.checked) false ⟨#[], #[.slice none 0 0, .slice none 0 0], []⟩ 8 (by kernel_rfl) (by kernel_rfl) (by kernel_rfl) (by kernel_rfl)) ?_
  intro W base args ds gs before hval0 hW hcnd _
  have hval : ∀ (j : Nat) t v, Try.f3.params[j]? = some t → args[j]? = some v → Value.okWide Try.prog W .any base t v := hval0
  have hW' := hW
  obtain ⟨p, q, hA0, hV, rfl, hfz, hnd⟩ := hW
  have hA : DataW.TrodAll enc Try.prog W 0 (fun _ => true) true Try.f3.params.toList args.toList ds p := hA0
  rw [Try.params3] at hA hval
  obtain ⟨v0, vs0, d0, ds0, p0, q0, hargs, rfl, rfl, h0, r0⟩ := trodAll_cons hA
  obtain ⟨v1, vs1, d1, ds1, p1, q1, rfl, rfl, rfl, h1, r1⟩ := trodAll_cons r0
  obtain ⟨rfl, rfl, rfl⟩ := trodAll_nil r1
  obtain rfl : args = #[v0, v1] := by cases args; simp_all
  obtain ⟨rfl, rfl⟩ := trodVars_none hV
  obtain ⟨a0, len0, cap0, rfl⟩ := okWide_slice Try.underlying22 (hval 0 22 v0 rfl rfl)
  have k0 := h0
  have lt0 : ∀ x ∈ p0, x.block < W.heap.size := by obtain ⟨m, hm⟩ := k0; exact DataW.trod_lt m _ _ _ hm
  obtain ⟨es0, i0, l0, m0⟩ : ∃ es, IsR W (.slice a0 len0 cap0) es ∧ es.length = len0 ∧ len0 ≤ maxLen := by
    obtain ⟨fuel, hf⟩ := h0
    obtain ⟨a, len, cap, es, hcs, h1, h2, h3⟩ := recsIn hf
    simp [Value.cells] at hcs
    obtain ⟨rfl, rfl, rfl⟩ := hcs
    exact ⟨es, h1, h2, h3⟩
  obtain ⟨a1, len1, cap1, rfl⟩ := okWide_slice Try.underlying23 (hval 1 23 v1 rfl rfl)
  have k1 := h1
  have lt1 : ∀ x ∈ p1, x.block < W.heap.size := by obtain ⟨m, hm⟩ := k1; exact DataW.trod_lt m _ _ _ hm
  obtain ⟨ks1, i1, l1, c1⟩ : ∃ ks, IsK W (.slice a1 len1 cap1) ks ∧ ks.length = len1 ∧ len1 ≤ cap1 := by
    obtain ⟨fuel, hf⟩ := h1
    rcases Go.Deep.open_bools Try.underlying23 Try.underlying4 (by kernel_rfl) hf with ⟨hcs, _⟩ | ⟨x, l, c, B, hcs, _, hl, hm, _, hcell⟩
    · simp [Value.cells] at hcs
      obtain ⟨rfl, rfl, rfl⟩ := hcs
      exact ⟨[], IsK.nil W, rfl, Nat.le_refl _⟩
    · simp [Value.cells] at hcs
      obtain ⟨rfl, rfl, rfl⟩ := hcs
      refine ⟨(List.range len1).map B, ⟨some x, cap1, by simp, by simp; exact hl, by simp, fun y hy i hi => ?_⟩, by simp, hl⟩
      simp at hy hi
      subst hy
      rw [hcell i (by omega)]
      simp [hi]
  clear hA0 hval0
  refine (walk a0 len0 cap0 es0 a1 len1 cap1 ks1 W i0 l0 m0 i1 l1 c1).mono fun e W' ⟨he, bel⟩ => ?_
  subst he
  exact ⟨_, rfl, _, _, _, [], _, [], hW', trodAll_mk1 (shut_bool Try.underlying4 _), (trodAll_cons_mk (Below.trod laidOut (by kernel_rfl) (of_decide_eq_true (by kernel_rfl)) k0 bel lt0) (trodAll_cons_mk (Below.trod laidOut (by kernel_rfl) (of_decide_eq_true (by kernel_rfl)) k1 bel lt1) trodAll_mk0)), rfl, bel.frame _, fun h => by cases h⟩

theorem over : Rows.heapTellsRow.holds Try.pinned (OpenSpec.ofChange Rows.heapTellsSpec) :=
  OpenClaim.holds_of_wide 3 Try.f3 rfl rfl rfl rfl rfl rfl rfl ⟨rfl, rfl, rfl, rfl, rfl⟩ rfl rfl rfl rfl rfl (by kernel_rfl) Try.func3 (by kernel_rfl)
    (of_decide_eq_true (by kernel_rfl)) (by unfold Func.isWrapper; first | (rw [if_pos (by decide +kernel)]; kernel_rfl) | (rw [if_neg (by decide +kernel)]; exact ⟨rfl, rfl⟩))
    (fun os started H enc _ => lifted os started H enc)

/-- The statement. -/
theorem proved : Rows.HeapTellsSaid := over
#print axioms proved
end Go.Proofs.Ythlhjlmhdhhkaaa.heapTells
