/-
  Proved: for every three numbers of 64 bits, PartTells returns true (intervals are what the document says). No condition.
-/
import Derived.Deep.QuietTactic
import Derived.BigQuiet
import Derived.WalkKit
import Derived.ProofKit
import Derived.OpenShut
import Derived.ShutString
import Derived.Test.YtkogbljfeecnhaaZPart
namespace Go.Proofs.Ytkogbljfeecnhaa.partTells
open Go.ChangeShapes Go.WideShapes Go.ChangeAt Go.RowKit
open Go.ChangeMaps (open_string shut_string)
set_option linter.unusedVariables false

theorem own : ownKnob Try.prog.godebug = none := by kernel_rfl
theorem laidOut : laidOutB Try.prog = true := by kernel_rfl


/-! ### The walk -/
set_option maxHeartbeats 4000000 in
theorem walk (a0 : Int) (a1 : Int) (a2 : Int) (w : World) (w0 : (Lit.int .i64 a0).wf = true) (w1 : (Lit.int .i64 a1).wf = true) (w2 : (Lit.int .i64 a2).wf = true) :
    Calls Try.prog 3 #[.int .i64 a0, .int .i64 a1, .int .i64 a2] w fun e w' => e = .returned (.bool true) ∧ Below w.heap.size w w' := by
  obtain ⟨b0, b1⟩ := bounds_i64 w0
  obtain ⟨b2, b3⟩ := bounds_i64 w1
  obtain ⟨b4, b5⟩ := bounds_i64 w2
  clear w0 w1 w2
  cases hm : mayB a0 a1 with
  | false =>
    go_enter Try.func3, Try.ntmps3
    go_wp2_with fail
    refine (shown_any _).mono ?_
    rintro e w1 ⟨rfl, B1⟩
    go_wp2_with fail
    refine (bounds_no a0 a1 hm w1).mono ?_
    rintro e w2 ⟨rfl, rfl⟩
    go_wp2_with fail
    refine (of_no a0 a1 a2 hm w2).mono ?_
    rintro e w3 ⟨rfl, rfl⟩
    go_wp2_with fail
    refine (right_any a0 a1 w3).mono ?_
    rintro e w4 ⟨rfl, rfl⟩
    rw [hm]
    go_wp2
    go_ret
    exact ⟨rfl, B1⟩
  | true =>
    obtain ⟨n, s, rfl, rfl, hn, h1, h2⟩ := mayB_nat hm
    by_cases hv : a2 < 0 ∨ (n : Int) ≤ a2
    · go_enter Try.func3, Try.ntmps3
      go_wp2_with fail
      refine (shown_any _).mono ?_
      rintro e w1 ⟨rfl, B1⟩
      go_wp2_with fail
      refine (bounds_go n s hn h1 h2 w1).mono ?_
      rintro e w2 ⟨g, rfl, o2, b2⟩
      have B2 := hide (below_then B1 b2)
      clear B1 b2
      go_wp2_with fail
      refine (of_out n s a2 hm hv w2).mono ?_
      rintro e w3 ⟨rfl, rfl⟩
      go_wp2_with fail
      refine (right_any n s w3).mono ?_
      rintro e w4 ⟨rfl, rfl⟩
      rw [hm]
      go_wp2_with fail
      refine (refBounds_any n s hn h1 h2 w4).mono ?_
      rintro e w5 ⟨g2, cap2, rfl, o5, b5⟩
      have B5 := hide (below_then B2.out b5)
      have O2 := hide (o2.below b5)
      have O5 := hide o5
      clear B2 o2 o5 b5
      go_wp2
      go_loopw [14] (fun k wr => ∃ j : Nat, j ≤ s + 1 ∧ k = .int .i64 j ∧ Hid (OwnI w1.heap.size wr g (s + 1) (bndL n s)) ∧ Hid (OwnI w4.heap.size wr g2 cap2 (bndL n s)) ∧ Hid (Below w.heap.size w wr)) (fun k _ => s + 1 - (intOf k).toNat)
      case atStart => exact ⟨0, Nat.zero_le _, rfl, O2, O5, B5⟩
      case round =>
        obtain ⟨j, hj, rfl, HO, HP, HB⟩ := hrel
        by_cases hlt : j < s + 1
        · have hlt' : (j : Int) < (s : Int) + 1 := by omega
          have c1 : wr.cell? ⟨g, j, none⟩ = some (.int .i64 (bnd n s j)) := by rw [HO.out.cell j (by rw [bndL_length]; omega), bndL_at (by omega)]
          have c2 : wr.cell? ⟨g2, j, none⟩ = some (.int .i64 (bnd n s j)) := by rw [HP.out.cell j (by rw [bndL_length]; omega), bndL_at (by omega)]
          go_wp2
          go_quiet (fail)
          go_wp2
          refine ⟨⟨j + 1, by omega, by go_num, HO, HP, ⟨HB.out.os, HB.out.tape, HB.out.output, HB.out.size, HB.out.block⟩⟩, by simp [intOf]; omega⟩
        · have hlt' : ¬ (j : Int) < (s : Int) + 1 := by omega
          by_cases hv0 : a2 < 0
          · go_wp2
            go_ret
            exact ⟨rfl, HB.out⟩
          · have hv1 : (n : Int) ≤ a2 := by omega
            go_wp2
            go_ret
            exact ⟨rfl, HB.out⟩
    · obtain ⟨v, rfl⟩ : ∃ v : Nat, a2 = v := ⟨a2.toNat, by omega⟩
      have hv2 : v < n := by omega
      have hv0 : ¬ (v : Int) < 0 := by omega
      have hv1 : ¬ (n : Int) ≤ v := by omega
      go_enter Try.func3, Try.ntmps3
      go_wp2_with fail
      refine (shown_any _).mono ?_
      rintro e w1 ⟨rfl, B1⟩
      go_wp2_with fail
      refine (bounds_go n s hn h1 h2 w1).mono ?_
      rintro e w2 ⟨g, rfl, o2, b2⟩
      have B2 := hide (below_then B1 b2)
      clear B1 b2
      go_wp2_with fail
      refine (of_go n s v hn h1 h2 hv2 w2).mono ?_
      rintro e w3 ⟨rfl, rfl⟩
      go_wp2_with fail
      refine (right_any n s w3).mono ?_
      rintro e w4 ⟨rfl, rfl⟩
      rw [hm]
      go_wp2_with fail
      refine (refBounds_any n s hn h1 h2 w4).mono ?_
      rintro e w5 ⟨g2, cap2, rfl, o5, b5⟩
      have B5 := hide (below_then B2.out b5)
      have O2 := hide (o2.below b5)
      have O5 := hide o5
      clear B2 o2 o5 b5
      go_wp2
      go_loopw [14] (fun k wr => ∃ j : Nat, j ≤ s + 1 ∧ k = .int .i64 j ∧ Hid (OwnI w1.heap.size wr g (s + 1) (bndL n s)) ∧ Hid (OwnI w4.heap.size wr g2 cap2 (bndL n s)) ∧ Hid (Below w.heap.size w wr)) (fun k _ => s + 1 - (intOf k).toNat)
      case atStart => exact ⟨0, Nat.zero_le _, rfl, O2, O5, B5⟩
      case round =>
        obtain ⟨j, hj, rfl, HO, HP, HB⟩ := hrel
        by_cases hlt : j < s + 1
        · have hlt' : (j : Int) < (s : Int) + 1 := by omega
          have c1 : wr.cell? ⟨g, j, none⟩ = some (.int .i64 (bnd n s j)) := by rw [HO.out.cell j (by rw [bndL_length]; omega), bndL_at (by omega)]
          have c2 : wr.cell? ⟨g2, j, none⟩ = some (.int .i64 (bnd n s j)) := by rw [HP.out.cell j (by rw [bndL_length]; omega), bndL_at (by omega)]
          go_wp2
          go_quiet (fail)
          go_wp2
          refine ⟨⟨j + 1, by omega, by go_num, HO, HP, ⟨HB.out.os, HB.out.tape, HB.out.output, HB.out.size, HB.out.block⟩⟩, by simp [intOf]; omega⟩
        · have hlt' : ¬ (j : Int) < (s : Int) + 1 := by omega
          go_wp2_with (go_at_call 13; refine (refOf_any n s v hn h1 h2 hv2 _).mono ?_; rintro e w6 ⟨rfl, rfl⟩)
          go_ret
          exact ⟨rfl, HB.out⟩

/-! ### The row's step -/
set_option maxRecDepth 100000 in
theorem lifted (os : Os) (started : os.Started) (H : Type) (enc : TypeId × Value → H) :
    ReturnsInHanded {} Try.checked os 3 .any (Rows.partTellsSpec.pre6 enc Try.prog Try.f3 Rows.partTellsRow.domain false) (Rows.partTellsSpec.post enc Try.prog Try.f3 false true false false) := by
  refine returnsInHanded_of_change (C := Try.checked) own started (by kernel_rfl) Try.func3
    (ChangeSpec.witness6 (enc := enc) (C := Try.checked) false ⟨#[], #[.int .i64 0, .int .i64 0, .int .i64 0], []⟩ 8 (by kernel_rfl) (by kernel_rfl) (by kernel_rfl) (by kernel_rfl)) ?_
  intro W base args ds gs before hval0 hW hcnd _
  have hval : ∀ (j : Nat) t v, Try.f3.params[j]? = some t → args[j]? = some v → Value.okWide Try.prog W .any base t v := hval0
  have hW' := hW
  obtain ⟨p, q, hA0, hV, rfl, hfz, hnd⟩ := hW
  have hA : DataW.TrodAll enc Try.prog W 0 (fun _ => true) true Try.f3.params.toList args.toList ds p := hA0
  rw [Try.params3] at hA hval
  obtain ⟨v0, vs0, d0, ds0, p0, q0, hargs, rfl, rfl, h0, r0⟩ := trodAll_cons hA
  obtain ⟨v1, vs1, d1, ds1, p1, q1, rfl, rfl, rfl, h1, r1⟩ := trodAll_cons r0
  obtain ⟨v2, vs2, d2, ds2, p2, q2, rfl, rfl, rfl, h2, r2⟩ := trodAll_cons r1
  obtain ⟨rfl, rfl, rfl⟩ := trodAll_nil r2
  obtain rfl : args = #[v0, v1, v2] := by cases args; simp_all
  obtain ⟨rfl, rfl⟩ := trodVars_none hV
  obtain ⟨a0, rfl, rfl, rfl, w0⟩ := open_int Try.underlying3 (hval 0 3 v0 rfl rfl) h0
  obtain ⟨a1, rfl, rfl, rfl, w1⟩ := open_int Try.underlying3 (hval 1 3 v1 rfl rfl) h1
  obtain ⟨a2, rfl, rfl, rfl, w2⟩ := open_int Try.underlying3 (hval 2 3 v2 rfl rfl) h2
  clear hA0 hval0
  refine (walk a0 a1 a2 W w0 w1 w2).mono fun e W' ⟨he, bel⟩ => ?_
  subst he
  exact ⟨_, rfl, _, _, _, [], _, [], hW', trodAll_mk1 (shut_bool Try.underlying4 _), (trodAll_cons_mk (shut_int Try.underlying3 w0) (trodAll_cons_mk (shut_int Try.underlying3 w1) (trodAll_cons_mk (shut_int Try.underlying3 w2) trodAll_mk0))), rfl, bel.frame _, fun h => by cases h⟩

theorem over : Rows.partTellsRow.holds Try.pinned (OpenSpec.ofChange Rows.partTellsSpec) :=
  OpenClaim.holds_of_wide 3 Try.f3 rfl rfl rfl rfl rfl rfl rfl ⟨rfl, rfl, rfl, rfl, rfl⟩ rfl rfl rfl rfl rfl (by kernel_rfl) Try.func3 (by kernel_rfl)
    (of_decide_eq_true (by kernel_rfl)) (by unfold Func.isWrapper; first | (rw [if_pos (by decide +kernel)]; kernel_rfl) | (rw [if_neg (by decide +kernel)]; exact ⟨rfl, rfl⟩))
    (fun os started H enc _ => lifted os started H enc)

/-- The statement. -/
theorem proved : Rows.PartTellsSaid := over
#print axioms proved
end Go.Proofs.Ytkogbljfeecnhaa.partTells
