/-
  Proved: for every two numbers of 64 bits, PartOnce returns true (each vertex is in just one interval, the one that is told). No condition.
-/
import Derived.Deep.QuietTactic
import Derived.BigQuiet
import Derived.WalkKit
import Derived.ProofKit
import Derived.OpenShut
import Derived.ShutString
import Derived.Test.YtkogbljfeecnhaaZPart
namespace Go.Proofs.Ytkogbljfeecnhaa.partOnce
open Go.ChangeShapes Go.WideShapes Go.ChangeAt Go.RowKit
open Go.ChangeMaps (open_string shut_string)
set_option linter.unusedVariables false

theorem own : ownKnob Try.prog.godebug = none := by kernel_rfl
theorem laidOut : laidOutB Try.prog = true := by kernel_rfl


/-! ### The walk -/
set_option maxHeartbeats 4000000 in
theorem walk (a0 : Int) (a1 : Int) (w : World) (w0 : (Lit.int .i64 a0).wf = true) (w1 : (Lit.int .i64 a1).wf = true) :
    Calls Try.prog 4 #[.int .i64 a0, .int .i64 a1] w fun e w' => e = .returned (.bool true) ∧ Below w.heap.size w w' := by
  obtain ⟨b0, b1⟩ := bounds_i64 w0
  obtain ⟨b2, b3⟩ := bounds_i64 w1
  clear w0 w1
  have hb0 := and65535 a0
  have hb1 := and65535 a1
  obtain ⟨n, hn⟩ : ∃ n : Nat, (n : Int) = a0 % 65536 % 2001 := ⟨(a0 % 65536 % 2001).toNat, by omega⟩
  have hn2 : n ≤ 2000 := by omega
  obtain ⟨s, hs⟩ : ∃ s : Nat, (s : Int) = 1 + a1 % 65536 % 200 := ⟨(1 + a1 % 65536 % 200).toNat, by omega⟩
  have hs1 : 1 ≤ s := by omega
  have hs2 : s ≤ 200 := by omega
  have hn3 : a0 % 65536 % 2001 = (n : Int) := hn.symm
  have hs3 : 1 + a1 % 65536 % 200 = (s : Int) := hs.symm
  have SH := hide (shown_any w)
  clear hn hs
  go_enter Try.func4, Try.ntmps4
  go_wp2_with fail
  refine SH.out.mono ?_
  rintro e w1 ⟨rfl, b1'⟩
  have B1 := hide b1'
  clear b1' SH
  go_wp2_with fail
  rw [hn3]
  refine (bounds_go n s (by omega) hs1 (by omega) w1).mono ?_
  rintro e w2 ⟨g, rfl, o2, b2⟩
  have B2 := hide (below_then B1.out b2)
  have O2 := hide o2
  have c0 : w2.cell? ⟨g, 0, none⟩ = some (.int .i64 0) := by rw [o2.cell 0 (by rw [bndL_length]; omega), bndL_at (by omega)]; simp [bnd]
  have c1 : w2.cell? ⟨g, s, none⟩ = some (.int .i64 n) := by
    rw [o2.cell s (by rw [bndL_length]; omega), bndL_at (by omega)]
    unfold bnd
    rw [Nat.mul_comm, Nat.mul_div_cancel _ (by omega)]
  clear b2 o2 hs3 hn3 hb0 hb1
  go_wp2
  clear c0 c1
  go_loop [8] (fun k => ∃ j : Nat, j ≤ n ∧ k = .int .i64 j) (fun k => n - (intOf k).toNat)
  case atStart => exact ⟨0, Nat.zero_le _, rfl⟩
  case round =>
    obtain ⟨j, hj, rfl⟩ := hrel
    by_cases hlt : j < n
    · have q1 := ofN_lo (n := n) (v := j) hs1
      have q2 := ofN_hi hlt hs1
      have q3 := ofN_lt hlt hs1
      have c0 : w2.cell? ⟨g, ofN n s j, none⟩ = some (.int .i64 (bnd n s (ofN n s j))) := by rw [O2.out.cell _ (by rw [bndL_length]; omega), bndL_at (by omega)]
      have c1 : w2.cell? ⟨g, ofN n s j + 1, none⟩ = some (.int .i64 (bnd n s (ofN n s j + 1))) := by rw [O2.out.cell _ (by rw [bndL_length]; omega), bndL_at (by omega)]
      have l1 : ¬ (j : Int) < bnd n s (ofN n s j) := by unfold bnd; omega
      have l2 : ¬ bnd n s (ofN n s j + 1) ≤ (j : Int) := by unfold bnd; omega
      go_wp2_with fail
      refine (of_go n s j (by omega) hs1 (by omega) hlt w2).mono ?_
      rintro e w3 ⟨rfl, rfl⟩
      have hk : (j : Int) < (n : Int) := by omega
      go_wp2
      exact ⟨⟨j + 1, by omega, by go_num⟩, by simp [intOf]; omega⟩
    · have hk : ¬ (j : Int) < (n : Int) := by omega
      go_wp2
      go_ret
      exact ⟨rfl, B2.out⟩

/-! ### The row's step -/
set_option maxRecDepth 100000 in
theorem lifted (os : Os) (started : os.Started) (H : Type) (enc : TypeId × Value → H) :
    ReturnsInHanded {} Try.checked os 4 .any (Rows.partOnceSpec.pre6 enc Try.prog Try.f4 Rows.partOnceRow.domain false) (Rows.partOnceSpec.post enc Try.prog Try.f4 false true false false) := by
  refine returnsInHanded_of_change (C := Try.checked) own started (by kernel_rfl) Try.func4
    (ChangeSpec.witness6 (enc := enc) (C := Try.checked) false ⟨#[], #[.int .i64 0, .int .i64 0], []⟩ 8 (by kernel_rfl) (by kernel_rfl) (by kernel_rfl) (by kernel_rfl)) ?_
  intro W base args ds gs before hval0 hW hcnd _
  have hval : ∀ (j : Nat) t v, Try.f4.params[j]? = some t → args[j]? = some v → Value.okWide Try.prog W .any base t v := hval0
  have hW' := hW
  obtain ⟨p, q, hA0, hV, rfl, hfz, hnd⟩ := hW
  have hA : DataW.TrodAll enc Try.prog W 0 (fun _ => true) true Try.f4.params.toList args.toList ds p := hA0
  rw [Try.params4] at hA hval
  obtain ⟨v0, vs0, d0, ds0, p0, q0, hargs, rfl, rfl, h0, r0⟩ := trodAll_cons hA
  obtain ⟨v1, vs1, d1, ds1, p1, q1, rfl, rfl, rfl, h1, r1⟩ := trodAll_cons r0
  obtain ⟨rfl, rfl, rfl⟩ := trodAll_nil r1
  obtain rfl : args = #[v0, v1] := by cases args; simp_all
  obtain ⟨rfl, rfl⟩ := trodVars_none hV
  obtain ⟨a0, rfl, rfl, rfl, w0⟩ := open_int Try.underlying3 (hval 0 3 v0 rfl rfl) h0
  obtain ⟨a1, rfl, rfl, rfl, w1⟩ := open_int Try.underlying3 (hval 1 3 v1 rfl rfl) h1
  clear hA0 hval0
  refine (walk a0 a1 W w0 w1).mono fun e W' ⟨he, bel⟩ => ?_
  subst he
  exact ⟨_, rfl, _, _, _, [], _, [], hW', trodAll_mk1 (shut_bool Try.underlying4 _), (trodAll_cons_mk (shut_int Try.underlying3 w0) (trodAll_cons_mk (shut_int Try.underlying3 w1) trodAll_mk0)), rfl, bel.frame _, fun h => by cases h⟩

theorem over : Rows.partOnceRow.holds Try.pinned (OpenSpec.ofChange Rows.partOnceSpec) :=
  OpenClaim.holds_of_wide 4 Try.f4 rfl rfl rfl rfl rfl rfl rfl ⟨rfl, rfl, rfl, rfl, rfl⟩ rfl rfl rfl rfl rfl (by kernel_rfl) Try.func4 (by kernel_rfl)
    (of_decide_eq_true (by kernel_rfl)) (by unfold Func.isWrapper; first | (rw [if_pos (by decide +kernel)]; kernel_rfl) | (rw [if_neg (by decide +kernel)]; exact ⟨rfl, rfl⟩))
    (fun os started H enc _ => lifted os started H enc)

/-- The statement. -/
theorem proved : Rows.PartOnceSaid := over
#print axioms proved
end Go.Proofs.Ytkogbljfeecnhaa.partOnce
