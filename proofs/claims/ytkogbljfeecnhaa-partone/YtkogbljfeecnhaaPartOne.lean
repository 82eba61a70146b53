/-
  Proved: for every two numbers of 64 bits, PartOne returns true (with one shard all vertices are in one interval; with as many as vertices each has its own). No condition.
-/
import Derived.Deep.QuietTactic
import Derived.BigQuiet
import Derived.WalkKit
import Derived.ProofKit
import Derived.OpenShut
import Derived.ShutString
import Derived.Test.YtkogbljfeecnhaaZPart
namespace Go.Proofs.Ytkogbljfeecnhaa.partOne
open Go.ChangeShapes Go.WideShapes Go.ChangeAt Go.RowKit
open Go.ChangeMaps (open_string shut_string)
set_option linter.unusedVariables false

theorem own : ownKnob Try.prog.godebug = none := by kernel_rfl
theorem laidOut : laidOutB Try.prog = true := by kernel_rfl

theorem ofN_1 {n v : Nat} (hv : v < n) : ofN n 1 v = 0 := by have := ofN_lt (s := 1) hv (by omega); omega
theorem ofN_n {n v : Nat} (hv : v < n) : ofN n n v = v := by
  refine (ofN_one hv (by omega) ?_ ?_).symm
  · rw [Nat.mul_div_cancel _ (by omega)]; exact Nat.le_refl _
  · rw [Nat.mul_div_cancel _ (by omega)]; omega

/-! ### The walk -/
set_option maxHeartbeats 4000000 in
theorem walk (a0 : Int) (a1 : Int) (w : World) (w0 : (Lit.int .i64 a0).wf = true) (w1 : (Lit.int .i64 a1).wf = true) :
    Calls Try.prog 6 #[.int .i64 a0, .int .i64 a1] w fun e w' => e = .returned (.bool true) ∧ Below w.heap.size w w' := by
  obtain ⟨b0, b1⟩ := bounds_i64 w0
  obtain ⟨b2, b3⟩ := bounds_i64 w1
  clear w0 w1
  have hb0 := and65535 a0
  have hb1 := and65535 a1
  obtain ⟨n, hn⟩ : ∃ n : Nat, (n : Int) = 1 + a0 % 65536 % 4000 := ⟨(1 + a0 % 65536 % 4000).toNat, by omega⟩
  have hn1 : 1 ≤ n := by omega
  have hn2 : n ≤ 4000 := by omega
  obtain ⟨v, hv⟩ : ∃ v : Nat, (v : Int) = a1 % 65536 % n := ⟨(a1 % 65536 % n).toNat, by have := Int.emod_nonneg (a1 % 65536) (show (n : Int) ≠ 0 by omega); omega⟩
  have hv1 : v < n := by have := Int.emod_lt_of_pos (a1 % 65536) (show (0 : Int) < n by omega); omega
  have hn3 : 1 + a0 % 65536 % 4000 = (n : Int) := hn.symm
  have hv3 : (a1 % 65536).tmod n = (v : Int) := by rw [Int.tmod_eq_emod_of_nonneg (by omega)]; exact hv.symm
  have SH := hide (shown_any w)
  clear hn hv
  go_enter Try.func6, Try.ntmps6
  go_wp2_with fail
  refine SH.out.mono ?_
  rintro e w1 ⟨rfl, b1'⟩
  have B1 := hide b1'
  clear b1'
  go_wp2_with fail
  refine (of_go n 1 v (by omega) (by omega) (by omega) hv1 w1).mono ?_
  rintro e w2 ⟨rfl, rfl⟩
  rw [ofN_1 hv1]
  go_wp2_with fail
  refine (of_go n n v (by omega) (by omega) (by omega) hv1 w2).mono ?_
  rintro e w3 ⟨rfl, rfl⟩
  rw [ofN_n hv1]
  go_wp2
  go_ret
  exact ⟨rfl, B1.out⟩

/-! ### The row's step -/
set_option maxRecDepth 100000 in
theorem lifted (os : Os) (started : os.Started) (H : Type) (enc : TypeId × Value → H) :
    ReturnsInHanded {} Try.checked os 6 .any (Rows.partOneSpec.pre6 enc Try.prog Try.f6 Rows.partOneRow.domain false) (Rows.partOneSpec.post enc Try.prog Try.f6 false true false false) := by
  refine returnsInHanded_of_change (C := Try.checked) own started (by kernel_rfl) Try.func6
    (ChangeSpec.witness6 (enc := enc) (C := Try.checked) false ⟨#[], #[.int .i64 0, .int .i64 0], []⟩ 8 (by kernel_rfl) (by kernel_rfl) (by kernel_rfl) (by kernel_rfl)) ?_
  intro W base args ds gs before hval0 hW hcnd _
  have hval : ∀ (j : Nat) t v, Try.f6.params[j]? = some t → args[j]? = some v → Value.okWide Try.prog W .any base t v := hval0
  have hW' := hW
  obtain ⟨p, q, hA0, hV, rfl, hfz, hnd⟩ := hW
  have hA : DataW.TrodAll enc Try.prog W 0 (fun _ => true) true Try.f6.params.toList args.toList ds p := hA0
  rw [Try.params6] at hA hval
  obtain ⟨v0, vs0, d0, ds0, p0, q0, hargs, rfl, rfl, h0, r0⟩ := trodAll_cons hA
  obtain ⟨v1, vs1, d1, ds1, p1, q1, rfl, rfl, rfl, h1, r1⟩ := trodAll_cons r0
  obtain ⟨rfl, rfl, rfl⟩ := trodAll_nil r1
  obtain rfl : args = #[v0, v1] := by cases args; simp_all
  obtain ⟨rfl, rfl⟩ := trodVars_none hV
  obtain ⟨a0, rfl, rfl, rfl, w0⟩ := open_int Try.underlying3 (hval 0 3 v0 rfl rfl) h0
  obtain ⟨a1, rfl, rfl, rfl, w1⟩ := open_int Try.underlying3 (hval 1 3 v1 rfl rfl) h1
  clear hA0 hval0
  refine (walk a0 a1 W w0 w1).mono fun e W' ⟨he, bel⟩ => ?_
  subst he
  exact ⟨_, rfl, _, _, _, [], _, [], hW', trodAll_mk1 (shut_bool Try.underlying4 _), (trodAll_cons_mk (shut_int Try.underlying3 w0) (trodAll_cons_mk (shut_int Try.underlying3 w1) trodAll_mk0)), rfl, bel.frame _, fun h => by cases h⟩

theorem over : Rows.partOneRow.holds Try.pinned (OpenSpec.ofChange Rows.partOneSpec) :=
  OpenClaim.holds_of_wide 6 Try.f6 rfl rfl rfl rfl rfl rfl rfl ⟨rfl, rfl, rfl, rfl, rfl⟩ rfl rfl rfl rfl rfl (by kernel_rfl) Try.func6 (by kernel_rfl)
    (of_decide_eq_true (by kernel_rfl)) (by unfold Func.isWrapper; first | (rw [if_pos (by decide +kernel)]; kernel_rfl) | (rw [if_neg (by decide +kernel)]; exact ⟨rfl, rfl⟩))
    (fun os started H enc _ => lifted os started H enc)

/-- The statement. -/
theorem proved : Rows.PartOneSaid := over
#print axioms proved
end Go.Proofs.Ytkogbljfeecnhaa.partOne
