/-
  Proved: for every two numbers of 64 bits, PartEven returns true (intervals rise, and are as large as each other, but for one). No condition.
-/
import Derived.Deep.QuietTactic
import Derived.BigQuiet
import Derived.WalkKit
import Derived.ProofKit
import Derived.OpenShut
import Derived.ShutString
import Derived.Test.YtkogbljfeecnhaaZPart
namespace Go.Proofs.Ytkogbljfeecnhaa.partEven
open Go.ChangeShapes Go.WideShapes Go.ChangeAt Go.RowKit
open Go.ChangeMaps (open_string shut_string)
set_option linter.unusedVariables false

theorem own : ownKnob Try.prog.godebug = none := by kernel_rfl
theorem laidOut : laidOutB Try.prog = true := by kernel_rfl

theorem even {n s j : Nat} (hs : 1 ≤ s) : bnd n s j + (n / s : Nat) ≤ bnd n s (j + 1) ∧ bnd n s (j + 1) ≤ bnd n s j + (n / s : Nat) + 1 := by
  unfold bnd
  have e : (j + 1) * n = j * n + n := Nat.succ_mul j n
  rw [e]
  generalize j * n = p
  have h1 := Nat.div_add_mod p s
  have h2 := Nat.div_add_mod n s
  have h3 := Nat.mod_lt p hs
  have h4 := Nat.mod_lt n hs
  have l : p / s + n / s ≤ (p + n) / s := by
    rw [Nat.le_div_iff_mul_le hs, Nat.add_mul, Nat.mul_comm (p / s), Nat.mul_comm (n / s)]
    omega
  have u : (p + n) / s ≤ p / s + n / s + 1 := by
    have : (p + n) / s < p / s + n / s + 2 := by
      rw [Nat.div_lt_iff_lt_mul hs]
      have e : (p / s + n / s + 2) * s = s * (p / s) + s * (n / s) + 2 * s := by
        rw [Nat.add_mul, Nat.add_mul, Nat.mul_comm (p / s), Nat.mul_comm (n / s)]
      rw [e]
      omega
    omega
  omega

/-! ### The walk -/
set_option maxHeartbeats 4000000 in
theorem walk (a0 : Int) (a1 : Int) (w : World) (w0 : (Lit.int .i64 a0).wf = true) (w1 : (Lit.int .i64 a1).wf = true) :
    Calls Try.prog 5 #[.int .i64 a0, .int .i64 a1] w fun e w' => e = .returned (.bool true) ∧ Below w.heap.size w w' := by
  obtain ⟨b0, b1⟩ := bounds_i64 w0
  obtain ⟨b2, b3⟩ := bounds_i64 w1
  clear w0 w1
  have hb0 := and1048575 a0
  have hb1 := and65535 a1
  obtain ⟨n, hn⟩ : ∃ n : Nat, (n : Int) = a0 % 1048576 % 1048577 := ⟨(a0 % 1048576 % 1048577).toNat, by omega⟩
  have hn2 : n ≤ 1048576 := by omega
  obtain ⟨s, hs⟩ : ∃ s : Nat, (s : Int) = 1 + a1 % 4096 := ⟨(1 + a1 % 4096).toNat, by omega⟩
  have hs1 : 1 ≤ s := by omega
  have hs2 : s ≤ 4096 := by omega
  have hn3 : a0 % 1048576 % 1048577 = (n : Int) := hn.symm
  have hs3 : 1 + a1 % 4096 = (s : Int) := hs.symm
  have SH := hide (shown_any w)
  clear hn hs
  go_enter Try.func5, Try.ntmps5
  go_wp2_with fail
  refine SH.out.mono ?_
  rintro e w1 ⟨rfl, b1'⟩
  have B1 := hide b1'
  clear b1' SH
  go_wp2_with fail
  rw [hn3]
  refine (bounds_go n s hn2 hs1 hs2 w1).mono ?_
  rintro e w2 ⟨g, rfl, o2, b2⟩
  have B2 := hide (below_then B1.out b2)
  have O2 := hide o2
  clear b2 o2 hs3 hn3 hb0 hb1
  go_wp2
  go_loopw [8] (fun k wr => ∃ j : Nat, j ≤ s ∧ k = .int .i64 j ∧ Hid (OwnI w1.heap.size wr g (s + 1) (bndL n s)) ∧ Hid (Below w.heap.size w wr)) (fun k _ => s - (intOf k).toNat)
  case atStart => exact ⟨0, Nat.zero_le _, rfl, O2, B2⟩
  case round =>
    obtain ⟨j, hj, rfl, HO, HB⟩ := hrel
    by_cases hlt : j < s
    · have hlt' : (j : Int) < (s : Int) := by omega
      have c0 : wr.cell? ⟨g, j, none⟩ = some (.int .i64 (bnd n s j)) := by rw [HO.out.cell _ (by rw [bndL_length]; omega), bndL_at (by omega)]
      have c1 : wr.cell? ⟨g, j + 1, none⟩ = some (.int .i64 (bnd n s (j + 1))) := by rw [HO.out.cell _ (by rw [bndL_length]; omega), bndL_at (by omega)]
      have ev := even (n := n) (j := j) hs1
      have r1 := bnd_le (n := n) (s := s) (i := j) (by omega)
      have r2 := bnd_le (n := n) (s := s) (i := j + 1) (by omega)
      obtain ⟨q, hq⟩ : ∃ q : Nat, q = n / s := ⟨_, rfl⟩
      rw [← hq] at ev
      have q1 : (n : Int).tdiv (s : Int) = q := by rw [hq]; rfl
      have q2 : q ≤ n := by rw [hq]; exact Nat.div_le_self _ _
      have e1 : IntKind.i64.wrap (bnd n s (j + 1) - bnd n s j) = bnd n s (j + 1) - bnd n s j := by rw [IntKind.wrap_i64]; omega
      have l1 : ¬ (bnd n s (j + 1) - bnd n s j < (q : Int)) := by omega
      have l2 : ¬ ((q : Int) + 1 < bnd n s (j + 1) - bnd n s j) := by omega
      clear hq
      go_wp2
      go_quiet (fail)
      go_wp2
      exact ⟨⟨j + 1, by omega, by go_num, HO, ⟨HB.out.os, HB.out.tape, HB.out.output, HB.out.size, HB.out.block⟩⟩, by simp [intOf]; omega⟩
    · have hlt' : ¬ (j : Int) < (s : Int) := by omega
      go_wp2
      go_ret
      exact ⟨rfl, HB.out⟩

/-! ### The row's step -/
set_option maxRecDepth 100000 in
theorem lifted (os : Os) (started : os.Started) (H : Type) (enc : TypeId × Value → H) :
    ReturnsInHanded {} Try.checked os 5 .any (Rows.partEvenSpec.pre6 enc Try.prog Try.f5 Rows.partEvenRow.domain false) (Rows.partEvenSpec.post enc Try.prog Try.f5 false true false false) := by
  refine returnsInHanded_of_change (C := Try.checked) own started (by kernel_rfl) Try.func5
    (ChangeSpec.witness6 (enc := enc) (C := Try.checked) false ⟨#[], #[.int .i64 0, .int .i64 0], []⟩ 8 (by kernel_rfl) (by kernel_rfl) (by kernel_rfl) (by kernel_rfl)) ?_
  intro W base args ds gs before hval0 hW hcnd _
  have hval : ∀ (j : Nat) t v, Try.f5.params[j]? = some t → args[j]? = some v → Value.okWide Try.prog W .any base t v := hval0
  have hW' := hW
  obtain ⟨p, q, hA0, hV, rfl, hfz, hnd⟩ := hW
  have hA : DataW.TrodAll enc Try.prog W 0 (fun _ => true) true Try.f5.params.toList args.toList ds p := hA0
  rw [Try.params5] at hA hval
  obtain ⟨v0, vs0, d0, ds0, p0, q0, hargs, rfl, rfl, h0, r0⟩ := trodAll_cons hA
  obtain ⟨v1, vs1, d1, ds1, p1, q1, rfl, rfl, rfl, h1, r1⟩ := trodAll_cons r0
  obtain ⟨rfl, rfl, rfl⟩ := trodAll_nil r1
  obtain rfl : args = #[v0, v1] := by cases args; simp_all
  obtain ⟨rfl, rfl⟩ := trodVars_none hV
  obtain ⟨a0, rfl, rfl, rfl, w0⟩ := open_int Try.underlying3 (hval 0 3 v0 rfl rfl) h0
  obtain ⟨a1, rfl, rfl, rfl, w1⟩ := open_int Try.underlying3 (hval 1 3 v1 rfl rfl) h1
  clear hA0 hval0
  refine (walk a0 a1 W w0 w1).mono fun e W' ⟨he, bel⟩ => ?_
  subst he
  exact ⟨_, rfl, _, _, _, [], _, [], hW', trodAll_mk1 (shut_bool Try.underlying4 _), (trodAll_cons_mk (shut_int Try.underlying3 w0) (trodAll_cons_mk (shut_int Try.underlying3 w1) trodAll_mk0)), rfl, bel.frame _, fun h => by cases h⟩

theorem over : Rows.partEvenRow.holds Try.pinned (OpenSpec.ofChange Rows.partEvenSpec) :=
  OpenClaim.holds_of_wide 5 Try.f5 rfl rfl rfl rfl rfl rfl rfl ⟨rfl, rfl, rfl, rfl, rfl⟩ rfl rfl rfl rfl rfl (by kernel_rfl) Try.func5 (by kernel_rfl)
    (of_decide_eq_true (by kernel_rfl)) (by unfold Func.isWrapper; first | (rw [if_pos (by decide +kernel)]; kernel_rfl) | (rw [if_neg (by decide +kernel)]; exact ⟨rfl, rfl⟩))
    (fun os started H enc _ => lifted os started H enc)

/-- The statement. -/
theorem proved : Rows.PartEvenSaid := over
#print axioms proved
end Go.Proofs.Ytkogbljfeecnhaa.partEven
