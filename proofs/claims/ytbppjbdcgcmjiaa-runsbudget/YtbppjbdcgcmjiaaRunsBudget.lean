/-
  Proved: for every slice of records, two budgets and how, RunsBudget returns true and leaves the slice as it was (it does not matter in what pieces records are sorted). No condition.
-/
import Derived.Deep.QuietTactic
import Derived.BigQuiet
import Derived.WalkKit
import Derived.ProofKit
import Derived.OpenShut
import Derived.ShutString
import Derived.Test.YtbppjbdcgcmjiaaQPieces
namespace Go.Proofs.Ytbppjbdcgcmjiaa.runsBudget
open Go.ChangeShapes Go.WideShapes Go.ChangeAt Go.RowKit
open Go.ChangeMaps (open_string shut_string)
set_option linter.unusedVariables false

theorem own : ownKnob Try.prog.godebug = none := by kernel_rfl
theorem laidOut : laidOutB Try.prog = true := by kernel_rfl


/-! ### The walk -/
set_option maxRecDepth 100000 in
set_option maxHeartbeats 2000000 in
theorem walk (a0 : Option Addr) (len0 cap0 : Nat) (es0 : List Rc) (a1 : Int) (a2 : Int) (a3 : Int) (w : World) (i0 : IsR w (.slice a0 len0 cap0) es0) (l0 : es0.length = len0) (m0 : len0 ≤ maxLen) (w1 : (Lit.int .i64 a1).wf = true) (w2 : (Lit.int .i64 a2).wf = true) (w3 : (Lit.int .i64 a3).wf = true) :
    Calls Try.prog 5 #[.slice a0 len0 cap0, .int .i64 a1, .int .i64 a2, .int .i64 a3] w fun e w' => e = .returned (.bool true) ∧ Below w.heap.size w w' := by
  subst l0
  unfold maxLen at m0
  obtain ⟨r, hcr, hr3⟩ : ∃ r : Nat, (bits .and .i64 a3 65535).tmod 3 = (r : Int) ∧ r < 3 := by
    refine ⟨((a3 % 65536).tmod 3).toNat, ?_, ?_⟩
    · rw [i64_and65535]
      have := Int.tmod_nonneg 3 (show 0 ≤ a3 % 65536 by omega)
      omega
    · have h1 := Int.tmod_nonneg 3 (show 0 ≤ a3 % 65536 by omega)
      have h2 := Int.tmod_lt_of_pos (a3 % 65536) (show (0 : Int) < 3 by omega)
      omega
  have hmay : mayH (r : Int) = true := by
    have : r = 0 ∨ r = 1 ∨ r = 2 := by omega
    rcases this with rfl | rfl | rfl <;> rfl
  obtain ⟨o1, hc1, ho1⟩ : ∃ o : Nat, (bits .and .i64 a1 65535).tmod 50 = (o : Int) ∧ o < 50 := by
    refine ⟨((a1 % 65536).tmod 50).toNat, ?_, ?_⟩
    · rw [i64_and65535]
      have := Int.tmod_nonneg 50 (show 0 ≤ a1 % 65536 by omega)
      omega
    · have h1 := Int.tmod_nonneg 50 (show 0 ≤ a1 % 65536 by omega)
      have h2 := Int.tmod_lt_of_pos (a1 % 65536) (show (0 : Int) < 50 by omega)
      omega
  obtain ⟨n1, hn1⟩ : ∃ n : Nat, n = o1 + 1 := ⟨_, rfl⟩
  have hw1 : IntKind.i64.wrap (1 + (o1 : Int)) = (n1 : Int) := by rw [i64_small _ (by omega) (by omega)]; omega
  have hs1 : 1 + (o1 : Int) = (n1 : Int) := by omega
  have hp1 : 0 < n1 ∧ n1 ≤ 50 := by omega
  clear hn1
  obtain ⟨o2, hc2, ho2⟩ : ∃ o : Nat, (bits .and .i64 a2 65535).tmod 50 = (o : Int) ∧ o < 50 := by
    refine ⟨((a2 % 65536).tmod 50).toNat, ?_, ?_⟩
    · rw [i64_and65535]
      have := Int.tmod_nonneg 50 (show 0 ≤ a2 % 65536 by omega)
      omega
    · have h1 := Int.tmod_nonneg 50 (show 0 ≤ a2 % 65536 by omega)
      have h2 := Int.tmod_lt_of_pos (a2 % 65536) (show (0 : Int) < 50 by omega)
      omega
  obtain ⟨n2, hn2⟩ : ∃ n : Nat, n = o2 + 1 := ⟨_, rfl⟩
  have hw2 : IntKind.i64.wrap (1 + (o2 : Int)) = (n2 : Int) := by rw [i64_small _ (by omega) (by omega)]; omega
  have hs2 : 1 + (o2 : Int) = (n2 : Int) := by omega
  have hp2 : 0 < n2 ∧ n2 ≤ 50 := by omega
  clear hn2
  have SH := hide (shown_any w)
  have I0 := hide i0
  have HOK : Hid (∀ e ∈ es0.take 100, okR e) := by
    obtain ⟨_, _, _, _, _, _, h⟩ := I0.out
    exact fun e he => h e (List.mem_of_mem_take he)
  have HM := hide hmay
  clear i0 hmay
  obtain ⟨E, hE⟩ : ∃ E, E = es0.take 100 := ⟨_, rfl⟩
  have hEl : E.length ≤ 100 := by rw [hE]; simp; omega
  rw [← hE] at HOK
  obtain ⟨m, hm⟩ : ∃ m, m = E.length := ⟨_, rfl⟩
  have hm1 : m ≤ 100 := by omega
  obtain ⟨q, hq⟩ : ∃ q, q = pcN m n1 := ⟨_, rfl⟩
  have hq1 : q ≤ m := by rw [hq]; exact pcN_le _ _ hp1.1
  have hwa : IntKind.i64.wrap ((m : Int) + (n1 : Int)) = (m : Int) + (n1 : Int) := i64_small _ (by omega) (by omega)
  have hwb : IntKind.i64.wrap ((m : Int) + (n1 : Int) - 1) = (m : Int) + (n1 : Int) - 1 := i64_small _ (by omega) (by omega)
  have hdv : ((m : Int) + (n1 : Int) - 1).tdiv (n1 : Int) = (q : Int) := by
    rw [hq, pcN, Int.tdiv_eq_ediv_of_nonneg (by omega)]
    have : (m : Int) + (n1 : Int) - 1 = ((m + n1 - 1 : Nat) : Int) := by omega
    rw [this]
    exact (Int.natCast_ediv _ _).symm
  have hwc : IntKind.i64.wrap (q : Int) = (q : Int) := i64_small _ (by omega) (by omega)
  have hne1 : ((n1 : Int) = 0) = False := by simp; omega
  have HE := hide (And.intro hE (And.intro hm (And.intro hq hEl)))
  have HP := hide (And.intro hp1 hp2)
  clear hE hm hq hEl hp1 hp2
  go_enter Try.func5, Try.ntmps5
  go_wp2_with fail
  refine SH.out.mono ?_
  rintro e w1 ⟨rfl, b1⟩
  have I1 := hide (I0.out.below b1)
  have B1 := hide b1
  clear b1 SH
  go_wp2_with fail
  refine (few_any I1.out (by omega)).mono ?_
  rintro e w2 ⟨v2, rfl, r2, b2, n2'⟩
  rw [← HE.out.1] at r2
  obtain ⟨a2', c2, rfl⟩ : ∃ a c, v2 = .slice a m c := by
    obtain ⟨a, c, e, _⟩ := r2.isR.form
    rw [← HE.out.2.1] at e
    exact ⟨a, c, e⟩
  have R2 := hide (And.intro r2.isR (B1.out.trans (b2.mono B1.out.size)))
  clear r2 b2 n2' I1 B1
  go_wp2_with fail
  refine (cut_any _ E n1 (r : Int) _ R2.out.1 (by have := HE.out.2.2.2; omega) HP.out.1.1 (by have := HP.out.1.2; omega) HM.out).mono ?_
  rintro e w3 ⟨va, rfl, r3, b3, n3⟩
  obtain ⟨aa, ca, rfl⟩ : ∃ a c, va = .slice a q c := by
    obtain ⟨a, c, e⟩ := r3.slice
    rw [cutL_length, ← HE.out.2.1, ← HE.out.2.2.1] at e
    exact ⟨a, c, e⟩
  have R3 := hide (And.intro (R2.out.1.below b3) (And.intro r3.isRR (R2.out.2.trans (b3.mono R2.out.2.size))))
  clear r3 b3 n3 R2
  go_wp2_with fail
  refine (cut_any _ E n2 (r : Int) _ R3.out.1 (by have := HE.out.2.2.2; omega) HP.out.2.1 (by have := HP.out.2.2; omega) HM.out).mono ?_
  rintro e w4 ⟨vb, rfl, r4, b4, n4⟩
  have R4 := hide (And.intro (R3.out.1.below b4) (And.intro (R3.out.2.1.below b4) (And.intro r4.isRR (R3.out.2.2.trans (b4.mono R3.out.2.2.size)))))
  clear r4 b4 n4 R3
  go_wp2_with fail
  refine (mergeM_any (r : Int) R4.out.2.1 (by have := pcN_le E.length n1 HP.out.1.1; have := HE.out.2.2.2; rw [cutL_length]; omega) (by have := cut_flat_le (r : Int) n1 HP.out.1.1 E; have := HE.out.2.2.2; omega) HM.out).mono ?_
  rintro e w5 ⟨vx, rfl, r5, b5, n5⟩
  rw [can_cut n1 HP.out.1.1 HOK.out] at r5
  have R5 := hide (And.intro (R4.out.1.below b5) (And.intro (R4.out.2.2.1.below b5) (And.intro r5.isR (R4.out.2.2.2.trans (b5.mono R4.out.2.2.2.size)))))
  clear r5 b5 n5 R4
  go_wp2_with fail
  refine (mergeM_any (r : Int) R5.out.2.1 (by have := pcN_le E.length n2 HP.out.2.1; have := HE.out.2.2.2; rw [cutL_length]; omega) (by have := cut_flat_le (r : Int) n2 HP.out.2.1 E; have := HE.out.2.2.2; omega) HM.out).mono ?_
  rintro e w6 ⟨vy, rfl, r6, b6, n6⟩
  rw [can_cut n2 HP.out.2.1 HOK.out] at r6
  have R6 := hide (And.intro (R5.out.1.below b6) (And.intro (R5.out.2.2.1.below b6) (And.intro r6.isR (R5.out.2.2.2.trans (b6.mono R5.out.2.2.2.size)))))
  clear r6 b6 n6 R5
  go_wp2_with fail
  refine (sorted_any _ E (r : Int) _ R6.out.1 (by have := HE.out.2.2.2; omega) HM.out).mono ?_
  rintro e w7 ⟨vz, rfl, r7, b7, n7⟩
  have R7 := hide (And.intro (R6.out.2.1.below b7) (And.intro (R6.out.2.2.1.below b7) (And.intro (show IsR w7 vz (canR (r : Int) E) from r7.isR) (R6.out.2.2.2.trans (b7.mono R6.out.2.2.2.size)))))
  clear r7 b7 n7 R6
  have hcl : Hid ((canR (r : Int) E).length ≤ 1000000) := by
    show _ ≤ _
    have := canR_le (r : Int) E
    have := HE.out.2.2.2
    omega
  go_wp2_with fail
  refine (same_any R7.out.1 R7.out.2.1 hcl.out).mono ?_
  rintro e w8 ⟨rfl, k8⟩
  rw [show decide (canR (r : Int) E = canR (r : Int) E) = true by simp]
  have R8 := hide (And.intro (R7.out.1.kept k8 (fun _ _ => by simp)) (And.intro (R7.out.2.2.1.kept k8 (fun _ _ => by simp)) (R7.out.2.2.2.trans (k8.below R7.out.2.2.2.size (by simp)))))
  clear k8 R7
  go_wp2_with fail
  refine (same_any R8.out.1 R8.out.2.1 hcl.out).mono ?_
  rintro e w9 ⟨rfl, k9⟩
  rw [show decide (canR (r : Int) E = canR (r : Int) E) = true by simp]
  have R9 := hide (R8.out.2.2.trans (k9.below R8.out.2.2.size (by simp)))
  clear k9 R8
  go_wp2
  go_ret
  exact ⟨rfl, R9.out⟩

/-! ### The row's step -/
set_option maxRecDepth 100000 in
theorem lifted (os : Os) (started : os.Started) (H : Type) (enc : TypeId × Value → H) :
    ReturnsInHanded {} Try.checked os 5 .any (Rows.runsBudgetSpec.pre6 enc Try.prog Try.f5 Rows.runsBudgetRow.domain false) (Rows.runsBudgetSpec.post enc Try.prog Try.f5 false true false false) := by
  refine returnsInHanded_of_change (C := Try.checked) own started (by kernel_rfl) Try.func5
    (ChangeSpec.witness6 (enc := enc) (C := Try.checked) false ⟨#[], #[.slice none 0 0, .int .i64 0, .int .i64 0, .int .i64 0], []⟩ 8 (by kernel_rfl) (by kernel_rfl) (by kernel_rfl) (by kernel_rfl)) ?_
  intro W base args ds gs before hval0 hW hcnd _
  have hval : ∀ (j : Nat) t v, Try.f5.params[j]? = some t → args[j]? = some v → Value.okWide Try.prog W .any base t v := hval0
  have hW' := hW
  obtain ⟨p, q, hA0, hV, rfl, hfz, hnd⟩ := hW
  have hA : DataW.TrodAll enc Try.prog W 0 (fun _ => true) true Try.f5.params.toList args.toList ds p := hA0
  rw [Try.params5] at hA hval
  obtain ⟨v0, vs0, d0, ds0, p0, q0, hargs, rfl, rfl, h0, r0⟩ := trodAll_cons hA
  obtain ⟨v1, vs1, d1, ds1, p1, q1, rfl, rfl, rfl, h1, r1⟩ := trodAll_cons r0
  obtain ⟨v2, vs2, d2, ds2, p2, q2, rfl, rfl, rfl, h2, r2⟩ := trodAll_cons r1
  obtain ⟨v3, vs3, d3, ds3, p3, q3, rfl, rfl, rfl, h3, r3⟩ := trodAll_cons r2
  obtain ⟨rfl, rfl, rfl⟩ := trodAll_nil r3
  obtain rfl : args = #[v0, v1, v2, v3] := by cases args; simp_all
  obtain ⟨rfl, rfl⟩ := trodVars_none hV
  obtain ⟨a0, len0, cap0, rfl⟩ := okWide_slice Try.underlying22 (hval 0 22 v0 rfl rfl)
  have k0 := h0
  have lt0 : ∀ x ∈ p0, x.block < W.heap.size := by obtain ⟨m, hm⟩ := k0; exact DataW.trod_lt m _ _ _ hm
  obtain ⟨es0, i0, l0, m0⟩ : ∃ es, IsR W (.slice a0 len0 cap0) es ∧ es.length = len0 ∧ len0 ≤ maxLen := by
    obtain ⟨fuel, hf⟩ := h0
    obtain ⟨a, len, cap, es, hcs, h1, h2, h3⟩ := recsIn hf
    simp [Value.cells] at hcs
    obtain ⟨rfl, rfl, rfl⟩ := hcs
    exact ⟨es, h1, h2, h3⟩
  obtain ⟨a1, rfl, rfl, rfl, w1⟩ := open_int Try.underlying3 (hval 1 3 v1 rfl rfl) h1
  obtain ⟨a2, rfl, rfl, rfl, w2⟩ := open_int Try.underlying3 (hval 2 3 v2 rfl rfl) h2
  obtain ⟨a3, rfl, rfl, rfl, w3⟩ := open_int Try.underlying3 (hval 3 3 v3 rfl rfl) h3
  clear hA0 hval0
  refine (walk a0 len0 cap0 es0 a1 a2 a3 W i0 l0 m0 w1 w2 w3).mono fun e W' ⟨he, bel⟩ => ?_
  subst he
  exact ⟨_, rfl, _, _, _, [], _, [], hW', trodAll_mk1 (shut_bool Try.underlying4 _), (trodAll_cons_mk (Below.trod laidOut (by kernel_rfl) (of_decide_eq_true (by kernel_rfl)) k0 bel lt0) (trodAll_cons_mk (shut_int Try.underlying3 w1) (trodAll_cons_mk (shut_int Try.underlying3 w2) (trodAll_cons_mk (shut_int Try.underlying3 w3) trodAll_mk0)))), rfl, bel.frame _, fun h => by cases h⟩

theorem over : Rows.runsBudgetRow.holds Try.pinned (OpenSpec.ofChange Rows.runsBudgetSpec) :=
  OpenClaim.holds_of_wide 5 Try.f5 rfl rfl rfl rfl rfl rfl rfl ⟨rfl, rfl, rfl, rfl, rfl⟩ rfl rfl rfl rfl rfl (by kernel_rfl) Try.func5 (by kernel_rfl)
    (of_decide_eq_true (by kernel_rfl)) (by unfold Func.isWrapper; first | (rw [if_pos (by decide +kernel)]; kernel_rfl) | (rw [if_neg (by decide +kernel)]; exact ⟨rfl, rfl⟩))
    (fun os started H enc _ => lifted os started H enc)

/-- The statement. -/
theorem proved : Rows.RunsBudgetSaid := over
#print axioms proved
end Go.Proofs.Ytbppjbdcgcmjiaa.runsBudget
