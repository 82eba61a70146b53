/-
  Proved: for every slice of records, budget and how, RunsTell returns true and leaves the slice as it was (records are sorted, cut and merged as the document says). No condition.
-/
import Derived.Deep.QuietTactic
import Derived.BigQuiet
import Derived.WalkKit
import Derived.ProofKit
import Derived.OpenShut
import Derived.ShutString
import Derived.Test.YtbppjbdcgcmjiaaQTell
namespace Go.Proofs.Ytbppjbdcgcmjiaa.runsTell
open Go.ChangeShapes Go.WideShapes Go.ChangeAt Go.RowKit
open Go.ChangeMaps (open_string shut_string)
set_option linter.unusedVariables false

theorem own : ownKnob Try.prog.godebug = none := by kernel_rfl
theorem laidOut : laidOutB Try.prog = true := by kernel_rfl

theorem mayH_cases {h : Int} (hh : mayH h = true) : ∃ r : Nat, h = (r : Int) ∧ r < 3 := by
  have : (h = 0 ∨ h = 1) ∨ h = 2 := by simpa [mayH] using hh
  exact ⟨h.toNat, by omega, by omega⟩
theorem mayH_not {h : Int} (hh : mayH h = false) : h < 0 ∨ 2 < h := by
  simp [mayH] at hh
  omega


/-! ### The walk -/
set_option maxRecDepth 100000 in
set_option maxHeartbeats 4000000 in
theorem walk (a0 : Option Addr) (len0 cap0 : Nat) (es0 : List Rc) (a1 : Int) (a2 : Int) (w : World) (i0 : IsR w (.slice a0 len0 cap0) es0) (l0 : es0.length = len0) (m0 : len0 ≤ maxLen) (w1 : (Lit.int .i64 a1).wf = true) (w2 : (Lit.int .i64 a2).wf = true) :
    Calls Try.prog 3 #[.slice a0 len0 cap0, .int .i64 a1, .int .i64 a2] w fun e w' => e = .returned (.bool true) ∧ Below w.heap.size w w' := by
  subst l0
  unfold maxLen at m0
  have SH := hide (shown_any w)
  have I0 := hide i0
  have HOK : Hid (∀ e ∈ es0.take 100, okR e) := by
    obtain ⟨_, _, _, _, _, _, h⟩ := I0.out
    exact fun e he => h e (List.mem_of_mem_take he)
  clear i0
  obtain ⟨E, hE⟩ : ∃ E, E = es0.take 100 := ⟨_, rfl⟩
  have hEl : E.length ≤ 100 := by rw [hE]; simp; omega
  rw [← hE] at HOK
  have hEt : E.take 100 = E := List.take_of_length_le hEl
  obtain ⟨m, hm⟩ : ∃ m, m = E.length := ⟨_, rfl⟩
  have hm1 : m ≤ 100 := by omega
  obtain ⟨b, hb⟩ : ∃ b, min a1 1000 = b := ⟨_, rfl⟩
  have HE := hide (And.intro hE (And.intro hm (And.intro hEl hEt)))
  clear hE hm hEl hEt
  go_enter Try.func3, Try.ntmps3
  go_wp2_with fail
  refine SH.out.mono ?_
  rintro e w1 ⟨rfl, b1⟩
  have I1 := hide (I0.out.below b1)
  have B1 := hide b1
  clear b1 SH
  go_wp2_with fail
  refine (few_any I1.out (by omega)).mono ?_
  rintro e w2 ⟨v2, rfl, r2, b2, n2'⟩
  rw [← HE.out.1] at r2
  obtain ⟨a2', c2, rfl⟩ : ∃ a c, v2 = .slice a m c := by
    obtain ⟨a, c, e, _⟩ := r2.isR.form
    rw [← HE.out.2.1] at e
    exact ⟨a, c, e⟩
  have R2 := hide (And.intro r2.isR (B1.out.trans (b2.mono B1.out.size)))
  clear r2 b2 n2' I1 B1
  go_wp2_with fail
  refine (few_any R2.out.1 (by have := HE.out.2.2.1; omega)).mono ?_
  rintro e w3 ⟨v3, rfl, r3, b3, n3'⟩
  rw [HE.out.2.2.2] at r3
  have R3 := hide (And.intro (R2.out.1.below b3) (And.intro r3.isR (R2.out.2.trans (b3.mono R2.out.2.size))))
  clear r3 b3 n3' R2
  go_wp2_with fail
  by_cases hh : mayH a2 = true
  · obtain ⟨r, rfl, hr3⟩ := mayH_cases hh
    have HM := hide hh
    clear hh
    have hg0 : (0 : Int) ≤ (r : Int) := by omega
    have hg0d : decide ((0 : Int) ≤ (r : Int)) = true := decide_eq_true hg0
    have hg2 : (r : Int) ≤ 2 := by omega
    have hg2d : decide ((r : Int) ≤ 2) = true := decide_eq_true hg2
    refine (sorted_any _ E (r : Int) _ R3.out.1 (by have := HE.out.2.2.1; omega) HM.out).mono ?_
    rintro e w4 ⟨v4, rfl, r4, b4, n4'⟩
    have R4 := hide (And.intro (R3.out.1.below b4) (And.intro (R3.out.2.1.below b4) (And.intro (show IsR w4 v4 (canR (r : Int) E) from r4.isR) (R3.out.2.2.trans (b4.mono R3.out.2.2.size)))))
    clear r4 b4 n4' R3
    have hCE : Hid ((canR (r : Int) E).length ≤ 1000000) := by show _ ≤ _; have := canR_le (r : Int) E; have := HE.out.2.2.1; omega
    go_wp2_with fail
    by_cases hbn : b < 1
    · have hb1 : ¬ (0 : Int) < b := by omega
      have hb1d : decide ((0 : Int) < b) = false := decide_eq_false hb1
      have hb2d : decide (b < 1) = true := decide_eq_true hbn
      refine (cut_no _ b (r : Int) _ (.inr hbn)).mono ?_
      rintro e w5 ⟨rfl, b5⟩
      have R5 := hide (And.intro (R4.out.1.below b5) (And.intro (R4.out.2.1.below b5) (And.intro (R4.out.2.2.1.below b5) (R4.out.2.2.2.trans (b5.mono R4.out.2.2.2.size)))))
      clear b5 R4
      go_wp2_with fail
      refine (same_any R5.out.1 R5.out.2.1 (by have := HE.out.2.2.1; omega)).mono ?_
      rintro e w6 ⟨rfl, k6⟩
      rw [show decide (E = E) = true by simp]
      have R6 := hide (And.intro (R5.out.1.kept k6 (by simp)) (And.intro (R5.out.2.2.1.kept k6 (by simp)) (R5.out.2.2.2.trans (k6.below R5.out.2.2.2.size (by simp)))))
      clear k6 R5
      go_wp2_with fail
      refine (refSorted_any (r : Int) R6.out.1 (by have := HE.out.2.2.1; omega)).mono ?_
      rintro e w7 ⟨v7, rfl, r7, b7⟩
      have R7 := hide (And.intro (R6.out.2.1.below b7) (And.intro r7 (R6.out.2.2.trans (b7.mono R6.out.2.2.size))))
      clear r7 b7 R6
      go_wp2_with fail
      refine (same_any R7.out.1 R7.out.2.1 hCE.out).mono ?_
      rintro e w8 ⟨rfl, k8⟩
      rw [show decide (canR (r : Int) E = canR (r : Int) E) = true by simp]
      have R8 := hide (R7.out.2.2.trans (k8.below R7.out.2.2.size (by simp)))
      clear k8 R7
      go_wp2
      go_ret
      exact ⟨rfl, R8.out⟩
    · obtain ⟨n, rfl, hn0, hn1⟩ : ∃ n : Nat, b = (n : Int) ∧ 0 < n ∧ n ≤ 1000 := ⟨b.toNat, by omega, by omega, by omega⟩
      have hb1 : (0 : Int) < (n : Int) := by omega
      have hb1d : decide ((0 : Int) < (n : Int)) = true := decide_eq_true hb1
      have hb2 : ¬ (n : Int) < 1 := by omega
      have hb2d : decide ((n : Int) < 1) = false := decide_eq_false hb2
      obtain ⟨C, hC⟩ : ∃ C, C = cutL (r : Int) n E := ⟨_, rfl⟩
      obtain ⟨q, hq⟩ : ∃ q, q = C.length := ⟨_, rfl⟩
      have hq1 : q ≤ 100 := by
        rw [hq, hC, cutL_length]
        have := pcN_le E.length n hn0
        have := HE.out.2.2.1
        omega
      have hCl : ∀ i, (C[i]?.getD []).length ≤ 1000000 := fun i => by
        have hf := cut_flat_le (r : Int) n hn0 E
        rw [← hC] at hf
        by_cases hi : i < C.length
        · have h1 := flat_le hf (C[i]) (List.getElem_mem hi)
          rw [List.getElem?_eq_getElem hi]
          have := HE.out.2.2.1
          simp
          omega
        · rw [List.getElem?_eq_none (by omega)]
          simp
      have HC := hide (And.intro hC (And.intro hq hCl))
      clear hC hq hCl
      refine (cut_any _ E n (r : Int) _ R4.out.1 (by have := HE.out.2.2.1; omega) hn0 (by omega) HM.out).mono ?_
      rintro e w5 ⟨v5, rfl, r5, b5, n5'⟩
      rw [← HC.out.1] at r5
      obtain ⟨a5, c5, rfl⟩ : ∃ a c, v5 = .slice a q c := by
        obtain ⟨a, c, e⟩ := r5.slice
        rw [← HC.out.2.1] at e
        exact ⟨a, c, e⟩
      have R5 := hide (And.intro (R4.out.1.below b5) (And.intro (R4.out.2.1.below b5) (And.intro (R4.out.2.2.1.below b5) (And.intro r5.isRR (R4.out.2.2.2.trans (b5.mono R4.out.2.2.2.size))))))
      clear r5 b5 n5' R4
      go_wp2_with fail
      refine (same_any R5.out.1 R5.out.2.1 (by have := HE.out.2.2.1; omega)).mono ?_
      rintro e w6 ⟨rfl, k6⟩
      rw [show decide (E = E) = true by simp]
      have b6 := k6.below (Nat.le_refl _) (by simp)
      have R6 := hide (And.intro (R5.out.1.below b6) (And.intro (R5.out.2.2.1.below b6) (And.intro (R5.out.2.2.2.1.below b6) (R5.out.2.2.2.2.trans (b6.mono R5.out.2.2.2.2.size)))))
      clear k6 b6 R5
      go_wp2_with fail
      refine (refSorted_any (r : Int) R6.out.1 (by have := HE.out.2.2.1; omega)).mono ?_
      rintro e w7 ⟨v7, rfl, r7, b7⟩
      have R7 := hide (And.intro (R6.out.1.below b7) (And.intro (R6.out.2.1.below b7) (And.intro r7 (And.intro (R6.out.2.2.1.below b7) (R6.out.2.2.2.trans (b7.mono R6.out.2.2.2.size))))))
      clear r7 b7 R6
      go_wp2_with fail
      refine (same_any R7.out.2.1 R7.out.2.2.1 hCE.out).mono ?_
      rintro e w8 ⟨rfl, k8⟩
      rw [show decide (canR (r : Int) E = canR (r : Int) E) = true by simp]
      have b8 := k8.below (Nat.le_refl _) (by simp)
      have R8 := hide (And.intro (R7.out.1.below b8) (And.intro (R7.out.2.2.2.1.below b8) (R7.out.2.2.2.2.trans (b8.mono R7.out.2.2.2.2.size))))
      clear k8 b8 R7
      go_wp2_with fail
      refine (refCut_any n (r : Int) R8.out.1 (by have := HE.out.2.2.1; omega) hn0 (by omega)).mono ?_
      rintro e w9 ⟨v9, rfl, r9, b9⟩
      rw [← HC.out.1] at r9
      obtain ⟨a9, c9, rfl⟩ : ∃ a c, v9 = .slice a q c := by
        obtain ⟨a, c, e, _⟩ := r9.form
        rw [← HC.out.2.1] at e
        exact ⟨a, c, e⟩
      have R9 := hide (And.intro (R8.out.2.1.below b9) (And.intro r9 (R8.out.2.2.trans (b9.mono R8.out.2.2.size))))
      clear r9 b9 R8
      go_wp2
      go_loopw [17] (fun v wr => ∃ i : Nat, v = .int .i64 (i : Int) ∧ i ≤ q ∧ Hid (Below w9.heap.size w9 wr)) (fun v _ => q + 1 - numOf v)
      case atStart => exact ⟨0, rfl, Nat.zero_le _, Below.refl _ _⟩
      case round =>
        obtain ⟨i, rfl, hi, HR⟩ := hrel
        have hw1 : IntKind.i64.wrap ((i : Int) + 1) = (i : Int) + 1 := i64_small _ (by omega) (by omega)
        by_cases hin : i < q
        · have hin' : (i : Int) < (q : Int) := by omega
          have hiC : i < C.length := by have := HC.out.2.1; omega
          obtain ⟨b, off, c', e, _, hc⟩ := (R9.out.1.below HR.out).opened (by omega)
          simp only [Value.slice.injEq] at e
          obtain ⟨rfl, hx1, rfl⟩ := e
          clear hx1
          obtain ⟨ai, ci, hcell, hI⟩ := hc i hiC
          obtain ⟨g, off2, c'', e, _, hd⟩ := (R9.out.2.1.below HR.out).opened (by omega)
          simp only [Value.slice.injEq] at e
          obtain ⟨rfl, hx1, rfl⟩ := e
          clear hx1
          obtain ⟨bi, di, hcell2, hI2⟩ := hd i hiC
          have hLl := HC.out.2.2 i
          obtain ⟨L, hL⟩ : ∃ L, L = C[i]?.getD [] := ⟨_, rfl⟩
          rw [← hL] at hcell hI hcell2 hI2 hLl
          obtain ⟨li, hli⟩ : ∃ li, li = L.length := ⟨_, rfl⟩
          rw [← hli] at hcell hI hcell2 hI2
          have CS : Hid (∀ W, Below wr.heap.size wr W → Calls Try.prog 15 #[.slice ai li ci, .slice bi li di] W fun e w' => e = .returned (.bool true) ∧ Below wr.heap.size wr w') := fun W hW => (same_any (hI.below hW) (hI2.below hW) hLl).mono (by
            rintro e w' ⟨rfl, k⟩
            exact ⟨by simp, hW.trans (k.below hW.size (by simp))⟩)
          have HCS : Hid (∀ W, Below wr.heap.size wr W → W.cell? ⟨b, off + i, none⟩ = some (.slice ai li ci) ∧ W.cell? ⟨g, off2 + i, none⟩ = some (.slice bi li di)) := fun W hb => ⟨(World.cell?_of_block (w := wr) (hb.block _ (World.block_lt_of_cell? wr _ hcell))).trans hcell, (World.cell?_of_block (w := wr) (hb.block _ (World.block_lt_of_cell? wr _ hcell2))).trans hcell2⟩
          clear hcell hcell2 hI hI2 hL hli hLl hc hd
          go_wp2
          go_region_held (fun W => W.cell? ⟨b, off + i, none⟩ = some (.slice ai li ci) ∧ W.cell? ⟨g, off2 + i, none⟩ = some (.slice bi li di)) (first | exact HCS.out _ (Below.refl _ _).drew | exact HCS.out _ b2) (first | (go_at_call 15; refine (CS.out _ (Below.refl _ _).drew).mono ?_; rintro e w2 ⟨rfl, b2⟩))
          have HI2 : Hid (Below w9.heap.size w9 w2) := HR.out.trans (b2.mono HR.out.size)
          go_wp2
          go_roundw
          case rel => exact ⟨i + 1, by go_num, by omega, HI2.out⟩
          case measure => simp [numOf]; omega
        · obtain rfl : i = q := by omega
          have hle : ¬ ((i : Int) < (i : Int)) := by omega
          have F : Hid (Below w.heap.size w wr) := R9.out.2.2.trans (HR.out.mono R9.out.2.2.size)
          go_wp2
          go_ret
          exact ⟨rfl, F.out⟩
  · have hh' : mayH a2 = false := by simpa using hh
    have HM := hide hh'
    have hnot := mayH_not hh'
    clear hh hh'
    refine (sorted_no _ a2 _ HM.out).mono ?_
    rintro e w4 ⟨rfl, rfl⟩
    go_wp2_with fail
    refine (cut_no _ b a2 _ (.inl HM.out)).mono ?_
    rintro e w5 ⟨rfl, b5⟩
    have R5 := hide (And.intro (R3.out.1.below b5) (And.intro (R3.out.2.1.below b5) (R3.out.2.2.trans (b5.mono R3.out.2.2.size))))
    clear b5 R3
    have hcase : (¬ (0 : Int) ≤ a2 ∧ decide ((0 : Int) ≤ a2) = false) ∨ (((0 : Int) ≤ a2 ∧ decide ((0 : Int) ≤ a2) = true) ∧ (¬ a2 ≤ 2 ∧ decide (a2 ≤ 2) = false)) := by
      by_cases h : 0 ≤ a2
      · exact .inr ⟨⟨h, decide_eq_true h⟩, by omega, decide_eq_false (by omega)⟩
      · exact .inl ⟨h, decide_eq_false h⟩
    clear hnot
    rcases hcase with ⟨hg, hgd⟩ | ⟨⟨hg, hgd⟩, hg2, hg2d⟩
    all_goals
      go_wp2_with fail
      refine (same_any R5.out.1 R5.out.2.1 (by have := HE.out.2.2.1; omega)).mono ?_
      rintro e w6 ⟨rfl, k6⟩
      rw [show decide (E = E) = true by simp]
      have R6 := hide (R5.out.2.2.trans (k6.below R5.out.2.2.size (by simp)))
      clear k6 R5
      go_wp2_with fail
      refine (mergeM_no _ a2 _ HM.out).mono ?_
      rintro e w7 ⟨rfl, rfl⟩
      have R7 := hide (R6.out.alloc R6.out.size (.cells #[.slice a2' m c2] 22))
      go_wp2
      go_ret
      exact ⟨rfl, R7.out⟩

/-! ### The row's step -/
set_option maxRecDepth 100000 in
theorem lifted (os : Os) (started : os.Started) (H : Type) (enc : TypeId × Value → H) :
    ReturnsInHanded {} Try.checked os 3 .any (Rows.runsTellSpec.pre6 enc Try.prog Try.f3 Rows.runsTellRow.domain false) (Rows.runsTellSpec.post enc Try.prog Try.f3 false true false false) := by
  refine returnsInHanded_of_change (C := Try.checked) own started (by kernel_rfl) Try.func3
    (ChangeSpec.witness6 (enc := enc) (C := Try.checked) false ⟨#[], #[.slice none 0 0, .int .i64 0, .int .i64 0], []⟩ 8 (by kernel_rfl) (by kernel_rfl) (by kernel_rfl) (by kernel_rfl)) ?_
  intro W base args ds gs before hval0 hW hcnd _
  have hval : ∀ (j : Nat) t v, Try.f3.params[j]? = some t → args[j]? = some v → Value.okWide Try.prog W .any base t v := hval0
  have hW' := hW
  obtain ⟨p, q, hA0, hV, rfl, hfz, hnd⟩ := hW
  have hA : DataW.TrodAll enc Try.prog W 0 (fun _ => true) true Try.f3.params.toList args.toList ds p := hA0
  rw [Try.params3] at hA hval
  obtain ⟨v0, vs0, d0, ds0, p0, q0, hargs, rfl, rfl, h0, r0⟩ := trodAll_cons hA
  obtain ⟨v1, vs1, d1, ds1, p1, q1, rfl, rfl, rfl, h1, r1⟩ := trodAll_cons r0
  obtain ⟨v2, vs2, d2, ds2, p2, q2, rfl, rfl, rfl, h2, r2⟩ := trodAll_cons r1
  obtain ⟨rfl, rfl, rfl⟩ := trodAll_nil r2
  obtain rfl : args = #[v0, v1, v2] := by cases args; simp_all
  obtain ⟨rfl, rfl⟩ := trodVars_none hV
  obtain ⟨a0, len0, cap0, rfl⟩ := okWide_slice Try.underlying22 (hval 0 22 v0 rfl rfl)
  have k0 := h0
  have lt0 : ∀ x ∈ p0, x.block < W.heap.size := by obtain ⟨m, hm⟩ := k0; exact DataW.trod_lt m _ _ _ hm
  obtain ⟨es0, i0, l0, m0⟩ : ∃ es, IsR W (.slice a0 len0 cap0) es ∧ es.length = len0 ∧ len0 ≤ maxLen := by
    obtain ⟨fuel, hf⟩ := h0
    obtain ⟨a, len, cap, es, hcs, h1, h2, h3⟩ := recsIn hf
    simp [Value.cells] at hcs
    obtain ⟨rfl, rfl, rfl⟩ := hcs
    exact ⟨es, h1, h2, h3⟩
  obtain ⟨a1, rfl, rfl, rfl, w1⟩ := open_int Try.underlying3 (hval 1 3 v1 rfl rfl) h1
  obtain ⟨a2, rfl, rfl, rfl, w2⟩ := open_int Try.underlying3 (hval 2 3 v2 rfl rfl) h2
  clear hA0 hval0
  refine (walk a0 len0 cap0 es0 a1 a2 W i0 l0 m0 w1 w2).mono fun e W' ⟨he, bel⟩ => ?_
  subst he
  exact ⟨_, rfl, _, _, _, [], _, [], hW', trodAll_mk1 (shut_bool Try.underlying4 _), (trodAll_cons_mk (Below.trod laidOut (by kernel_rfl) (of_decide_eq_true (by kernel_rfl)) k0 bel lt0) (trodAll_cons_mk (shut_int Try.underlying3 w1) (trodAll_cons_mk (shut_int Try.underlying3 w2) trodAll_mk0))), rfl, bel.frame _, fun h => by cases h⟩

theorem over : Rows.runsTellRow.holds Try.pinned (OpenSpec.ofChange Rows.runsTellSpec) :=
  OpenClaim.holds_of_wide 3 Try.f3 rfl rfl rfl rfl rfl rfl rfl ⟨rfl, rfl, rfl, rfl, rfl⟩ rfl rfl rfl rfl rfl (by kernel_rfl) Try.func3 (by kernel_rfl)
    (of_decide_eq_true (by kernel_rfl)) (by unfold Func.isWrapper; first | (rw [if_pos (by decide +kernel)]; kernel_rfl) | (rw [if_neg (by decide +kernel)]; exact ⟨rfl, rfl⟩))
    (fun os started H enc _ => lifted os started H enc)

/-- The statement. -/
theorem proved : Rows.RunsTellSaid := over
#print axioms proved
end Go.Proofs.Ytbppjbdcgcmjiaa.runsTell
