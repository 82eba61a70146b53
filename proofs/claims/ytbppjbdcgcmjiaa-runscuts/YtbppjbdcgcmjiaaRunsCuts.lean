/-
  Proved: for every slice of records and budget, RunsCuts returns true and leaves the slice as it was (each run is as long as the budget, but for the last one; all runs have all records). No condition.
-/
import Derived.Deep.QuietTactic
import Derived.BigQuiet
import Derived.WalkKit
import Derived.ProofKit
import Derived.OpenShut
import Derived.ShutString
import Derived.Test.YtbppjbdcgcmjiaaQPieces
namespace Go.Proofs.Ytbppjbdcgcmjiaa.runsCuts
open Go.ChangeShapes Go.WideShapes Go.ChangeAt Go.RowKit
open Go.ChangeMaps (open_string shut_string)
set_option linter.unusedVariables false

theorem own : ownKnob Try.prog.godebug = none := by kernel_rfl
theorem laidOut : laidOutB Try.prog = true := by kernel_rfl

theorem flat_snoc (ls : List (List Rc)) (i : Nat) (hi : i < ls.length) : (ls.take (i + 1)).flatten = (ls.take i).flatten ++ (ls[i]?.getD []) := by
  rw [List.take_succ_eq_append_getElem hi, List.flatten_append, List.getElem?_eq_getElem hi]
  simp


/-! ### The walk -/
set_option maxRecDepth 100000 in
set_option maxHeartbeats 2000000 in
theorem walk (a0 : Option Addr) (len0 cap0 : Nat) (es0 : List Rc) (a1 : Int) (w : World) (i0 : IsR w (.slice a0 len0 cap0) es0) (l0 : es0.length = len0) (m0 : len0 ≤ maxLen) (w1 : (Lit.int .i64 a1).wf = true) :
    Calls Try.prog 10 #[.slice a0 len0 cap0, .int .i64 a1] w fun e w' => e = .returned (.bool true) ∧ Below w.heap.size w w' := by
  subst l0
  unfold maxLen at m0
  obtain ⟨o1, hc1, ho1⟩ : ∃ o : Nat, (bits .and .i64 a1 65535).tmod 50 = (o : Int) ∧ o < 50 := by
    refine ⟨((a1 % 65536).tmod 50).toNat, ?_, ?_⟩
    · rw [i64_and65535]
      have := Int.tmod_nonneg 50 (show 0 ≤ a1 % 65536 by omega)
      omega
    · have h1 := Int.tmod_nonneg 50 (show 0 ≤ a1 % 65536 by omega)
      have h2 := Int.tmod_lt_of_pos (a1 % 65536) (show (0 : Int) < 50 by omega)
      omega
  obtain ⟨n1, hn1⟩ : ∃ n : Nat, n = o1 + 1 := ⟨_, rfl⟩
  have hw1 : IntKind.i64.wrap (1 + (o1 : Int)) = (n1 : Int) := by rw [i64_small _ (by omega) (by omega)]; omega
  have hs1 : 1 + (o1 : Int) = (n1 : Int) := by omega
  have hp1 : 0 < n1 ∧ n1 ≤ 50 := by omega
  clear hn1
  have SH := hide (shown_any w)
  have I0 := hide i0
  have HOK : Hid (∀ e ∈ es0.take 100, okR e) := by
    obtain ⟨_, _, _, _, _, _, h⟩ := I0.out
    exact fun e he => h e (List.mem_of_mem_take he)
  clear i0
  obtain ⟨E, hE⟩ : ∃ E, E = es0.take 100 := ⟨_, rfl⟩
  have hEl : E.length ≤ 100 := by rw [hE]; simp; omega
  rw [← hE] at HOK
  obtain ⟨m, hm⟩ : ∃ m, m = E.length := ⟨_, rfl⟩
  have hm1 : m ≤ 100 := by omega
  obtain ⟨q, hq⟩ : ∃ q, q = pcN m n1 := ⟨_, rfl⟩
  have hq1 : q ≤ m := by rw [hq]; exact pcN_le _ _ hp1.1
  have hwa : IntKind.i64.wrap ((m : Int) + (n1 : Int)) = (m : Int) + (n1 : Int) := i64_small _ (by omega) (by omega)
  have hwb : IntKind.i64.wrap ((m : Int) + (n1 : Int) - 1) = (m : Int) + (n1 : Int) - 1 := i64_small _ (by omega) (by omega)
  have hdv : ((m : Int) + (n1 : Int) - 1).tdiv (n1 : Int) = (q : Int) := by
    rw [hq, pcN, Int.tdiv_eq_ediv_of_nonneg (by omega)]
    have : (m : Int) + (n1 : Int) - 1 = ((m + n1 - 1 : Nat) : Int) := by omega
    rw [this]
    exact (Int.natCast_ediv _ _).symm
  have hwc : IntKind.i64.wrap (q : Int) = (q : Int) := i64_small _ (by omega) (by omega)
  have hne1 : ((n1 : Int) = 0) = False := by simp; omega
  obtain ⟨C, hC⟩ : ∃ C, C = cutL 0 n1 E := ⟨_, rfl⟩
  have hCl : C.length = q := by rw [hC, cutL_length, hq, hm]
  have hCe : ∀ i, i < q → (C[i]?.getD []).length = min n1 (m - i * n1) ∧ i * n1 < m := fun i hi => by
    have hin : i * n1 < m := by rw [hq] at hi; exact (pcN_lt hp1.1).1 hi
    refine ⟨?_, hin⟩
    rw [hC, cutL, List.getElem?_map, List.getElem?_range (by rw [← hm, ← hq]; exact hi)]
    show (canR 0 (pcL E n1 i)).length = _
    rw [canR_zero, sortR_length, pcL_length, hm]
    simp
  have hCf : sortR [] C.flatten = sortR [] E := by
    have := can_cut (how := 0) n1 hp1.1 HOK.out
    rw [canR_zero, canR_zero, ← hC] at this
    exact this
  have hCs : C.flatten.length ≤ 100 := by
    have := cut_flat_le 0 n1 hp1.1 E
    rw [← hC] at this
    omega
  have HE := hide (And.intro hE (And.intro hm (And.intro hEl hC)))
  have HC := hide (And.intro hCl (And.intro hCe (And.intro hCf hCs)))
  have HP := hide (And.intro hp1 hq)
  clear hE hm hq hEl hp1 hC hCl hCe hCf hCs
  go_enter Try.func10, Try.ntmps10
  go_wp2_with fail
  refine SH.out.mono ?_
  rintro e w1 ⟨rfl, b1⟩
  have I1 := hide (I0.out.below b1)
  have B1 := hide b1
  clear b1 SH
  go_wp2_with fail
  refine (few_any I1.out (by omega)).mono ?_
  rintro e w2 ⟨v2, rfl, r2, b2, n2'⟩
  rw [← HE.out.1] at r2
  obtain ⟨a2', c2, rfl⟩ : ∃ a c, v2 = .slice a m c := by
    obtain ⟨a, c, e, _⟩ := r2.isR.form
    rw [← HE.out.2.1] at e
    exact ⟨a, c, e⟩
  have R2 := hide (And.intro r2.isR (B1.out.trans (b2.mono B1.out.size)))
  clear r2 b2 n2' I1 B1
  go_wp2_with fail
  refine (cut_any _ E n1 0 _ R2.out.1 (by have := HE.out.2.2.1; omega) HP.out.1.1 (by have := HP.out.1.2; omega) (by decide)).mono ?_
  rintro e w3 ⟨va, rfl, r3, b3, n3⟩
  rw [← HE.out.2.2.2] at r3
  obtain ⟨aa, ca, rfl⟩ : ∃ a c, va = .slice a q c := by
    obtain ⟨a, c, e⟩ := r3.slice
    rw [HC.out.1] at e
    exact ⟨a, c, e⟩
  have R3 := hide (And.intro (R2.out.1.below b3) (And.intro r3.isRR (R2.out.2.trans (b3.mono R2.out.2.size))))
  clear r3 b3 n3 R2
  go_wp2
  go_loopw [8, 9] (fun va v wr => ∃ i : Nat, v = .int .i64 (i : Int) ∧ i ≤ q ∧ Hid (RowR wr va (C.take i).flatten ∧ (∀ x ∈ Go.Proofs.Ytbppjbdcgcmjiaa.own va, w3.heap.size ≤ x) ∧ Below w3.heap.size w3 wr)) (fun _ v _ => q + 1 - numOf v)
  case atStart => exact ⟨0, rfl, Nat.zero_le _, by simpa using RowR.nil _, by simp [Go.Proofs.Ytbppjbdcgcmjiaa.own, Value.ownBlock], Below.refl _ _⟩
  case round =>
    obtain ⟨i, rfl, hi, HR⟩ := hrel
    have hw1 : IntKind.i64.wrap ((i : Int) + 1) = (i : Int) + 1 := i64_small _ (by omega) (by omega)
    by_cases hin : i < q
    · have hin' : (i : Int) < (q : Int) := by omega
      obtain ⟨b, off, c', e, _, hc⟩ := (R3.out.2.1.below HR.out.2.2).opened (by have := HC.out.1; omega)
      simp only [Value.slice.injEq] at e
      obtain ⟨rfl, hx1, rfl⟩ := e
      clear hx1
      obtain ⟨ai, ci, hcell, hI⟩ := hc i (by have := HC.out.1; omega)
      obtain ⟨hl1, hl2⟩ := HC.out.2.1 i hin
      have hnext : i + 1 < q → (i + 1) * n1 < m := fun h => (HC.out.2.1 (i + 1) h).2
      rw [Nat.succ_mul] at hnext
      have hfs : (C.take (i + 1)).flatten.length ≤ 100 := by
        have h1 := HC.out.2.2.2
        have h2 := List.take_append_drop (i + 1) C
        have h3 : C.flatten.length = (C.take (i + 1)).flatten.length + (C.drop (i + 1)).flatten.length := by
          rw [← List.length_append, ← List.flatten_append, h2]
        omega
      have HF : Hid ((C.take i).flatten.length + (C[i]?.getD []).length ≤ 1099511627776) := by
        show _ ≤ _
        rw [flat_snoc C i (by have := HC.out.1; omega), List.length_append] at hfs
        omega
      have FS : Hid ((C.take (i + 1)).flatten = (C.take i).flatten ++ (C[i]?.getD [])) := flat_snoc C i (by have := HC.out.1; omega)
      obtain ⟨L, hL⟩ : ∃ L, L = C[i]?.getD [] := ⟨_, rfl⟩
      rw [← hL] at hcell hI hl1 HF FS
      obtain ⟨li, hli⟩ : ∃ li, li = L.length := ⟨_, rfl⟩
      rw [← hli] at hcell hI hl1
      have hl0 : 0 < li := by omega
      have hl3 : li ≤ n1 := by omega
      have hl4 : i + 1 < q → li = n1 := fun h => by have := hnext h; omega
      have hz : ((li : Int) == 0) = false := by simp; omega
      have hgt : decide ((n1 : Int) < (li : Int)) = false := by simp; omega
      have R1 := hide HR.out.1
      have HI := hide hI
      clear hl1 hl2 hnext hfs hL hli hc hI
      by_cases hb : i + 1 < q
      · obtain rfl := hl4 hb
        have hbt : decide ((i : Int) + 1 < (q : Int)) = true := by simp; omega
        have hbi : (i : Int) + 1 < (q : Int) := by omega
        go_wp2_with (first | (at_builtin; refine wp_appendR _ rfl _ _ rfl _ _ _ L rfl R1.out rfl HI.out HF.out ?_; intro v' w' hrow hk hn) | go_in)
        go_roundw
        case rel =>
          have hge := HR.out.2.1
          have hs := HR.out.2.2.size
          refine ⟨i + 1, by go_num, by omega, by rw [FS.out]; exact hrow, fun x hx => ?_, HR.out.2.2.trans (hk.below hs hge)⟩
          rcases hn x hx with h | h
          · exact hge x h
          · omega
        case measure => simp [numOf]; omega
      · have hbt : decide ((i : Int) + 1 < (q : Int)) = false := by simp; omega
        have hbi : ¬ ((i : Int) + 1 < (q : Int)) := by omega
        go_wp2_with (first | (at_builtin; refine wp_appendR _ rfl _ _ rfl _ _ _ L rfl R1.out rfl HI.out HF.out ?_; intro v' w' hrow hk hn) | go_in)
        go_roundw
        case rel =>
          have hge := HR.out.2.1
          have hs := HR.out.2.2.size
          refine ⟨i + 1, by go_num, by omega, by rw [FS.out]; exact hrow, fun x hx => ?_, HR.out.2.2.trans (hk.below hs hge)⟩
          rcases hn x hx with h | h
          · exact hge x h
          · omega
        case measure => simp [numOf]; omega
    · obtain rfl : i = q := by omega
      have hle : ¬ ((i : Int) < (i : Int)) := by omega
      obtain ⟨h1, h2, h3⟩ := HR.out
      rw [List.take_of_length_le (by have := HC.out.1; omega)] at h1
      have F := hide (And.intro h1.isR (And.intro (R3.out.1.below h3) (R3.out.2.2.trans (h3.mono R3.out.2.2.size))))
      clear h1 h2 h3
      go_wp2_with fail
      refine (refSort_any F.out.1 (by have := HC.out.2.2.2; omega)).mono ?_
      rintro e w5 ⟨v5, rfl, r5, b5⟩
      rw [HC.out.2.2.1] at r5
      have F5 := hide (And.intro r5.isR (And.intro (F.out.2.1.below b5) (F.out.2.2.trans (b5.mono F.out.2.2.size))))
      clear r5 b5 F
      go_wp2_with fail
      refine (refSort_any F5.out.2.1 (by have := HE.out.2.2.1; omega)).mono ?_
      rintro e w6 ⟨v6, rfl, r6, b6⟩
      have F6 := hide (And.intro (F5.out.1.below b6) (And.intro r6.isR (F5.out.2.2.trans (b6.mono F5.out.2.2.size))))
      clear r6 b6 F5
      go_wp2_with fail
      refine (same_any F6.out.1 F6.out.2.1 (by rw [sortR_length]; have := HE.out.2.2.1; simp; omega)).mono ?_
      rintro e w7 ⟨rfl, k7⟩
      rw [show decide (sortR [] E = sortR [] E) = true by simp]
      have F7 := hide (F6.out.2.2.trans (k7.below F6.out.2.2.size (by simp)))
      clear k7 F6
      go_wp2
      go_ret
      exact ⟨rfl, F7.out⟩

/-! ### The row's step -/
set_option maxRecDepth 100000 in
theorem lifted (os : Os) (started : os.Started) (H : Type) (enc : TypeId × Value → H) :
    ReturnsInHanded {} Try.checked os 10 .any (Rows.runsCutsSpec.pre6 enc Try.prog Try.f10 Rows.runsCutsRow.domain false) (Rows.runsCutsSpec.post enc Try.prog Try.f10 false true false false) := by
  refine returnsInHanded_of_change (C := Try.checked) own started (by kernel_rfl) Try.func10
    (ChangeSpec.witness6 (enc := enc) (C := Try.checked) false ⟨#[], #[.slice none 0 0, .int .i64 0], []⟩ 8 (by kernel_rfl) (by kernel_rfl) (by kernel_rfl) (by kernel_rfl)) ?_
  intro W base args ds gs before hval0 hW hcnd _
  have hval : ∀ (j : Nat) t v, Try.f10.params[j]? = some t → args[j]? = some v → Value.okWide Try.prog W .any base t v := hval0
  have hW' := hW
  obtain ⟨p, q, hA0, hV, rfl, hfz, hnd⟩ := hW
  have hA : DataW.TrodAll enc Try.prog W 0 (fun _ => true) true Try.f10.params.toList args.toList ds p := hA0
  rw [Try.params10] at hA hval
  obtain ⟨v0, vs0, d0, ds0, p0, q0, hargs, rfl, rfl, h0, r0⟩ := trodAll_cons hA
  obtain ⟨v1, vs1, d1, ds1, p1, q1, rfl, rfl, rfl, h1, r1⟩ := trodAll_cons r0
  obtain ⟨rfl, rfl, rfl⟩ := trodAll_nil r1
  obtain rfl : args = #[v0, v1] := by cases args; simp_all
  obtain ⟨rfl, rfl⟩ := trodVars_none hV
  obtain ⟨a0, len0, cap0, rfl⟩ := okWide_slice Try.underlying22 (hval 0 22 v0 rfl rfl)
  have k0 := h0
  have lt0 : ∀ x ∈ p0, x.block < W.heap.size := by obtain ⟨m, hm⟩ := k0; exact DataW.trod_lt m _ _ _ hm
  obtain ⟨es0, i0, l0, m0⟩ : ∃ es, IsR W (.slice a0 len0 cap0) es ∧ es.length = len0 ∧ len0 ≤ maxLen := by
    obtain ⟨fuel, hf⟩ := h0
    obtain ⟨a, len, cap, es, hcs, h1, h2, h3⟩ := recsIn hf
    simp [Value.cells] at hcs
    obtain ⟨rfl, rfl, rfl⟩ := hcs
    exact ⟨es, h1, h2, h3⟩
  obtain ⟨a1, rfl, rfl, rfl, w1⟩ := open_int Try.underlying3 (hval 1 3 v1 rfl rfl) h1
  clear hA0 hval0
  refine (walk a0 len0 cap0 es0 a1 W i0 l0 m0 w1).mono fun e W' ⟨he, bel⟩ => ?_
  subst he
  exact ⟨_, rfl, _, _, _, [], _, [], hW', trodAll_mk1 (shut_bool Try.underlying4 _), (trodAll_cons_mk (Below.trod laidOut (by kernel_rfl) (of_decide_eq_true (by kernel_rfl)) k0 bel lt0) (trodAll_cons_mk (shut_int Try.underlying3 w1) trodAll_mk0)), rfl, bel.frame _, fun h => by cases h⟩

theorem over : Rows.runsCutsRow.holds Try.pinned (OpenSpec.ofChange Rows.runsCutsSpec) :=
  OpenClaim.holds_of_wide 10 Try.f10 rfl rfl rfl rfl rfl rfl rfl ⟨rfl, rfl, rfl, rfl, rfl⟩ rfl rfl rfl rfl rfl (by kernel_rfl) Try.func10 (by kernel_rfl)
    (of_decide_eq_true (by kernel_rfl)) (by unfold Func.isWrapper; first | (rw [if_pos (by decide +kernel)]; kernel_rfl) | (rw [if_neg (by decide +kernel)]; exact ⟨rfl, rfl⟩))
    (fun os started H enc _ => lifted os started H enc)

/-- The statement. -/
theorem proved : Rows.RunsCutsSaid := over
#print axioms proved
end Go.Proofs.Ytbppjbdcgcmjiaa.runsCuts
