/-
  Proved: for every row of slices of records and how, RunsMerge returns true and leaves what came in as it was (rows of records, whatever they are, are merged as the document says). No condition.
-/
import Derived.Deep.QuietTactic
import Derived.BigQuiet
import Derived.WalkKit
import Derived.ProofKit
import Derived.OpenShut
import Derived.ShutString
import Derived.Test.YtbppjbdcgcmjiaaQRef
namespace Go.Proofs.Ytbppjbdcgcmjiaa.runsMerge
open Go.ChangeShapes Go.WideShapes Go.ChangeAt Go.RowKit
open Go.ChangeMaps (open_string shut_string)
set_option linter.unusedVariables false

theorem own : ownKnob Try.prog.godebug = none := by kernel_rfl
theorem laidOut : laidOutB Try.prog = true := by kernel_rfl

/-- The rows that are merged: the first eight, each cut to forty records. -/
def fewX (ls : List (List Rc)) : List (List Rc) := (ls.take 8).map fun l => l.take 40
theorem fewX_snoc (ls : List (List Rc)) (i : Nat) (h8 : i < 8) (hi : i < ls.length) : ((ls.take (i + 1)).map fun l => l.take 40) = ((ls.take i).map fun l => l.take 40) ++ [(ls[i]?.getD []).take 40] := by
  rw [List.take_succ_eq_append_getElem hi, List.map_append, List.getElem?_eq_getElem hi]
  rfl
theorem flat40 (ls : List (List Rc)) (h : ∀ l ∈ ls, l.length ≤ 40) : ls.flatten.length ≤ ls.length * 40 := by
  induction ls with
  | nil => simp
  | cons l ls ih =>
    have h1 := h l (by simp)
    have h2 := ih (fun m hm => h m (by simp [hm]))
    simp only [List.flatten_cons, List.length_append, List.length_cons]
    omega


/-! ### The walk -/
set_option maxRecDepth 100000 in
set_option maxHeartbeats 8000000 in
theorem walk (a0 : Option Addr) (len0 cap0 : Nat) (bs0 : List (List Rc)) (a1 : Int) (w : World) (i0 : IsRR w (.slice a0 len0 cap0) bs0) (l0 : bs0.length = len0) (c0 : len0 ≤ cap0) (m0 : cap0 ≤ maxLen) (w1 : (Lit.int .i64 a1).wf = true) :
    Calls Try.prog 4 #[.slice a0 len0 cap0, .int .i64 a1] w fun e w' => e = .returned (.bool true) ∧ Below w.heap.size w w' := by
  unfold maxLen at m0
  obtain ⟨r, hcr, hr3⟩ : ∃ r : Nat, (bits .and .i64 a1 65535).tmod 3 = (r : Int) ∧ r < 3 := by
    refine ⟨((a1 % 65536).tmod 3).toNat, ?_, ?_⟩
    · rw [i64_and65535]
      have := Int.tmod_nonneg 3 (show 0 ≤ a1 % 65536 by omega)
      omega
    · have h1 := Int.tmod_nonneg 3 (show 0 ≤ a1 % 65536 by omega)
      have h2 := Int.tmod_lt_of_pos (a1 % 65536) (show (0 : Int) < 3 by omega)
      omega
  have hmay : mayH (r : Int) = true := by
    have : r = 0 ∨ r = 1 ∨ r = 2 := by omega
    rcases this with rfl | rfl | rfl <;> rfl
  have SH := hide (shown_any w)
  have I0 := hide i0
  have HOK := hide i0.ok
  have HM := hide hmay
  clear i0 hmay
  obtain ⟨hlb, hl0⟩ : len0 ≤ 9223372036854775807 ∧ bs0.length = len0 := ⟨by omega, l0⟩
  have HL := hide hl0
  clear l0 hl0
  go_enter Try.func4, Try.ntmps4
  go_wp2_with fail
  refine SH.out.mono ?_
  rintro e w1 ⟨rfl, b1⟩
  have B1 := hide b1
  clear b1 SH
  go_wp2
  go_loopw [6, 7] (fun vv v wr => ∃ i : Nat, v = .int .i64 (i : Int) ∧ i ≤ len0 ∧ i ≤ 8 ∧ Hid (RowX (fun _ => False) wr vv ((bs0.take i).map fun l => l.take 40) ∧ (∀ x ∈ Go.Proofs.Ytbppjbdcgcmjiaa.own vv, w.heap.size ≤ x) ∧ Below w.heap.size w wr)) (fun _ v _ => 9 - numOf v)
  case atStart => exact ⟨0, rfl, Nat.zero_le _, Nat.zero_le _, by simpa using RowX.nil _ _, by simp [Go.Proofs.Ytbppjbdcgcmjiaa.own, Value.ownBlock], B1.out⟩
  case round =>
    obtain ⟨i, rfl, hi, hi8, HR⟩ := hrel
    have hw1 : IntKind.i64.wrap ((i : Int) + 1) = (i : Int) + 1 := i64_small _ (by omega) (by omega)
    by_cases hin : i < len0 ∧ i < 8
    · obtain ⟨hin, h8⟩ := hin
      have hin' : (i : Int) < (len0 : Int) := by omega
      have h8' : (i : Int) < 8 := by omega
      have hil : i < bs0.length := by have := HL.out; omega
      obtain ⟨b, off, c', e, _, hc⟩ := I0.out.opened (by omega)
      simp only [Value.slice.injEq] at e
      obtain ⟨rfl, hx1, rfl⟩ := e
      clear hx1
      obtain ⟨ai, ci, hcell0, hI0⟩ := hc i hil
      have hcell := (World.cell?_of_block (w := w) (HR.out.2.2.block _ (World.block_lt_of_cell? w _ hcell0))).trans hcell0
      obtain ⟨L, hL⟩ : ∃ L, L = bs0[i]?.getD [] := ⟨_, rfl⟩
      rw [← hL] at hcell hcell0 hI0
      obtain ⟨k, hk⟩ : ∃ k, k = min L.length 40 := ⟨_, rfl⟩
      obtain ⟨li, hli⟩ : ∃ li, li = L.length := ⟨_, rfl⟩
      have hcap : L.length ≤ ci := by obtain ⟨_, _, e, h, _⟩ := hI0; simp only [Value.slice.injEq] at e; obtain ⟨_, _, rfl⟩ := e; exact h
      have hT0 := hI0.take k (by omega)
      have hTk : L.take k = L.take 40 := by rw [hk, List.take_eq_take_iff]; omega
      rw [hTk] at hT0
      have hkl : k ≤ li := by omega
      rw [← hli] at hcell hcap hk
      have hmi : min (li : Int) 40 = (k : Int) := by omega
      have hkc : (k : Int) ≤ (ci : Int) := by omega
      have hT := hT0.below HR.out.2.2
      have FC : Hid (∀ W, Below w.heap.size w W → W.cell? ⟨b, off + i, none⟩ = some (.slice ai li ci)) := fun W hW => by
        rw [hli]
        exact (World.cell?_of_block (w := w) (hW.block _ (World.block_lt_of_cell? w _ hcell0))).trans hcell0
      have BD : Hid (Below w.heap.size w wr.drew) := ⟨HR.out.2.2.os, HR.out.2.2.tape, HR.out.2.2.output, HR.out.2.2.size, HR.out.2.2.block⟩
      have R0 : Hid (RowR (wr.drew.alloc (.cells #[] 44)) (.slice (some ⟨wr.heap.size, 0, none⟩) 0 0) []) := rowR_empty wr.drew
      have TT : Hid (IsR (wr.drew.alloc (.cells #[] 44)) (.slice ai k ci) (L.take 40)) := IsR.alloc (w := wr.drew) hT _
      have HLE : Hid (([] : List Rc).length + (L.take 40).length ≤ 1099511627776) := by show _ ≤ _; simp; omega
      have HPU : Hid (∀ v4 w4, RowR w4 v4 ([] ++ L.take 40) → Kept (Go.Proofs.Ytbppjbdcgcmjiaa.own (.slice (some ⟨wr.heap.size, 0, none⟩) 0 0)) (wr.drew.alloc (.cells #[] 44)) w4 → Newly (wr.drew.alloc (.cells #[] 44)) (Go.Proofs.Ytbppjbdcgcmjiaa.own (.slice (some ⟨wr.heap.size, 0, none⟩) 0 0)) (Go.Proofs.Ytbppjbdcgcmjiaa.own v4) →
          (∃ a m c, v4 = .slice a m c) ∧ Below w.heap.size w w4 ∧ Below w.heap.size w (w4.alloc (.cells #[v4] 22)) ∧ ∀ ty, ∃ v' w', (Builtin.append_ #[28, 28] ty #[u6, .slice (some ⟨w4.heap.size, 0, none⟩) 1 1]).run Try.prog (w4.alloc (.cells #[v4] 22)) = .ok v' w' ∧
          (RowX (fun _ => False) w' v' ((bs0.take (i + 1)).map fun l => l.take 40) ∧ (∀ x ∈ Go.Proofs.Ytbppjbdcgcmjiaa.own v', w.heap.size ≤ x) ∧ Below w.heap.size w w')) := by
        intro v4 w4 r4 k4 n4
        obtain ⟨h1, h2, h3⟩ := HR.out
        have h1d : RowX (fun _ => False) wr.drew u6 ((bs0.take i).map fun l => l.take 40) := h1
        have kw : Kept [] wr.drew w4 := ((Kept.refl [] wr.drew).alloc (.cells #[] 44)).trans k4 (fun x hx => .inr (by simp [Go.Proofs.Ytbppjbdcgcmjiaa.own, Value.ownBlock] at hx; subst hx; exact Nat.le_refl _))
        have h1w := h1d.kept kw (by simp) (by simp)
        have bw : Below w.heap.size w w4 := BD.out.trans (kw.below BD.out.size (by simp))
        have hn4 : ∀ x ∈ Go.Proofs.Ytbppjbdcgcmjiaa.own v4, wr.heap.size ≤ x := fun x hx => by
          rcases n4 x hx with h | h
          · simp [Go.Proofs.Ytbppjbdcgcmjiaa.own, Value.ownBlock] at h
            omega
          · simp at h
            omega
        rw [List.nil_append] at r4
        refine ⟨by obtain ⟨a, c, e, _⟩ := r4.isR.form; exact ⟨a, _, c, e⟩, bw, bw.alloc bw.size _, fun ty => ?_⟩
        obtain ⟨v', w', hrun, r', k', n'⟩ := h1w.push r4.isR (fun hne x hx => ⟨fun hx' => by have := hn4 x hx; have := h1d.lt x hx'; simp at this; omega, fun h => h⟩) (by rw [List.length_map, List.length_take]; omega) ty
        refine ⟨v', w', hrun, ?_, fun x hx => ?_, bw.trans (k'.below bw.size h2)⟩
        · rw [fewX_snoc bs0 i h8 hil, ← hL]
          exact r'
        · rcases n' x hx with h | h
          · exact h2 x h
          · have := bw.size
            omega
      clear hcell0 hI0 hT0 hT hTk hL hli hk hc
      go_wp2
      go_region_held_law (fun W => W.cell? ⟨b, off + i, none⟩ = some (.slice ai li ci)) (first | exact FC.out _ BD.out | exact FC.out _ (BD.out.alloc BD.out.size _) | exact FC.out _ bw4 | exact FC.out _ bw5 | exact FC.out _ hrow.2.2) ((first
        | (refine step_appendR _ ?_ (.tmp 25) (.tmp 36) ?_ (.slice (some ⟨wr.heap.size, 0, none⟩) 0 0) (.slice ai k ci) [] (L.take 40) ?_ ?_ ?_ ?_ ?_ ?_; rfl; rfl; rfl; exact R0.out; rfl; exact TT.out; exact HLE.out; intro v4 w4 r4 k4 n4; obtain ⟨⟨a4, m4, c4, e4⟩, bw4, bw5, h4⟩ := HPU.out v4 w4 r4 k4 n4; subst e4; have H4 := hide h4; clear r4 k4 n4 h4)
        | (refine step_appendY _ _ ?_ 28 (.tmp 24) (.tmp 38) ?_ u6 (.slice (some ⟨w4.heap.size, 0, none⟩) 1 1) ?_ ?_ (H4.out _) ?_; rfl; rfl; rfl; rfl; intro v' w' hrow)))
      all_goals
        go_wp2
        go_roundw
      all_goals first
        | (case rel => exact ⟨i + 1, by go_num, by omega, by omega, hrow⟩)
        | (case measure => simp [numOf]; omega)
    · have hcase : ¬ ((i : Int) < (len0 : Int)) ∨ ((i : Int) < (len0 : Int) ∧ ¬ ((i : Int) < 8)) := by omega
      obtain ⟨R, hR⟩ : ∃ R, R = (bs0.take i).map fun l => l.take 40 := ⟨_, rfl⟩
      have hRl : R.length ≤ 8 := by rw [hR]; simp; omega
      have hRf : R.flatten.length ≤ 320 := by
        have := flat40 R (fun l hl => by rw [hR, List.mem_map] at hl; obtain ⟨l', _, rfl⟩ := hl; simp; omega)
        omega
      obtain ⟨h1, h2, h3⟩ := HR.out
      rw [← hR] at h1
      have HB := hide (And.intro h1.isRR h3)
      have PM := hide (mergeM_any (r : Int) h1.isRR (by omega) (by omega) HM.out)
      have RM := hide (fun (W : World) (h : IsRR W u6 R) => refMerge_any (r : Int) h (by omega) (by omega))
      have HCL : Hid ((canR (r : Int) R.flatten).length ≤ 1000000) := by
        show _ ≤ _
        have := canR_le (r : Int) R.flatten
        omega
      clear hR hRl hRf h1 h2 h3 HR
      rcases hcase with hcA | ⟨hcB, hcB'⟩
      all_goals
        go_wp2_with fail
        refine PM.out.mono ?_
        rintro e w5 ⟨va, rfl, r5, b5, n5⟩
        have F5 := hide (And.intro r5.isR (And.intro (HB.out.1.below b5) (HB.out.2.trans (b5.mono HB.out.2.size))))
        clear r5 b5 n5 PM
        go_wp2_with fail
        refine (RM.out _ F5.out.2.1).mono ?_
        rintro e w6 ⟨vb, rfl, r6, b6⟩
        have F6 := hide (And.intro (F5.out.1.below b6) (And.intro r6 (F5.out.2.2.trans (b6.mono F5.out.2.2.size))))
        clear r6 b6 F5
        go_wp2_with fail
        refine (same_any F6.out.1 F6.out.2.1 HCL.out).mono ?_
        rintro e w9 ⟨rfl, k9⟩
        rw [show decide (canR (r : Int) R.flatten = canR (r : Int) R.flatten) = true by simp]
        have F9 := hide (F6.out.2.2.trans (k9.below F6.out.2.2.size (by simp)))
        clear k9 F6
        go_wp2
        go_ret
        exact ⟨rfl, F9.out⟩

/-! ### The row's step -/
set_option maxRecDepth 100000 in
theorem lifted (os : Os) (started : os.Started) (H : Type) (enc : TypeId × Value → H) :
    ReturnsInHanded {} Try.checked os 4 .any (Rows.runsMergeSpec.pre6 enc Try.prog Try.f4 Rows.runsMergeRow.domain false) (Rows.runsMergeSpec.post enc Try.prog Try.f4 false true false false) := by
  refine returnsInHanded_of_change (C := Try.checked) own started (by kernel_rfl) Try.func4
    (ChangeSpec.witness6 (enc := enc) (C := Try.checked) false ⟨#[], #[.slice none 0 0, .int .i64 0], []⟩ 8 (by kernel_rfl) (by kernel_rfl) (by kernel_rfl) (by kernel_rfl)) ?_
  intro W base args ds gs before hval0 hW hcnd _
  have hval : ∀ (j : Nat) t v, Try.f4.params[j]? = some t → args[j]? = some v → Value.okWide Try.prog W .any base t v := hval0
  have hW' := hW
  obtain ⟨p, q, hA0, hV, rfl, hfz, hnd⟩ := hW
  have hA : DataW.TrodAll enc Try.prog W 0 (fun _ => true) true Try.f4.params.toList args.toList ds p := hA0
  rw [Try.params4] at hA hval
  obtain ⟨v0, vs0, d0, ds0, p0, q0, hargs, rfl, rfl, h0, r0⟩ := trodAll_cons hA
  obtain ⟨v1, vs1, d1, ds1, p1, q1, rfl, rfl, rfl, h1, r1⟩ := trodAll_cons r0
  obtain ⟨rfl, rfl, rfl⟩ := trodAll_nil r1
  obtain rfl : args = #[v0, v1] := by cases args; simp_all
  obtain ⟨rfl, rfl⟩ := trodVars_none hV
  obtain ⟨a0, len0, cap0, rfl⟩ := okWide_slice Try.underlying28 (hval 0 28 v0 rfl rfl)
  have k0 := h0
  have lt0 : ∀ x ∈ p0, x.block < W.heap.size := by obtain ⟨m, hm⟩ := k0; exact DataW.trod_lt m _ _ _ hm
  obtain ⟨bs0, i0, l0, c0, m0⟩ : ∃ bs, IsRR W (.slice a0 len0 cap0) bs ∧ bs.length = len0 ∧ len0 ≤ cap0 ∧ cap0 ≤ maxLen := by
    obtain ⟨fuel, hf⟩ := h0
    rcases open_recrows hf with hcs | ⟨x, l, c, bs, hcs, e1, e2, e3, e4⟩
    · simp [Value.cells] at hcs
      obtain ⟨rfl, rfl, rfl⟩ := hcs
      exact ⟨[], IsRR.nil W, rfl, Nat.le_refl _, Nat.zero_le _⟩
    · simp [Value.cells] at hcs
      obtain ⟨rfl, rfl, rfl⟩ := hcs
      exact ⟨bs, e4, e1, e2, e3⟩
  obtain ⟨a1, rfl, rfl, rfl, w1⟩ := open_int Try.underlying3 (hval 1 3 v1 rfl rfl) h1
  clear hA0 hval0
  refine (walk a0 len0 cap0 bs0 a1 W i0 l0 c0 m0 w1).mono fun e W' ⟨he, bel⟩ => ?_
  subst he
  exact ⟨_, rfl, _, _, _, [], _, [], hW', trodAll_mk1 (shut_bool Try.underlying4 _), (trodAll_cons_mk (Below.trod laidOut (by kernel_rfl) (of_decide_eq_true (by kernel_rfl)) k0 bel lt0) (trodAll_cons_mk (shut_int Try.underlying3 w1) trodAll_mk0)), rfl, bel.frame _, fun h => by cases h⟩

theorem over : Rows.runsMergeRow.holds Try.pinned (OpenSpec.ofChange Rows.runsMergeSpec) :=
  OpenClaim.holds_of_wide 4 Try.f4 rfl rfl rfl rfl rfl rfl rfl ⟨rfl, rfl, rfl, rfl, rfl⟩ rfl rfl rfl rfl rfl (by kernel_rfl) Try.func4 (by kernel_rfl)
    (of_decide_eq_true (by kernel_rfl)) (by unfold Func.isWrapper; first | (rw [if_pos (by decide +kernel)]; kernel_rfl) | (rw [if_neg (by decide +kernel)]; exact ⟨rfl, rfl⟩))
    (fun os started H enc _ => lifted os started H enc)

/-- The statement. -/
theorem proved : Rows.RunsMergeSaid := over
#print axioms proved
end Go.Proofs.Ytbppjbdcgcmjiaa.runsMerge
