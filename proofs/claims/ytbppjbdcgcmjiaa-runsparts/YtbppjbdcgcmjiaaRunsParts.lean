/-
  Proved: for every row of slices of records, how and place, RunsParts returns true and leaves what came in as it was (merged in two steps it is the same). No condition.
-/
import Derived.Deep.QuietTactic
import Derived.BigQuiet
import Derived.WalkKit
import Derived.ProofKit
import Derived.OpenShut
import Derived.ShutString
import Derived.Test.YtbppjbdcgcmjiaaQPieces
namespace Go.Proofs.Ytbppjbdcgcmjiaa.runsParts
open Go.ChangeShapes Go.WideShapes Go.ChangeAt Go.RowKit
open Go.ChangeMaps (open_string shut_string)
set_option linter.unusedVariables false

theorem own : ownKnob Try.prog.godebug = none := by kernel_rfl
theorem laidOut : laidOutB Try.prog = true := by kernel_rfl

/-- The rows that are merged: the first eight, each cut to forty records. -/
def fewX (ls : List (List Rc)) : List (List Rc) := (ls.take 8).map fun l => l.take 40
theorem fewX_snoc (ls : List (List Rc)) (i : Nat) (h8 : i < 8) (hi : i < ls.length) : ((ls.take (i + 1)).map fun l => l.take 40) = ((ls.take i).map fun l => l.take 40) ++ [(ls[i]?.getD []).take 40] := by
  rw [List.take_succ_eq_append_getElem hi, List.map_append, List.getElem?_eq_getElem hi]
  rfl
theorem flat40 (ls : List (List Rc)) (h : ∀ l ∈ ls, l.length ≤ 40) : ls.flatten.length ≤ ls.length * 40 := by
  induction ls with
  | nil => simp
  | cons l ls ih =>
    have h1 := h l (by simp)
    have h2 := ih (fun m hm => h m (by simp [hm]))
    simp only [List.flatten_cons, List.length_append, List.length_cons]
    omega


/-! ### The walk -/
set_option maxRecDepth 100000 in
set_option maxHeartbeats 8000000 in
theorem walk (a0 : Option Addr) (len0 cap0 : Nat) (bs0 : List (List Rc)) (a1 : Int) (a2 : Int) (w : World) (i0 : IsRR w (.slice a0 len0 cap0) bs0) (l0 : bs0.length = len0) (c0 : len0 ≤ cap0) (m0 : cap0 ≤ maxLen) (w1 : (Lit.int .i64 a1).wf = true) (w2 : (Lit.int .i64 a2).wf = true) :
    Calls Try.prog 9 #[.slice a0 len0 cap0, .int .i64 a1, .int .i64 a2] w fun e w' => e = .returned (.bool true) ∧ Below w.heap.size w w' := by
  unfold maxLen at m0
  obtain ⟨r, hcr, hr3⟩ : ∃ r : Nat, (bits .and .i64 a1 65535).tmod 3 = (r : Int) ∧ r < 3 := by
    refine ⟨((a1 % 65536).tmod 3).toNat, ?_, ?_⟩
    · rw [i64_and65535]
      have := Int.tmod_nonneg 3 (show 0 ≤ a1 % 65536 by omega)
      omega
    · have h1 := Int.tmod_nonneg 3 (show 0 ≤ a1 % 65536 by omega)
      have h2 := Int.tmod_lt_of_pos (a1 % 65536) (show (0 : Int) < 3 by omega)
      omega
  have hmay : mayH (r : Int) = true := by
    have : r = 0 ∨ r = 1 ∨ r = 2 := by omega
    rcases this with rfl | rfl | rfl <;> rfl
  have SH := hide (shown_any w)
  have I0 := hide i0
  have HOK := hide i0.ok
  have HM := hide hmay
  clear i0 hmay
  obtain ⟨hlb, hl0⟩ : len0 ≤ 9223372036854775807 ∧ bs0.length = len0 := ⟨by omega, l0⟩
  have HL := hide hl0
  clear l0 hl0
  go_enter Try.func9, Try.ntmps9
  go_wp2_with fail
  refine SH.out.mono ?_
  rintro e w1 ⟨rfl, b1⟩
  have B1 := hide b1
  clear b1 SH
  go_wp2
  go_loopw [8, 9] (fun vv v wr => ∃ i : Nat, v = .int .i64 (i : Int) ∧ i ≤ len0 ∧ i ≤ 8 ∧ Hid (RowX (fun _ => False) wr vv ((bs0.take i).map fun l => l.take 40) ∧ (∀ x ∈ Go.Proofs.Ytbppjbdcgcmjiaa.own vv, w.heap.size ≤ x) ∧ Below w.heap.size w wr)) (fun _ v _ => 9 - numOf v)
  case atStart => exact ⟨0, rfl, Nat.zero_le _, Nat.zero_le _, by simpa using RowX.nil _ _, by simp [Go.Proofs.Ytbppjbdcgcmjiaa.own, Value.ownBlock], B1.out⟩
  case round =>
    obtain ⟨i, rfl, hi, hi8, HR⟩ := hrel
    have hw1 : IntKind.i64.wrap ((i : Int) + 1) = (i : Int) + 1 := i64_small _ (by omega) (by omega)
    by_cases hin : i < len0 ∧ i < 8
    · obtain ⟨hin, h8⟩ := hin
      have hin' : (i : Int) < (len0 : Int) := by omega
      have h8' : (i : Int) < 8 := by omega
      have hil : i < bs0.length := by have := HL.out; omega
      obtain ⟨b, off, c', e, _, hc⟩ := I0.out.opened (by omega)
      simp only [Value.slice.injEq] at e
      obtain ⟨rfl, hx1, rfl⟩ := e
      clear hx1
      obtain ⟨ai, ci, hcell0, hI0⟩ := hc i hil
      have hcell := (World.cell?_of_block (w := w) (HR.out.2.2.block _ (World.block_lt_of_cell? w _ hcell0))).trans hcell0
      obtain ⟨L, hL⟩ : ∃ L, L = bs0[i]?.getD [] := ⟨_, rfl⟩
      rw [← hL] at hcell hcell0 hI0
      obtain ⟨k, hk⟩ : ∃ k, k = min L.length 40 := ⟨_, rfl⟩
      obtain ⟨li, hli⟩ : ∃ li, li = L.length := ⟨_, rfl⟩
      have hcap : L.length ≤ ci := by obtain ⟨_, _, e, h, _⟩ := hI0; simp only [Value.slice.injEq] at e; obtain ⟨_, _, rfl⟩ := e; exact h
      have hT0 := hI0.take k (by omega)
      have hTk : L.take k = L.take 40 := by rw [hk, List.take_eq_take_iff]; omega
      rw [hTk] at hT0
      have hkl : k ≤ li := by omega
      rw [← hli] at hcell hcap hk
      have hmi : min (li : Int) 40 = (k : Int) := by omega
      have hkc : (k : Int) ≤ (ci : Int) := by omega
      have hT := hT0.below HR.out.2.2
      have FC : Hid (∀ W, Below w.heap.size w W → W.cell? ⟨b, off + i, none⟩ = some (.slice ai li ci)) := fun W hW => by
        rw [hli]
        exact (World.cell?_of_block (w := w) (hW.block _ (World.block_lt_of_cell? w _ hcell0))).trans hcell0
      have BD : Hid (Below w.heap.size w wr.drew) := ⟨HR.out.2.2.os, HR.out.2.2.tape, HR.out.2.2.output, HR.out.2.2.size, HR.out.2.2.block⟩
      have HPU : Hid (∀ ty, ∃ v' w', (Builtin.append_ #[28, 28] ty #[u8, .slice (some ⟨wr.heap.size, 0, none⟩) 1 1]).run Try.prog (wr.drew.alloc (.cells #[.slice ai k ci] 22)) = .ok v' w' ∧
          (RowX (fun _ => False) w' v' ((bs0.take (i + 1)).map fun l => l.take 40) ∧ (∀ x ∈ Go.Proofs.Ytbppjbdcgcmjiaa.own v', w.heap.size ≤ x) ∧ Below w.heap.size w w')) := fun ty => by
        obtain ⟨h1, h2, h3⟩ := HR.out
        have h1d : RowX (fun _ => False) wr.drew u8 ((bs0.take i).map fun l => l.take 40) := h1
        have hTd : IsR wr.drew (.slice ai k ci) (L.take 40) := hT
        have h3d := BD.out
        obtain ⟨v', w', hrun, r', k', n'⟩ := h1d.push hTd (fun hne x hx => ⟨fun hx' => by have := hT0.lt hne x hx; have := h2 x hx'; omega, fun h => h⟩) (by rw [List.length_map, List.length_take]; omega) ty
        refine ⟨v', w', hrun, ?_, fun x hx => ?_, h3d.trans (k'.below h3d.size h2)⟩
        · rw [fewX_snoc bs0 i h8 hil, ← hL]
          exact r'
        · rcases n' x hx with h | h
          · exact h2 x h
          · have := h3d.size
            omega
      clear hcell0 hI0 hT0 hT hTk hL hli hk hc
      go_wp2
      go_region_held_law (fun W => W.cell? ⟨b, off + i, none⟩ = some (.slice ai li ci)) (first | exact FC.out _ BD.out | exact FC.out _ (BD.out.alloc BD.out.size _) | exact FC.out _ hrow.2.2) ((refine step_appendY _ _ ?_ 28 (.tmp 32) (.tmp 44) ?_ u8 (.slice (some ⟨wr.heap.size, 0, none⟩) 1 1) ?_ ?_ (HPU.out _) ?_; rfl; rfl; rfl; rfl; intro v' w' hrow))
      go_wp2
      go_roundw
      case rel => exact ⟨i + 1, by go_num, by omega, by omega, hrow⟩
      case measure => simp [numOf]; omega
    · have hcase : ¬ ((i : Int) < (len0 : Int)) ∨ ((i : Int) < (len0 : Int) ∧ ¬ ((i : Int) < 8)) := by omega
      obtain ⟨R, hR⟩ : ∃ R, R = (bs0.take i).map fun l => l.take 40 := ⟨_, rfl⟩
      have hRl : R.length = i := by rw [hR]; have := HL.out; simp; omega
      have hRok : ∀ l ∈ R, ∀ e ∈ l, okR e := fun l hl e he => by
        rw [hR, List.mem_map] at hl
        obtain ⟨l', hl', rfl⟩ := hl
        exact HOK.out l' (List.mem_of_mem_take hl') e (List.mem_of_mem_take he)
      have hRf : R.flatten.length ≤ 320 := by
        have := flat40 R (fun l hl => by rw [hR, List.mem_map] at hl; obtain ⟨l', _, rfl⟩ := hl; simp; omega)
        omega
      have hsub : ∀ k, (R.take k).flatten.length ≤ 320 ∧ (R.drop k).flatten.length ≤ 320 := fun k => by
        have h3 : R.flatten.length = (R.take k).flatten.length + (R.drop k).flatten.length := by
          rw [← List.length_append, ← List.flatten_append, List.take_append_drop]
        omega
      obtain ⟨t, hct, htp⟩ : ∃ t : Nat, (bits .and .i64 a2 65535).tmod ((i : Int) + 1) = (t : Int) ∧ t ≤ i := by
        have h1 := Int.tmod_nonneg ((i : Int) + 1) (show 0 ≤ a2 % 65536 by omega)
        have h2 := Int.tmod_lt_of_pos (a2 % 65536) (show (0 : Int) < (i : Int) + 1 by omega)
        refine ⟨((a2 % 65536).tmod ((i : Int) + 1)).toNat, ?_, ?_⟩
        · rw [i64_and65535]
          omega
        · omega
      have hw2 : IntKind.i64.wrap (t : Int) = (t : Int) := i64_small _ (by omega) (by omega)
      have hne : ((i : Int) + 1 = 0) = False := by simp; omega
      obtain ⟨h1, h2, h3⟩ := HR.out
      rw [← hR] at h1
      have C3 := canR_le (r : Int)
      have HB := hide (And.intro h1.isRR h3)
      have HF := hide (And.intro hRl (And.intro hRok (And.intro hRf hsub)))
      have PM := hide (fun (W : World) (v : Value) (ls : List (List Rc)) (h : IsRR W v ls) (ha : ls.length ≤ 10000) (hb : ls.flatten.length ≤ 100000) => mergeM_any (r : Int) h ha hb HM.out)
      have HCL := hide (fun l => canR_le (r : Int) l)
      clear hR hRl hRok hRf hsub C3
      have hforms : ∃ ar cr av cv, u8 = .slice ar i cr ∧ i ≤ cr ∧ ((ar = none ∧ i = 0 ∧ cr = 0 ∧ t = 0) ∨ ∃ g, ar = some ⟨g, 0, none⟩ ∧ (cr = t ∨ ¬ cr = t)) ∧ IsRR wr (.slice ar t cr) (R.take t) ∧ av = (if cr = t then ar else ar.map fun x => (⟨x.block, x.off + t, none⟩ : Addr)) ∧ cv = cr - t ∧ IsRR wr (.slice av (if cr = t then 0 else i - t) cv) (R.drop t) := by
        rcases h1.form with ⟨rfl, hr0⟩ | ⟨g, cr, rfl, hcr⟩
        · have hl := HF.out.1
          rw [hr0] at hl
          simp at hl
          subst hl
          obtain rfl : t = 0 := by omega
          rw [hr0]
          exact ⟨none, 0, none, 0, rfl, Nat.le_refl _, .inl ⟨rfl, rfl, rfl, rfl⟩, IsRR.nil _, by simp, rfl, IsRR.nil _⟩
        · have hl := HF.out.1
          rw [hl] at hcr
          have hrr := h1.isRR
          rw [hl] at hrr
          refine ⟨some ⟨g, 0, none⟩, cr, _, _, by rw [hl], hcr, .inr ⟨g, rfl, Classical.em _⟩, hrr.take t (by omega), rfl, rfl, ?_⟩
          by_cases hc : cr = t
          · simp only [if_pos hc]
            rw [List.drop_of_length_le (by omega)]
            exact IsRR.none (by simp)
          · simp only [if_neg hc]
            have := hrr.drop t (by omega)
            simpa using this
      obtain ⟨ar, cr, av, cv, hu, hcr, hcase2, hA1, hav, hcv, hA2⟩ := hforms
      subst hu
      have A12 := hide (And.intro hA1 hA2)
      clear hA1 hA2 h1 h2 h3 HR
      have hpt := can_parts (how := (r : Int)) t HF.out.2.1
      have hAl : (R.take t).length ≤ 10000 ∧ (R.drop t).length ≤ 10000 ∧ (R.take t).flatten.length ≤ 320 ∧ (R.drop t).flatten.length ≤ 320 := by
        have hl := HF.out.1
        refine ⟨by rw [List.length_take]; omega, by rw [List.length_drop]; omega, (HF.out.2.2.2 t).1, (HF.out.2.2.2 t).2⟩
      have hRl := HF.out.1
      have hRf := HF.out.2.2.1
      generalize R.take t = A at A12 hpt hAl
      generalize R.drop t = B at A12 hpt hAl
      have HAB := hide (And.intro hAl (And.intro hpt (And.intro (show R.length ≤ 10000 by omega) (show R.flatten.length ≤ 100000 by omega))))
      clear hpt hAl HF hRl hRf
      have hti : (t : Int) ≤ (i : Int) := by omega
      have htc : (t : Int) ≤ (cr : Int) := by omega
      rcases hcase with hcA | ⟨hcB, hcB'⟩
      all_goals rcases hcase2 with ⟨rfl, rfl, rfl, rfl⟩ | ⟨g, rfl, hc | hc⟩
      all_goals
        subst hav
        subst hcv
      all_goals (try (exfalso; omega))
      all_goals (try subst hc)
      all_goals simp only [if_true, if_false, Option.map_none, Option.map_some, Nat.zero_add, Nat.sub_self, *] at A12
      all_goals
        go_wp2_with fail
        refine (PM.out _ _ _ A12.out.1 HAB.out.1.1 (by have := HAB.out.1; omega)).mono ?_
        rintro e w5 ⟨va, rfl, r5, b5, n5⟩
        obtain ⟨fa, fn, fc, rfl⟩ : ∃ a n c, va = .slice a n c := by obtain ⟨a, c, e, _⟩ := r5.isR.form; exact ⟨a, _, c, e⟩
        have F5 := hide (And.intro r5.isR (And.intro (HB.out.1.below b5) (And.intro (A12.out.2.below b5) (HB.out.2.trans (b5.mono HB.out.2.size)))))
        clear r5 b5 n5 A12
        go_wp2_with fail
        refine (PM.out _ _ _ F5.out.2.2.1 HAB.out.1.2.1 (by have := HAB.out.1; omega)).mono ?_
        rintro e w6 ⟨vb, rfl, r6, b6, n6⟩
        obtain ⟨ga, gn, gc, rfl⟩ : ∃ a n c, vb = .slice a n c := by obtain ⟨a, c, e, _⟩ := r6.isR.form; exact ⟨a, _, c, e⟩
        have b66 := F5.out.2.2.2.trans (b6.mono F5.out.2.2.2.size)
        have F6 := hide (And.intro (isRR_two w6 r6.isR (F5.out.1.below b6)) (And.intro ((F5.out.2.1.below b6).below ((Below.refl _ w6).alloc (Nat.le_refl _) (.cells #[.slice ga gn gc, .slice fa fn fc] 22))) (b66.alloc b66.size (.cells #[.slice ga gn gc, .slice fa fn fc] 22))))
        clear r6 b6 n6 F5 b66
        go_wp2_with fail
        refine (PM.out _ _ _ F6.out.1 (by simp) (by have h1 := HCL.out A.flatten; have h2 := HCL.out B.flatten; have := HAB.out.1; simp only [List.flatten_cons, List.flatten_nil, List.append_nil, List.length_append]; omega)).mono ?_
        rintro e w7 ⟨vc, rfl, r7, b7, n7⟩
        rw [HAB.out.2.1] at r7
        have F7 := hide (And.intro r7.isR (And.intro (F6.out.2.1.below b7) (F6.out.2.2.trans (b7.mono F6.out.2.2.size))))
        clear r7 b7 n7 F6
        go_wp2_with fail
        refine (PM.out _ _ _ F7.out.2.1 HAB.out.2.2.1 HAB.out.2.2.2).mono ?_
        rintro e w8 ⟨vd, rfl, r8, b8, n8⟩
        have F8 := hide (And.intro (F7.out.1.below b8) (And.intro r8.isR (F7.out.2.2.trans (b8.mono F7.out.2.2.size))))
        clear r8 b8 n8 F7
        go_wp2_with fail
        refine (same_any F8.out.1 F8.out.2.1 (by have h1 := HCL.out R.flatten; have := HAB.out.2.2.2; omega)).mono ?_
        rintro e w9 ⟨rfl, k9⟩
        rw [show decide (canR (r : Int) R.flatten = canR (r : Int) R.flatten) = true by simp]
        have F9 := hide (F8.out.2.2.trans (k9.below F8.out.2.2.size (by simp)))
        clear k9 F8
        go_wp2
        go_ret
        exact ⟨rfl, F9.out⟩

/-! ### The row's step -/
set_option maxRecDepth 100000 in
theorem lifted (os : Os) (started : os.Started) (H : Type) (enc : TypeId × Value → H) :
    ReturnsInHanded {} Try.checked os 9 .any (Rows.runsPartsSpec.pre6 enc Try.prog Try.f9 Rows.runsPartsRow.domain false) (Rows.runsPartsSpec.post enc Try.prog Try.f9 false true false false) := by
  refine returnsInHanded_of_change (C := Try.checked) own started (by kernel_rfl) Try.func9
    (ChangeSpec.witness6 (enc := enc) (C := Try.checked) false ⟨#[], #[.slice none 0 0, .int .i64 0, .int .i64 0], []⟩ 8 (by kernel_rfl) (by kernel_rfl) (by kernel_rfl) (by kernel_rfl)) ?_
  intro W base args ds gs before hval0 hW hcnd _
  have hval : ∀ (j : Nat) t v, Try.f9.params[j]? = some t → args[j]? = some v → Value.okWide Try.prog W .any base t v := hval0
  have hW' := hW
  obtain ⟨p, q, hA0, hV, rfl, hfz, hnd⟩ := hW
  have hA : DataW.TrodAll enc Try.prog W 0 (fun _ => true) true Try.f9.params.toList args.toList ds p := hA0
  rw [Try.params9] at hA hval
  obtain ⟨v0, vs0, d0, ds0, p0, q0, hargs, rfl, rfl, h0, r0⟩ := trodAll_cons hA
  obtain ⟨v1, vs1, d1, ds1, p1, q1, rfl, rfl, rfl, h1, r1⟩ := trodAll_cons r0
  obtain ⟨v2, vs2, d2, ds2, p2, q2, rfl, rfl, rfl, h2, r2⟩ := trodAll_cons r1
  obtain ⟨rfl, rfl, rfl⟩ := trodAll_nil r2
  obtain rfl : args = #[v0, v1, v2] := by cases args; simp_all
  obtain ⟨rfl, rfl⟩ := trodVars_none hV
  obtain ⟨a0, len0, cap0, rfl⟩ := okWide_slice Try.underlying28 (hval 0 28 v0 rfl rfl)
  have k0 := h0
  have lt0 : ∀ x ∈ p0, x.block < W.heap.size := by obtain ⟨m, hm⟩ := k0; exact DataW.trod_lt m _ _ _ hm
  obtain ⟨bs0, i0, l0, c0, m0⟩ : ∃ bs, IsRR W (.slice a0 len0 cap0) bs ∧ bs.length = len0 ∧ len0 ≤ cap0 ∧ cap0 ≤ maxLen := by
    obtain ⟨fuel, hf⟩ := h0
    rcases open_recrows hf with hcs | ⟨x, l, c, bs, hcs, e1, e2, e3, e4⟩
    · simp [Value.cells] at hcs
      obtain ⟨rfl, rfl, rfl⟩ := hcs
      exact ⟨[], IsRR.nil W, rfl, Nat.le_refl _, Nat.zero_le _⟩
    · simp [Value.cells] at hcs
      obtain ⟨rfl, rfl, rfl⟩ := hcs
      exact ⟨bs, e4, e1, e2, e3⟩
  obtain ⟨a1, rfl, rfl, rfl, w1⟩ := open_int Try.underlying3 (hval 1 3 v1 rfl rfl) h1
  obtain ⟨a2, rfl, rfl, rfl, w2⟩ := open_int Try.underlying3 (hval 2 3 v2 rfl rfl) h2
  clear hA0 hval0
  refine (walk a0 len0 cap0 bs0 a1 a2 W i0 l0 c0 m0 w1 w2).mono fun e W' ⟨he, bel⟩ => ?_
  subst he
  exact ⟨_, rfl, _, _, _, [], _, [], hW', trodAll_mk1 (shut_bool Try.underlying4 _), (trodAll_cons_mk (Below.trod laidOut (by kernel_rfl) (of_decide_eq_true (by kernel_rfl)) k0 bel lt0) (trodAll_cons_mk (shut_int Try.underlying3 w1) (trodAll_cons_mk (shut_int Try.underlying3 w2) trodAll_mk0))), rfl, bel.frame _, fun h => by cases h⟩

theorem over : Rows.runsPartsRow.holds Try.pinned (OpenSpec.ofChange Rows.runsPartsSpec) :=
  OpenClaim.holds_of_wide 9 Try.f9 rfl rfl rfl rfl rfl rfl rfl ⟨rfl, rfl, rfl, rfl, rfl⟩ rfl rfl rfl rfl rfl (by kernel_rfl) Try.func9 (by kernel_rfl)
    (of_decide_eq_true (by kernel_rfl)) (by unfold Func.isWrapper; first | (rw [if_pos (by decide +kernel)]; kernel_rfl) | (rw [if_neg (by decide +kernel)]; exact ⟨rfl, rfl⟩))
    (fun os started H enc _ => lifted os started H enc)

/-- The statement. -/
theorem proved : Rows.RunsPartsSaid := over
#print axioms proved
end Go.Proofs.Ytbppjbdcgcmjiaa.runsParts
