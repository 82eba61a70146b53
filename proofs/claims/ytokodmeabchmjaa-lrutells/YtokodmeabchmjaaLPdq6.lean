/-
  slices.pdqsortOrdered, slices.Sort of few numbers, no two alike. A lemma file: no statement of the seat is proved here.
-/
import Derived.Test.YtokodmeabchmjaaLPdq5
import Derived.Deep.Cut
namespace Go.Proofs.Ytokodmeabchmjaa
open Go.RowKit Go.Sort

set_option maxRecDepth 100000 in
set_option maxHeartbeats 8000000 in
set_option pp.maxSteps 10000000 in
set_option pp.deepTerms true in
theorem pdq_any (g cap : Nat) : ∀ (N a b lim : Nat) (d : Array Nat) (w : World), b - a < N → Holds encN w g 0 d → g < w.heap.size → a ≤ b → b ≤ d.size → d.size < 50 → lim ≤ 100 → Apart d → Ahead a b d →
    Calls Try.prog 63 #[.slice (some ⟨g, 0, none⟩) d.size cap, .int .i64 a, .int .i64 b, .int .i64 lim] w fun e w' => e = .returned (.tuple #[]) ∧ Sorted w g d a b w' := by
  intro N
  induction N with
  | zero => intro _ _ _ _ _ h; exact absurd h (Nat.not_lt_zero _)
  | succ N ih =>
    intro a b lim d w hN hH hg hab hb hsz hlim hap hah
    have IH := hide ih
    have HP0 : Hid (PdqAt w g d a b a b d w) := ⟨permIn_refl _ _ _, hH, Kept.refl _ _, fun i j h1 h2 h3 h4 => absurd ⟨h1, h3⟩ h4, hah, hap, Nat.le_refl _, Nat.le_refl _, hb⟩
    have LS := hide less_any
    clear ih hH hap hah
    go_enter Try.func63, Try.ntmps63
    go_wp2_with fail
    go_loopw [1, 2, 3, 8, 9] (fun v1 v2 v3 v8 v9 wr => ∃ (a1 b1 lm : Nat) (wb wp : Bool) (dk : Array Nat), v1 = .int .i64 a1 ∧ v2 = .int .i64 b1 ∧ v3 = .int .i64 lm ∧ v8 = .bool wb ∧ v9 = .bool wp ∧ a1 ≤ b1 ∧ b1 - a1 ≤ b - a ∧ lm ≤ 100 ∧ Hid (PdqAt w g d a b a1 b1 dk wr)) (fun v1 v2 _ _ _ _ => numOf v2 - numOf v1)
    case atStart => exact ⟨a, b, lim, true, true, d, rfl, rfl, rfl, rfl, rfl, hab, Nat.le_refl _, hlim, HP0⟩
    case round =>
      clear HP0
      obtain ⟨a1, b1, lm, wb, wp, dk, rfl, rfl, rfl, rfl, rfl, hab1, hba1, hlm, HP⟩ := hrel
      have hs := HP.out.size
      have hb1 : b1 ≤ d.size := by have := HP.out.hi; omega
      have hgr : g < wr.heap.size := Nat.lt_of_lt_of_le hg HP.out.kept.size
      have ha1b : a1 ≤ 50 := by omega
      have hb1b : b1 ≤ 50 := by omega
      by_cases h12 : b1 - a1 ≤ 12
      · have h12z : (b1 : Int) - (a1 : Int) ≤ 12 := by omega
        have IA := hide (ins_any (cap := cap) (a := a1) (b := b1) HP.out.holds hab1 (by omega) (by omega))
        rw [hs] at IA
        clear hs
        go_wp2_with (go_at_call 66; refine IA.out.mono ?_; rintro e w1 ⟨rfl, r1⟩; have R1 := hide r1; clear r1)
        refine bodyPost_ret (results_none rfl _ _ _) rfl ?_
        have q := insertionSort_holds swoN dk a1 b1 hab1 (by rw [HP.out.size]; exact hb1)
        exact ⟨rfl, (HP.out.inner q.1 (R1.out.holds HP.out.holds q.1.1) R1.out.kept).ends q.2⟩
      · have h12z : ¬ ((b1 : Int) - (a1 : Int) ≤ 12) := by omega
        by_cases hl0 : lm = 0
        · subst hl0
          have IA := hide (heap_any (cap := cap) (a := a1) (b := b1) HP.out.holds hab1 (by omega) (by omega))
          rw [hs] at IA
          clear hs
          go_wp2_with (go_at_call 67; refine IA.out.mono ?_; rintro e w1 ⟨rfl, r1⟩; have R1 := hide r1; clear r1)
          refine bodyPost_ret (results_none rfl _ _ _) rfl ?_
          have q := heapSort_holds swoN dk a1 b1 hab1 (by rw [HP.out.size]; exact hb1)
          exact ⟨rfl, (HP.out.inner q.1 (R1.out.holds HP.out.holds q.1.1) R1.out.kept).ends q.2⟩
        · have hl0z : ¬ ((lm : Int) = 0) := by omega
          have BR := hide (break_any (cap := cap) (a := a1) (b := b1) HP.out.holds hgr (by omega) (by omega) (by omega))
          rw [hs] at BR
          clear hs
          go_upto_if 35 with fail
          go_cut [3] from 19 (fun s3 wc => ∃ (l1 : Nat) (d1 : Array Nat), s3 = .int .i64 l1 ∧ l1 ≤ 100 ∧ Hid (PdqAt w g d a b a1 b1 d1 wc))
          case first =>
            cases wb
            · go_wp2_with (go_at_call 68; refine BR.out.mono ?_; rintro e w1 ⟨rfl, r1⟩; have R1 := hide r1; clear r1)
              go_meet
              case rel =>
                obtain ⟨d1, p1, h1, k1⟩ := R1.out
                exact ⟨lm - 1, d1, by go_num, by omega, HP.out.inner p1 h1 k1⟩
            · go_wp2_with fail
              go_meet
              case rel => exact ⟨lm, dk, rfl, hlm, HP⟩
          case rest =>
            clear BR HP hgr hlm hl0 hl0z
            obtain ⟨l1, d1, rfl, hl1, HP⟩ := hcut
            have hgr : g < wc.heap.size := Nat.lt_of_lt_of_le hg HP.out.kept.size
            have PV := hide (pivot_any (cap := cap) (a := a1) (b := b1) HP.out.holds hgr (by omega) (by rw [HP.out.size]; omega) (by rw [HP.out.size]; omega))
            rw [HP.out.size] at PV
            go_wp2_with fail
            refine PV.out.mono ?_
            rintro e w2 ⟨pv, h, rfl, hp1, hp2, hh, bl⟩
            have HP2 : Hid (PdqAt w g d a b a1 b1 d1 w2) := HP.out.same hgr (Kept.of_below bl)
            clear HP bl PV hgr
            have hh2 : ¬ h = 2 := by omega
            go_upto_region 15 with fail
            go_cut [12, 68] from 19 (fun s12 s68 wx => s12 = .int .i64 h ∧ (∃ t : Bool, s68 = .bool t) ∧ wx = w2)
            case first =>
              cases wb <;> cases wp <;> (rcases hh with rfl | rfl) <;>
                (go_wp2_with fail
                 go_meet
                 exact ⟨rfl, ⟨_, rfl⟩, rfl⟩)
            case rest =>
              obtain ⟨rfl, ⟨t, rfl⟩, rfl⟩ := hcut
              have HP := HP2
              clear HP2
              have hgr : g < wc.heap.size := Nat.lt_of_lt_of_le hg HP.out.kept.size
              have PI := hide (partialIns_any (cap := cap) (a := a1) (b := b1) HP.out.holds (by omega) (by rw [HP.out.size]; omega) (by rw [HP.out.size]; omega))
              rw [HP.out.size] at PI
              go_upto_if 68 with fail
              go_cut [] from 19 (fun wx => Hid (PdqAt w g d a b a1 b1 d1 wx))
              case first =>
                cases t
                · go_wp2_with fail
                  go_meet
                  case rel => exact HP
                · go_wp2_with fail
                  refine PI.out.mono ?_
                  rintro e w3 ⟨r, rfl, hr, k3⟩
                  have HP3 : Hid (PdqAt w g d a b a1 b1 d1 w3) := HP.out.same hgr k3
                  have HR := hide hr
                  clear hr k3
                  cases r
                  · go_wp2_with fail
                    go_meet
                    case rel => exact HP3
                  · go_wp2_with fail
                    refine bodyPost_ret (results_none rfl _ _ _) rfl ?_
                    exact ⟨rfl, HP3.out.ends (HR.out (by simp))⟩
              case rest =>
                clear HP PI hgr
                have HP : Hid (PdqAt w g d a b a1 b1 d1 wc) := hcut
                clear hcut
                have hgr : g < wc.heap.size := Nat.lt_of_lt_of_le hg HP.out.kept.size
                go_upto_region 17 with fail
                go_cut [87] from 19 (fun s87 wx => s87 = .bool false ∧ Hid (PdqAt w g d a b a1 b1 d1 wx))
                case first =>
                  by_cases ha0 : a1 = 0
                  · have ha0z : decide ((a1 : Int) > 0) = false := decide_eq_false (by omega)
                    have zA : ¬ (0 : Int) < (a1 : Int) := by omega
                    have zB : ¬ 0 < a1 := by omega
                    have zD : decide (0 < a1) = false := decide_eq_false (by omega)
                    have zE : decide ((0 : Int) < (a1 : Int)) = false := decide_eq_false (by omega)
                    clear ha0
                    first | go_quiet (fail) | go_big_quiet (fail)
                    go_wp2_with fail
                    go_meet
                    case rel => exact ⟨rfl, HP.out.same hgr ((Kept.refl _ _).drewN _)⟩
                  · have ha0z : (a1 : Int) > 0 := by omega
                    have ha0y : decide ((a1 : Int) > 0) = true := decide_eq_true (by omega)
                    have zA : (0 : Int) < (a1 : Int) := by omega
                    have zB : 0 < a1 := by omega
                    have zD : decide (0 < a1) = true := decide_eq_true (by omega)
                    have zE : decide ((0 : Int) < (a1 : Int)) = true := decide_eq_true (by omega)
                    obtain ⟨k, hk⟩ : ∃ k, a1 = k + 1 := ⟨a1 - 1, by omega⟩
                    have hw1 : IntKind.i64.wrap ((a1 : Int) - 1) = (k : Int) := by rw [i64_small _ (by omega) (by omega)]; omega
                    have bk : k < d.size := by omega
                    have bp : pv < d.size := by omega
                    have ck := (HP.out.holds k (by rw [HP.out.size]; exact bk)).1
                    have cp := (HP.out.holds pv (by rw [HP.out.size]; exact bp)).1
                    have hl : ltN d1[k]! d1[pv]! = true := by
                      rcases HP.out.ahead with q | q
                      · omega
                      · have := q pv (by omega) hp2
                        rw [hk] at this
                        exact this
                    rw [Nat.zero_add] at ck cp
                    obtain ⟨x, hx⟩ : ∃ x, x = d1[k]! := ⟨_, rfl⟩
                    obtain ⟨y, hy⟩ : ∃ y, y = d1[pv]! := ⟨_, rfl⟩
                    rw [← hx] at ck hl
                    rw [← hy] at cp hl
                    unfold encN at ck cp
                    have L1 := hide (fun W => hl ▸ LS.out x y W)
                    clear hk hx hy
                    first | go_quiet ((go_at_call 72; refine Calls.quiet_of_same (L1.out _))) | go_big_quiet ((go_at_call 72; refine Calls.quiet_of_same (L1.out _)))
                    go_wp2_with fail
                    go_meet
                    case rel => exact ⟨rfl, HP.out.same hgr ((Kept.refl _ _).drewN _)⟩
                case rest =>
                  clear HP hgr
                  obtain ⟨rfl, HP⟩ := hcut
                  have hgr : g < wc.heap.size := Nat.lt_of_lt_of_le hg HP.out.kept.size
                  have PT := hide (part_any (cap := cap) (a := a1) (b := b1) (pv := pv) HP.out.holds hp1 hp2 (by rw [HP.out.size]; omega) (by rw [HP.out.size]; omega))
                  rw [HP.out.size] at PT
                  go_wp2_with fail
                  refine PT.out.mono ?_
                  rintro e w4 ⟨m, ok, d4, rfl, hpt, r4⟩
                  have HP4 : Hid (PdqAt w g d a b a1 b1 d4 w4) := HP.out.inner hpt.perm (r4.holds HP.out.holds hpt.perm.1) r4.kept
                  have HM := hide hpt.self
                  have hm1 := hpt.am
                  have hm2 := hpt.mb
                  clear hpt r4 PT HP hgr
                  have hgr : g < w4.heap.size := Nat.lt_of_lt_of_le hg HP4.out.kept.size
                  go_upto_if 113 with fail
                  by_cases h4 : m - a1 < b1 - m
                  · have h4z : (m : Int) - (a1 : Int) < (b1 : Int) - (m : Int) := by omega
                    have RC := hide (IH.out a1 m l1 d4 w4 (by omega) HP4.out.holds hgr (by omega) (by rw [HP4.out.size]; omega) (by rw [HP4.out.size]; omega) hl1 HP4.out.apart (HP4.out.aheadL HM.out))
                    rw [HP4.out.size] at RC
                    go_wp2_with fail
                    refine RC.out.mono ?_
                    rintro e w5 ⟨rfl, s5⟩
                    have S5 := hide (HP4.out.goRight HM.out s5)
                    clear s5 RC
                    go_wp2_with fail
                    go_roundw
                    case rel =>
                      obtain ⟨d5, p5⟩ := S5.out
                      exact ⟨m + 1, b1, l1, _, ok, d5, by go_num, rfl, rfl, rfl, rfl, by omega, by omega, hl1, p5⟩
                    case measure => simp [numOf]; omega
                  · have h4z : ¬ (m : Int) - (a1 : Int) < (b1 : Int) - (m : Int) := by omega
                    have RC := hide (IH.out (m + 1) b1 l1 d4 w4 (by omega) HP4.out.holds hgr (by omega) (by rw [HP4.out.size]; omega) (by rw [HP4.out.size]; omega) hl1 HP4.out.apart (HP4.out.aheadR HM.out))
                    rw [HP4.out.size] at RC
                    go_wp2_with fail
                    refine RC.out.mono ?_
                    rintro e w5 ⟨rfl, s5⟩
                    have S5 := hide (HP4.out.goLeft HM.out s5)
                    clear s5 RC
                    go_wp2_with fail
                    go_roundw
                    case rel =>
                      obtain ⟨d5, p5⟩ := S5.out
                      exact ⟨a1, m, l1, _, ok, d5, rfl, rfl, rfl, rfl, rfl, by omega, by omega, hl1, p5⟩
                    case measure => simp [numOf]; omega

end Go.Proofs.Ytokodmeabchmjaa
