/-
  slices.siftDownOrdered, heapSortOrdered of few numbers. A lemma file: no statement of the seat is proved here.
-/
import Derived.Test.YtokodmeabchmjaaLPdq1
import Derived.Sort.LotB
namespace Go.Proofs.Ytokodmeabchmjaa
open Go.RowKit Go.Sort

/-- The child that is looked at. -/
def childOf (hi first root : Nat) (d : Array Nat) : Nat := if 2 * root + 2 < hi ∧ ltN d[first + (2 * root + 1)]! d[first + (2 * root + 2)]! = true then 2 * root + 2 else 2 * root + 1

theorem sift_end {hi first root : Nat} {d : Array Nat} (h : hi ≤ 2 * root + 1) : siftDown ltN hi first root d = d := by
  unfold siftDown
  rw [dif_pos h]

theorem sift_stop {hi first root : Nat} {d : Array Nat} (h : 2 * root + 1 < hi) (hl : ltN d[first + root]! d[first + childOf hi first root d]! = false) : siftDown ltN hi first root d = d := by
  unfold siftDown
  rw [dif_neg (by omega)]
  unfold childOf at hl
  split at hl
  · rename_i hc
    rw [if_pos (by simp only [Bool.and_eq_true, decide_eq_true_eq]; exact ⟨by omega, hc.2⟩), if_pos (by simpa using hl)]
  · rename_i hc
    rw [if_neg (by simp only [Bool.and_eq_true, decide_eq_true_eq]; exact fun h2 => hc ⟨by omega, h2.2⟩), if_pos (by simpa using hl)]

theorem sift_go {hi first root : Nat} {d : Array Nat} (h : 2 * root + 1 < hi) (hl : ltN d[first + root]! d[first + childOf hi first root d]! = true) :
    siftDown ltN hi first root d = siftDown ltN hi first (childOf hi first root d) (swp d (first + root) (first + childOf hi first root d)) := by
  conv => lhs; unfold siftDown
  rw [dif_neg (by omega)]
  by_cases hc : 2 * root + 2 < hi ∧ ltN d[first + (2 * root + 1)]! d[first + (2 * root + 2)]! = true
  · have e : childOf hi first root d = 2 * root + 2 := by unfold childOf; rw [if_pos hc]
    rw [e] at hl ⊢
    rw [if_pos (by simp only [Bool.and_eq_true, decide_eq_true_eq]; exact ⟨by omega, hc.2⟩), if_neg (by simp [hl]), dif_pos hc.1]
  · have e : childOf hi first root d = 2 * root + 1 := by unfold childOf; rw [if_neg hc]
    rw [e] at hl ⊢
    rw [if_neg (by simp only [Bool.and_eq_true, decide_eq_true_eq]; exact fun h2 => hc ⟨by omega, h2.2⟩), if_neg (by simp [hl])]

theorem childOf_lt {hi first root : Nat} {d : Array Nat} (h : 2 * root + 1 < hi) : childOf hi first root d < hi ∧ root < childOf hi first root d := by
  unfold childOf
  split
  · rename_i hc; omega
  · omega

set_option maxRecDepth 100000 in
set_option maxHeartbeats 4000000 in
theorem sift_any {g cap lo hi first : Nat} {d : Array Nat} {w : World} (hH : Holds encN w g 0 d) (hb : first + hi ≤ d.size) (hlo : lo ≤ 1000) (hsz : d.size ≤ 1000) :
    Calls Try.prog 77 #[.slice (some ⟨g, 0, none⟩) d.size cap, .int .i64 lo, .int .i64 hi, .int .i64 first] w fun e w' => e = .returned (.tuple #[]) ∧ RowAt w g (siftDown ltN hi first lo d) w' := by
  have LS := hide less_any
  have HH := hide hH
  clear hH
  go_enter Try.func77, Try.ntmps77
  go_wp2_with fail
  go_loopw [8] (fun v wr => ∃ (r : Nat) (dk : Array Nat), v = .int .i64 r ∧ r ≤ 1000 ∧ dk.size = d.size ∧ Hid (RowAt w g dk wr) ∧ Hid (siftDown ltN hi first r dk = siftDown ltN hi first lo d)) (fun v _ => 1001 - numOf v)
  case atStart => exact ⟨lo, d, rfl, hlo, rfl, RowAt.self HH.out, rfl⟩
  case round =>
    obtain ⟨r, dk, rfl, hr, hsk, HR, HO⟩ := hrel
    by_cases hend : hi ≤ 2 * r + 1
    · have h1 : (hi : Int) ≤ 2 * (r : Int) + 1 := by omega
      go_wp2_with fail
      go_end0
      rw [← HO.out, sift_end hend]
      exact ⟨rfl, HR.out⟩
    · have h1 : ¬ (hi : Int) ≤ 2 * (r : Int) + 1 := by omega
      obtain ⟨ch, hch⟩ : ∃ ch, ch = childOf hi first r dk := ⟨_, rfl⟩
      have hcl := childOf_lt (first := first) (d := dk) (by omega : 2 * r + 1 < hi)
      rw [← hch] at hcl
      obtain ⟨c1, hc1⟩ : ∃ c1, c1 = 2 * r + 1 := ⟨_, rfl⟩
      obtain ⟨c2, hc2⟩ : ∃ c2, c2 = 2 * r + 2 := ⟨_, rfl⟩
      obtain ⟨p1, hp1⟩ : ∃ p1, p1 = first + c1 := ⟨_, rfl⟩
      obtain ⟨p2, hp2⟩ : ∃ p2, p2 = first + c2 := ⟨_, rfl⟩
      obtain ⟨pr, hpr⟩ : ∃ pr, pr = first + r := ⟨_, rfl⟩
      have m1 : 2 * (r : Int) + 1 = (c1 : Int) := by omega
      have m2 : (first : Int) + (c1 : Int) = (p1 : Int) := by omega
      have m3 : (p1 : Int) + 1 = (p2 : Int) := by omega
      have m4 : (c1 : Int) + 1 = (c2 : Int) := by omega
      have m5 : (first : Int) + (r : Int) = (pr : Int) := by omega
      have m6 : (first : Int) + (c2 : Int) = (p2 : Int) := by omega
      have h2 : ¬ (hi : Int) ≤ (c1 : Int) := by omega
      have b1 : p1 < d.size := by omega
      have br : pr < d.size := by omega
      have q1 := HR.out.cell HH.out hsk b1
      have qr := HR.out.cell HH.out hsk br
      obtain ⟨x1, hx1⟩ : ∃ x, x = dk[p1]! := ⟨_, rfl⟩
      obtain ⟨xr, hxr⟩ : ∃ x, x = dk[pr]! := ⟨_, rfl⟩
      rw [← hx1] at q1
      rw [← hxr] at qr
      obtain ⟨q1, z1⟩ := q1
      obtain ⟨qr, zr⟩ := qr
      unfold encN at q1 qr
      have hn1 : ¬ pr = p1 := by omega
      have hn2 : ¬ p1 = pr := by omega
      -- the child, and what is done with it
      have GO : Hid (∀ pc x W, RowAt w g dk W → pc = first + childOf hi first r dk → x = dk[pc]! → ltN xr x = true → ∃ (r' : Nat) (dk' : Array Nat), Value.int .i64 ((childOf hi first r dk : Nat) : Int) = .int .i64 (r' : Nat) ∧ r' ≤ 1000 ∧ dk'.size = d.size ∧ Hid (RowAt w g dk' ((W.setCell ⟨g, pr, none⟩ (.int .u64 (x : Nat))).setCell ⟨g, pc, none⟩ (.int .u64 (xr : Nat)))) ∧ Hid (siftDown ltN hi first r' dk' = siftDown ltN hi first lo d)) := by
        intro pc x W hW hpc hx hl
        have e := childOf_lt (first := first) (d := dk) (by omega : 2 * r + 1 < hi)
        refine ⟨childOf hi first r dk, swp dk pr pc, rfl, by omega, by rw [size_swp]; exact hsk, ?_, ?_⟩
        · have := hW.swap pr pc (by omega) (by omega)
          rw [← hx, ← hxr] at this
          exact this
        · show _ = _
          have e2 := sift_go (first := first) (d := dk) (by omega : 2 * r + 1 < hi) (by rw [← hpc, ← hpr, ← hx, ← hxr]; exact hl)
          rw [← hpc, ← hpr] at e2
          rw [← HO.out, e2]
      have STOP : Hid (∀ pc x W, RowAt w g dk W → pc = first + childOf hi first r dk → x = dk[pc]! → ltN xr x = false → RowAt w g (siftDown ltN hi first lo d) W) := by
        intro pc x W hW hpc hx hl
        rw [← HO.out, sift_stop (by omega) (by rw [← hpc, ← hpr, ← hx, ← hxr]; exact hl)]
        exact hW
      have CH := hide (And.intro hc1 (And.intro hc2 (And.intro hp1 (And.intro hp2 hx1))))
      have hcl2 : Hid (c1 ≤ 2001 ∧ c2 ≤ 2002 ∧ r < c1) := ⟨by omega, by omega, by omega⟩
      have hfb : first ≤ 1000 := by omega
      have hcb1 : c1 ≤ 3000 := by omega
      have hcb2 : c2 ≤ 3000 := by omega
      have hpb1 : p1 ≤ 1000 := by omega
      have hprb : pr ≤ 1000 := by omega
      have wpr : IntKind.i64.wrap (pr : Int) = (pr : Int) := i64_small _ (by omega) (by omega)
      have wp1 : IntKind.i64.wrap (p1 : Int) = (p1 : Int) := i64_small _ (by omega) (by omega)
      have wp2 : IntKind.i64.wrap (p2 : Int) = (p2 : Int) := i64_small _ (by omega) (by omega)
      have hpb2 : p2 ≤ 1001 := by omega
      by_cases h3 : c2 < hi
      · have h3' : (c2 : Int) < (hi : Int) := by omega
        have b2 : p2 < d.size := by omega
        have q2 := HR.out.cell HH.out hsk b2
        obtain ⟨x2, hx2⟩ : ∃ x, x = dk[p2]! := ⟨_, rfl⟩
        rw [← hx2] at q2
        obtain ⟨q2, z2⟩ := q2
        unfold encN at q2
        have HX2 := hide hx2
        have hn3 : ¬ pr = p2 := by omega
        have hn4 : ¬ p2 = pr := by omega
        clear hc1 hc2 hp1 hp2 hpr hx1 hxr hx2 hch
        cases hl : ltN x1 x2 with
        | true =>
          have ec : Hid (childOf hi first r dk = c2) := by
            show _ = _
            have q := CH.out
            unfold childOf
            rw [if_pos ⟨by omega, by rw [← q.1, ← q.2.1, ← q.2.2.1, ← q.2.2.2.1, ← q.2.2.2.2, ← HX2.out]; exact hl⟩, q.2.1]
          have L1 := hide (fun W => hl ▸ LS.out x1 x2 W)
          have epc : Hid (p2 = first + childOf hi first r dk) := by show _ = _; rw [ec.out]; exact CH.out.2.2.2.1
          cases hl2 : ltN xr x2 with
          | true =>
            have L2 := hide (fun W => hl2 ▸ LS.out xr x2 W)
            go_wp2_with fail
            go_quiet ((go_at_call 72; refine Calls.quiet_of_same (L1.out _)))
            obtain ⟨wq, hwq⟩ : ∃ wq, wq = wr.drewN nq := ⟨_, rfl⟩
            have RQ : Hid (RowAt w g dk wq) := by rw [hwq]; exact HR.out.drewN _
            have qr' : wq.cell? ⟨g, pr, none⟩ = some (.int .u64 xr) := by rw [hwq]; exact qr
            have qx' : wq.cell? ⟨g, p2, none⟩ = some (.int .u64 x2) := by rw [hwq]; exact q2
            have zr' : wq.frozen? ⟨g, pr, none⟩ = false := by rw [hwq]; exact zr
            have zx' : wq.frozen? ⟨g, p2, none⟩ = false := by rw [hwq]; exact z2
            rw [← hwq]
            clear hwq
            go_wp2_with fail
            go_quiet ((go_at_call 72; refine Calls.quiet_of_same (L2.out _)))
            go_wp2_with fail
            go_region
            all_goals
            go_wp2_with fail
            go_roundw
            case rel =>
              have q := fun W h => GO.out p2 x2 W h epc.out HX2.out hl2
              rw [ec.out] at q
              first | exact q _ (RQ.out.drewN _) | exact q (wq.drewN (nq + 1)) (RQ.out.drewN _) | exact q ((wq.drewN nq).drew) (RQ.out.drewN (nq + 1))
            case measure => have := hcl2.out; simp [numOf]; omega
          | false =>
            have L2 := hide (fun W => hl2 ▸ LS.out xr x2 W)
            go_wp2_with fail
            go_quiet ((go_at_call 72; refine Calls.quiet_of_same (L1.out _)))
            obtain ⟨wq, hwq⟩ : ∃ wq, wq = wr.drewN nq := ⟨_, rfl⟩
            have RQ : Hid (RowAt w g dk wq) := by rw [hwq]; exact HR.out.drewN _
            have qr' : wq.cell? ⟨g, pr, none⟩ = some (.int .u64 xr) := by rw [hwq]; exact qr
            have qx' : wq.cell? ⟨g, p2, none⟩ = some (.int .u64 x2) := by rw [hwq]; exact q2
            have zr' : wq.frozen? ⟨g, pr, none⟩ = false := by rw [hwq]; exact zr
            have zx' : wq.frozen? ⟨g, p2, none⟩ = false := by rw [hwq]; exact z2
            rw [← hwq]
            clear hwq
            go_wp2_with fail
            go_quiet ((go_at_call 72; refine Calls.quiet_of_same (L2.out _)))
            go_wp2_with fail
            refine bodyPost_ret (results_none rfl _ _ _) rfl ?_
            exact ⟨rfl, STOP.out p2 x2 _ (RQ.out.drewN _) epc.out HX2.out hl2⟩
        | false =>
          have ec : Hid (childOf hi first r dk = c1) := by
            show _ = _
            have q := CH.out
            unfold childOf
            rw [if_neg (fun h => by have h2 := h.2; rw [← q.1, ← q.2.1, ← q.2.2.1, ← q.2.2.2.1, ← q.2.2.2.2, ← HX2.out, hl] at h2; cases h2), q.1]
          have L1 := hide (fun W => hl ▸ LS.out x1 x2 W)
          have epc : Hid (p1 = first + childOf hi first r dk) := by show _ = _; rw [ec.out]; exact CH.out.2.2.1
          cases hl2 : ltN xr x1 with
          | true =>
            have L2 := hide (fun W => hl2 ▸ LS.out xr x1 W)
            go_wp2_with fail
            go_quiet ((go_at_call 72; refine Calls.quiet_of_same (L1.out _)))
            obtain ⟨wq, hwq⟩ : ∃ wq, wq = wr.drewN nq := ⟨_, rfl⟩
            have RQ : Hid (RowAt w g dk wq) := by rw [hwq]; exact HR.out.drewN _
            have qr' : wq.cell? ⟨g, pr, none⟩ = some (.int .u64 xr) := by rw [hwq]; exact qr
            have qx' : wq.cell? ⟨g, p1, none⟩ = some (.int .u64 x1) := by rw [hwq]; exact q1
            have zr' : wq.frozen? ⟨g, pr, none⟩ = false := by rw [hwq]; exact zr
            have zx' : wq.frozen? ⟨g, p1, none⟩ = false := by rw [hwq]; exact z1
            rw [← hwq]
            clear hwq
            go_wp2_with fail
            go_quiet ((go_at_call 72; refine Calls.quiet_of_same (L2.out _)))
            go_wp2_with fail
            go_region
            all_goals
            go_wp2_with fail
            go_roundw
            case rel =>
              have q := fun W h => GO.out p1 x1 W h epc.out CH.out.2.2.2.2 hl2
              rw [ec.out] at q
              first | exact q _ (RQ.out.drewN _) | exact q (wq.drewN (nq + 1)) (RQ.out.drewN _) | exact q ((wq.drewN nq).drew) (RQ.out.drewN (nq + 1))
            case measure => have := hcl2.out; simp [numOf]; omega
          | false =>
            have L2 := hide (fun W => hl2 ▸ LS.out xr x1 W)
            go_wp2_with fail
            go_quiet ((go_at_call 72; refine Calls.quiet_of_same (L1.out _)))
            obtain ⟨wq, hwq⟩ : ∃ wq, wq = wr.drewN nq := ⟨_, rfl⟩
            have RQ : Hid (RowAt w g dk wq) := by rw [hwq]; exact HR.out.drewN _
            have qr' : wq.cell? ⟨g, pr, none⟩ = some (.int .u64 xr) := by rw [hwq]; exact qr
            have qx' : wq.cell? ⟨g, p1, none⟩ = some (.int .u64 x1) := by rw [hwq]; exact q1
            have zr' : wq.frozen? ⟨g, pr, none⟩ = false := by rw [hwq]; exact zr
            have zx' : wq.frozen? ⟨g, p1, none⟩ = false := by rw [hwq]; exact z1
            rw [← hwq]
            clear hwq
            go_wp2_with fail
            go_quiet ((go_at_call 72; refine Calls.quiet_of_same (L2.out _)))
            go_wp2_with fail
            refine bodyPost_ret (results_none rfl _ _ _) rfl ?_
            exact ⟨rfl, STOP.out p1 x1 _ (RQ.out.drewN _) epc.out CH.out.2.2.2.2 hl2⟩
      · have h3' : ¬ (c2 : Int) < (hi : Int) := by omega
        have ec : Hid (childOf hi first r dk = c1) := by
          show _ = _
          have q := CH.out
          unfold childOf
          rw [if_neg (fun h => by have := h.1; omega), q.1]
        have epc : Hid (p1 = first + childOf hi first r dk) := by show _ = _; rw [ec.out]; exact CH.out.2.2.1
        clear hc1 hc2 hp1 hp2 hpr hx1 hxr hch
        cases hl2 : ltN xr x1 with
        | true =>
          have L2 := hide (fun W => hl2 ▸ LS.out xr x1 W)
          go_wp2_with fail
          go_quiet (fail)
          obtain ⟨wq, hwq⟩ : ∃ wq, wq = wr.drewN nq := ⟨_, rfl⟩
          have RQ : Hid (RowAt w g dk wq) := by rw [hwq]; exact HR.out.drewN _
          have qr' : wq.cell? ⟨g, pr, none⟩ = some (.int .u64 xr) := by rw [hwq]; exact qr
          have qx' : wq.cell? ⟨g, p1, none⟩ = some (.int .u64 x1) := by rw [hwq]; exact q1
          have zr' : wq.frozen? ⟨g, pr, none⟩ = false := by rw [hwq]; exact zr
          have zx' : wq.frozen? ⟨g, p1, none⟩ = false := by rw [hwq]; exact z1
          rw [← hwq]
          clear hwq
          go_wp2_with fail
          go_quiet ((go_at_call 72; refine Calls.quiet_of_same (L2.out _)))
          go_wp2_with fail
          go_region
          all_goals
          go_wp2_with fail
          go_roundw
          case rel =>
            have q := fun W h => GO.out p1 x1 W h epc.out CH.out.2.2.2.2 hl2
            rw [ec.out] at q
            first | exact q _ (RQ.out.drewN _) | exact q (wq.drewN (nq + 1)) (RQ.out.drewN _) | exact q ((wq.drewN nq).drew) (RQ.out.drewN (nq + 1))
          case measure => have := hcl2.out; simp [numOf]; omega
        | false =>
          have L2 := hide (fun W => hl2 ▸ LS.out xr x1 W)
          go_wp2_with fail
          go_quiet (fail)
          obtain ⟨wq, hwq⟩ : ∃ wq, wq = wr.drewN nq := ⟨_, rfl⟩
          have RQ : Hid (RowAt w g dk wq) := by rw [hwq]; exact HR.out.drewN _
          have qr' : wq.cell? ⟨g, pr, none⟩ = some (.int .u64 xr) := by rw [hwq]; exact qr
          have qx' : wq.cell? ⟨g, p1, none⟩ = some (.int .u64 x1) := by rw [hwq]; exact q1
          have zr' : wq.frozen? ⟨g, pr, none⟩ = false := by rw [hwq]; exact zr
          have zx' : wq.frozen? ⟨g, p1, none⟩ = false := by rw [hwq]; exact z1
          rw [← hwq]
          clear hwq
          go_wp2_with fail
          go_quiet ((go_at_call 72; refine Calls.quiet_of_same (L2.out _)))
          go_wp2_with fail
          refine bodyPost_ret (results_none rfl _ _ _) rfl ?_
          exact ⟨rfl, STOP.out p1 x1 _ (RQ.out.drewN _) epc.out CH.out.2.2.2.2 hl2⟩

end Go.Proofs.Ytokodmeabchmjaa
