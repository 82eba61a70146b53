/-
  What edges.sorted's comparison does, and that it is an order. A lemma file: no statement of the seat is proved here.
-/
import Derived.Deep.QuietTactic
import Derived.BigQuiet
import Derived.Test.YtjkdnibfppjolaaOwnE
namespace Go.Proofs.Ytjkdnibfppjolaa
open Go.RowKit Go.Shelf Go.Sort

/-- What cmp.Compare tells of two numbers. -/
def cmpN (a b : Int) : Int := if a < b then -1 else if b < a then 1 else 0
/-- What slices.Compare tells of the numbers of two edges. -/
def cmpE (x y : Ed) : Int := if cmpN x.1 y.1 ≠ 0 then cmpN x.1 y.1 else if cmpN x.2.1 y.2.1 ≠ 0 then cmpN x.2.1 y.2.1 else cmpN x.2.2 y.2.2

theorem isNaN_any (a : Int) (w : World) : Calls Try.prog 59 #[.int .u32 a] w fun e w' => e = .returned (.bool false) ∧ w' = w := by
  go_enter Try.func59, Try.ntmps59
  go_wp2
  go_ret
  exact ⟨by simp, rfl⟩

theorem cmpN_any (a b : Int) (w : World) : Calls Try.prog 47 #[.int .u32 a, .int .u32 b] w fun e w' => e = .returned (.int .i64 (cmpN a b)) ∧ w' = w := by
  unfold cmpN
  by_cases h1 : a < b
  · rw [if_pos h1]
    go_enter Try.func47, Try.ntmps47
    go_wp2_with (go_at_call 59; refine (isNaN_any _ _).mono ?_; rintro e w' ⟨rfl, rfl⟩)
    go_ret
    exact ⟨rfl, rfl⟩
  · rw [if_neg h1]
    by_cases h2 : b < a
    · rw [if_pos h2]
      go_enter Try.func47, Try.ntmps47
      go_wp2_with (go_at_call 59; refine (isNaN_any _ _).mono ?_; rintro e w' ⟨rfl, rfl⟩)
      go_ret
      exact ⟨rfl, rfl⟩
    · rw [if_neg h2]
      go_enter Try.func47, Try.ntmps47
      go_wp2_with (go_at_call 59; refine (isNaN_any _ _).mono ?_; rintro e w' ⟨rfl, rfl⟩)
      go_ret
      exact ⟨rfl, rfl⟩

set_option maxHeartbeats 1000000 in
theorem compare_any (p q : Nat) (x y : Ed) (w : World) (cp : w.cell? ⟨p, 0, none⟩ = some (.int .u32 x.1) ∧ w.cell? ⟨p, 1, none⟩ = some (.int .u32 x.2.1) ∧ w.cell? ⟨p, 2, none⟩ = some (.int .u32 x.2.2))
    (cq : w.cell? ⟨q, 0, none⟩ = some (.int .u32 y.1) ∧ w.cell? ⟨q, 1, none⟩ = some (.int .u32 y.2.1) ∧ w.cell? ⟨q, 2, none⟩ = some (.int .u32 y.2.2)) :
    Calls Try.prog 42 #[.slice (some ⟨p, 0, none⟩) 3 3, .slice (some ⟨q, 0, none⟩) 3 3] w fun e w' => e = .returned (.int .i64 (cmpE x y)) ∧ w' = w := by
  obtain ⟨p0, p1, p2⟩ := cp
  obtain ⟨q0, q1, q2⟩ := cq
  obtain ⟨x1, x2, x3⟩ := x
  obtain ⟨y1, y2, y3⟩ := y
  dsimp only at p0 p1 p2 q0 q1 q2
  have C1 := hide fun w => cmpN_any x1 y1 w
  have C2 := hide fun w => cmpN_any x2 y2 w
  have C3 := hide fun w => cmpN_any x3 y3 w
  simp only [cmpE]
  generalize cmpN x1 y1 = r1 at C1 ⊢
  generalize cmpN x2 y2 = r2 at C2 ⊢
  generalize cmpN x3 y3 = r3 at C3 ⊢
  by_cases h1 : r1 = 0
  · by_cases h2 : r2 = 0
    · by_cases h3 : r3 = 0
      · rw [if_neg (by simpa using h1), if_neg (by simpa using h2)]
        have t1 : (r1 != 0) = false := by simpa using h1
        have t2 : (r2 != 0) = false := by simpa using h2
        have t3 : (r3 != 0) = false := by simpa using h3
        have H3 := hide h3
        clear h1 h2 h3
        go_enter Try.func42, Try.ntmps42
        go_wp2_with fail
        refine wp_loop_rounds 4 ?_
        rw [rounds_succ]
        go_wp2_with fail
        refine (C1.out _).mono ?_
        rintro e w' ⟨rfl, rfl⟩
        go_wp2_with fail
        rw [rounds_succ]
        go_wp2_with fail
        refine (C2.out _).mono ?_
        rintro e w' ⟨rfl, rfl⟩
        go_wp2_with fail
        rw [rounds_succ]
        go_wp2_with fail
        refine (C3.out _).mono ?_
        rintro e w' ⟨rfl, rfl⟩
        go_wp2_with fail
        rw [rounds_succ]
        go_wp2
        go_ret
        rw [H3.out]
        exact ⟨rfl, rfl⟩
      · rw [if_neg (by simpa using h1), if_neg (by simpa using h2)]
        have t1 : (r1 != 0) = false := by simpa using h1
        have t2 : (r2 != 0) = false := by simpa using h2
        have t3 : (r3 != 0) = true := by simpa using h3
        clear h1 h2 h3
        go_enter Try.func42, Try.ntmps42
        go_wp2_with fail
        refine wp_loop_rounds 3 ?_
        rw [rounds_succ]
        go_wp2_with fail
        refine (C1.out _).mono ?_
        rintro e w' ⟨rfl, rfl⟩
        go_wp2_with fail
        rw [rounds_succ]
        go_wp2_with fail
        refine (C2.out _).mono ?_
        rintro e w' ⟨rfl, rfl⟩
        go_wp2_with fail
        rw [rounds_succ]
        go_wp2_with fail
        refine (C3.out _).mono ?_
        rintro e w' ⟨rfl, rfl⟩
        go_wp2
        go_ret
        exact ⟨rfl, rfl⟩
    · rw [if_neg (by simpa using h1), if_pos h2]
      have t1 : (r1 != 0) = false := by simpa using h1
      have t2 : (r2 != 0) = true := by simpa using h2
      clear h1 h2
      go_enter Try.func42, Try.ntmps42
      go_wp2_with fail
      refine wp_loop_rounds 2 ?_
      rw [rounds_succ]
      go_wp2_with fail
      refine (C1.out _).mono ?_
      rintro e w' ⟨rfl, rfl⟩
      go_wp2_with fail
      rw [rounds_succ]
      go_wp2_with fail
      refine (C2.out _).mono ?_
      rintro e w' ⟨rfl, rfl⟩
      go_wp2
      go_ret
      exact ⟨rfl, rfl⟩
  · rw [if_pos h1]
    have t1 : (r1 != 0) = true := by simpa using h1
    clear h1
    go_enter Try.func42, Try.ntmps42
    go_wp2_with fail
    refine wp_loop_rounds 1 ?_
    rw [rounds_succ]
    go_wp2_with fail
    refine (C1.out _).mono ?_
    rintro e w' ⟨rfl, rfl⟩
    go_wp2
    go_ret
    exact ⟨rfl, rfl⟩

set_option maxHeartbeats 1000000 in
/-- The closure that edges.sorted hands to slices.SortFunc: two blocks are laid. -/
theorem closure_any (x y : Ed) (W : World) : Calls Try.prog 41 #[.agg (encE x).toArray, .agg (encE y).toArray] W fun e w' => e = .returned (.int .i64 (cmpE x y)) ∧ ∃ q os', w' = grow (W.drewN q) os' := by
  have hC := fun w cp cq => compare_any W.heap.size (W.heap.size + 1) x y w cp cq
  have HC := hide hC
  clear hC
  generalize cmpE x y = r at HC ⊢
  obtain ⟨x1, x2, x3⟩ := x
  obtain ⟨y1, y2, y3⟩ := y
  show Calls Try.prog 41 #[.agg #[.int .u32 x1, .int .u32 x2, .int .u32 x3], .agg #[.int .u32 y1, .int .u32 y2, .int .u32 y3]] W _
  go_enter Try.func41, Try.ntmps41
  go_wp2
  go_quiet ((go_at_call 42; exact Calls.quiet_of_same (HC.out _ (by simp) (by simp))))
  go_wp2
  go_ret
  refine ⟨rfl, nq, #[.cells #[.int .u32 x1, .int .u32 x2, .int .u32 x3] 50, .cells #[.int .u32 y1, .int .u32 y2, .int .u32 y3] 50], ?_⟩
  rw [alloc_eq_grow, alloc_eq_grow, grow_grow]
  rfl

theorem cmpLays (blk off size : Nat) (w : World) : CmpLays Try.prog 41 #[] encE 3 cmpE blk off size w := fun _ _ _ _ x y => closure_any x y _

theorem ltE (x y : Ed) : ltOf cmpE x y = decide (x.1 < y.1 ∨ x.1 = y.1 ∧ (x.2.1 < y.2.1 ∨ x.2.1 = y.2.1 ∧ x.2.2 < y.2.2)) := by
  unfold ltOf
  rw [decide_eq_decide]
  unfold cmpE cmpN
  repeat' split
  all_goals omega

theorem swoE : SWO (ltOf cmpE) where
  irrefl x := by rw [ltE]; simp
  trans x y z h1 h2 := by
    rw [ltE] at *
    rw [decide_eq_true_eq] at *
    omega
  ntrans x y z h1 h2 := by
    rw [ltE] at *
    rw [decide_eq_false_iff_not] at *
    omega

theorem totE (x y : Ed) (h1 : ltOf cmpE x y = false) (h2 : ltOf cmpE y x = false) : x = y := by
  rw [ltE, decide_eq_false_iff_not] at h1 h2
  obtain ⟨x1, x2, x3⟩ := x
  obtain ⟨y1, y2, y3⟩ := y
  dsimp only at h1 h2
  have e1 : x1 = y1 := by omega
  have e2 : x2 = y2 := by omega
  have e3 : x3 = y3 := by omega
  rw [e1, e2, e3]

/-- The edges in order. -/
def sortE (es : List Ed) : List Ed := es.mergeSort fun x y => !(ltOf cmpE) y x

end Go.Proofs.Ytjkdnibfppjolaa
