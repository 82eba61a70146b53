/-
  What runs.order tells, and that it is an order; slices.SortFunc by it. A lemma file: no statement of the seat is proved here.
-/
import Derived.Deep.QuietTactic
import Derived.BigQuiet
import Derived.Deep.RegionLaw
import Derived.Shelf.SlSortCmp.QuietGrown
import Derived.Test.YtbppjbdcgcmjiaaQRows
namespace Go.Proofs.Ytbppjbdcgcmjiaa
open Go.RowKit Go.Shelf Go.Sort

/-- What runs.order tells of two records. -/
def cmpR (x y : Rc) : Int := if x.1 = y.1 ∧ x.2 = y.2 then 0 else if ltR x y = true then -1 else 1

set_option maxRecDepth 100000 in
set_option maxHeartbeats 1000000 in
/-- Before, by what it lays. -/
theorem before_grow (x1 x2 y1 y2 : Int) (w : World) :
    Calls Try.prog 39 #[.agg #[.int .u64 x1, .int .u64 x2], .agg #[.int .u64 y1, .int .u64 y2]] w fun e w' => e = .returned (.bool (ltR (x1, x2) (y1, y2))) ∧ w' = (w.alloc (.cells #[.int .u64 x1, .int .u64 x2] 44)).alloc (.cells #[.int .u64 y1, .int .u64 y2] 44) := by
  go_enter Try.func39, Try.ntmps39
  go_wp2
  all_goals
    go_ret
    refine ⟨?_, by subst_vars; rfl⟩
    simp only [Ending.returned.injEq, ltR]
    simp [*] <;> omega

theorem grow2 (w : World) (o1 o2 : Obj) : (w.alloc o1).alloc o2 = grow w #[o1, o2] := by
  rw [alloc_eq_grow, alloc_eq_grow, grow_grow]
  rfl

theorem grow4 (w : World) (o1 o2 o3 o4 : Obj) : (((w.alloc o1).alloc o2).alloc o3).alloc o4 = grow w #[o1, o2, o3, o4] := by
  rw [grow2, grow2, grow_grow]
  rfl

set_option maxRecDepth 100000 in
set_option maxHeartbeats 1000000 in
theorem order_any (x y : Rc) (W : World) : Calls Try.prog 31 #[.agg (encR x).toArray, .agg (encR y).toArray] W fun e w' => e = .returned (.int .i64 (cmpR x y)) ∧ ∃ q os', w' = grow (W.drewN q) os' := by
  obtain ⟨x1, x2⟩ := x
  obtain ⟨y1, y2⟩ := y
  show Calls Try.prog 31 #[.agg #[.int .u64 x1, .int .u64 x2], .agg #[.int .u64 y1, .int .u64 y2]] W _
  have HB := hide (fun w => before_grow x1 x2 y1 y2 w)
  have HC : Hid (cmpR (x1, x2) (y1, y2) = if x1 = y1 ∧ x2 = y2 then 0 else if ltR (x1, x2) (y1, y2) = true then -1 else 1) := rfl
  generalize cmpR (x1, x2) (y1, y2) = c at HC
  generalize ltR (x1, x2) (y1, y2) = r at HB HC
  by_cases h1 : x1 = y1
  · by_cases h2 : x2 = y2
    · subst h1
      subst h2
      go_enter Try.func31, Try.ntmps31
      go_wp2
      go_ret
      refine ⟨by rw [HC.out]; simp, 0, #[.cells #[.int .u64 x1, .int .u64 x2] 44, .cells #[.int .u64 x1, .int .u64 x2] 44], ?_⟩
      exact grow2 _ _ _
    · have HC2 : Hid (c = if r = true then -1 else 1) := by show _ = _; rw [HC.out, if_neg (fun h => h2 h.2)]
      clear HC
      subst h1
      cases r with
      | true =>
        go_enter Try.func31, Try.ntmps31
        go_wp2_with fail
        refine (HB.out _).mono ?_
        rintro e w' ⟨rfl, rfl⟩
        go_wp2
        go_ret
        exact ⟨by rw [HC2.out]; rfl, 0, _, grow4 _ _ _ _ _⟩
      | false =>
        go_enter Try.func31, Try.ntmps31
        go_wp2_with fail
        refine (HB.out _).mono ?_
        rintro e w' ⟨rfl, rfl⟩
        go_wp2
        go_ret
        exact ⟨by rw [HC2.out]; rfl, 0, _, grow4 _ _ _ _ _⟩
  · have HC2 : Hid (c = if r = true then -1 else 1) := by show _ = _; rw [HC.out, if_neg (fun h => h1 h.1)]
    clear HC
    cases r with
    | true =>
      go_enter Try.func31, Try.ntmps31
      go_wp2_with fail
      refine (HB.out _).mono ?_
      rintro e w' ⟨rfl, rfl⟩
      go_wp2
      go_ret
      exact ⟨by rw [HC2.out]; rfl, 0, _, grow4 _ _ _ _ _⟩
    | false =>
      go_enter Try.func31, Try.ntmps31
      go_wp2_with fail
      refine (HB.out _).mono ?_
      rintro e w' ⟨rfl, rfl⟩
      go_wp2
      go_ret
      exact ⟨by rw [HC2.out]; rfl, 0, _, grow4 _ _ _ _ _⟩

end Go.Proofs.Ytbppjbdcgcmjiaa
