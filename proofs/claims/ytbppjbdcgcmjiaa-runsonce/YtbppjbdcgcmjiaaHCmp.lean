/-
  Records held against each other: Before, Less, ahead, sound. A lemma file: no statement of the seat is proved here.
-/
import Derived.Test.YtbppjbdcgcmjiaaHMem
namespace Go.Proofs.Ytbppjbdcgcmjiaa
open Go.RowKit

set_option maxRecDepth 100000 in
set_option maxHeartbeats 1000000 in
theorem before_any (x1 x2 y1 y2 : Int) (w : World) :
    Calls Try.prog 39 #[.agg #[.int .u64 x1, .int .u64 x2], .agg #[.int .u64 y1, .int .u64 y2]] w fun e w' => e = .returned (.bool (ltR (x1, x2) (y1, y2))) ∧ Below w.heap.size w w' := by
  go_enter Try.func39, Try.ntmps39
  go_wp2
  all_goals
    go_ret
    refine ⟨?_, ((Below.refl _ w).alloc (Nat.le_refl _) _).alloc (by simp) _⟩
    simp only [Ending.returned.injEq, ltR]
    simp [*] <;> omega

set_option maxRecDepth 100000 in
set_option maxHeartbeats 1000000 in
theorem less_any (x1 x2 y1 y2 : Int) (w : World) :
    Calls Try.prog 22 #[.agg #[.int .u64 x1, .int .u64 x2], .agg #[.int .u64 y1, .int .u64 y2]] w fun e w' => e = .returned (.bool (ltR (x1, x2) (y1, y2))) ∧ Below w.heap.size w w' := by
  go_enter Try.func22, Try.ntmps22
  go_wp2
  all_goals
    go_ret
    refine ⟨?_, ((Below.refl _ w).alloc (Nat.le_refl _) _).alloc (by simp) _⟩
    simp only [Ending.returned.injEq, ltR]
    rename_i hx
    simp at hx
    simp [hx]

theorem method_any (x1 x2 : Int) (w : World) : (method 210 44 (.agg #[.int .u64 x1, .int .u64 x2]) "Before").run Try.prog w = .ok (39, .agg #[.int .u64 x1, .int .u64 x2]) w := by
  kernel_rfl

end Go.Proofs.Ytbppjbdcgcmjiaa
