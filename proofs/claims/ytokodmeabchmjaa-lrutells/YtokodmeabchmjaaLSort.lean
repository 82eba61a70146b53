/-
  Numbers sorted in memory: cmp.Less, slices.insertionSortOrdered. A lemma file: no statement of the seat is proved here.
-/
import Derived.Test.YtokodmeabchmjaaLKey
import Derived.Sort.Row
import Derived.Sort.Statements
import Derived.Sort.LotA
import Derived.BigGuard
import Derived.BigCall
import Derived.CellFam
import Derived.Deep.Draws
import Derived.Deep.QuietTactic
import Derived.BigQuiet
namespace Go.Proofs.Ytokodmeabchmjaa
open Go.RowKit Go.Sort

def encN (x : Nat) : Value := .int .u64 x
def ltN (x y : Nat) : Bool := decide (x < y)
def numOf : Value → Nat | .int _ q => q.toNat | _ => 0

theorem swoN : SWO ltN := ⟨fun x => by simp [ltN], fun x y z => by simp only [ltN, decide_eq_true_eq]; omega, fun x y z => by simp only [ltN, decide_eq_false_iff_not]; omega⟩

/-- w' is w with d in the row; it may have drawn. -/
def RowAt (w : World) (g : Nat) (d : Array Nat) (w' : World) : Prop := ∃ n, w' = putRow encN (Sort.ahead w n) g 0 d

theorem less_any (x y : Nat) (w : World) : Calls Try.prog 72 #[.int .u64 x, .int .u64 y] w fun e w' => e = .returned (.bool (ltN x y)) ∧ w' = w := by
  unfold ltN
  have e : decide (x < y) = decide ((x : Int) < (y : Int)) := by simp
  rw [e]
  go_enter Try.func72, Try.ntmps72
  go_wp2
  go_ret
  exact ⟨rfl, rfl⟩

end Go.Proofs.Ytokodmeabchmjaa
