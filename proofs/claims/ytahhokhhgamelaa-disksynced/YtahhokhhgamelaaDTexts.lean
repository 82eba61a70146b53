/-
  Two rows of strings that are the same. A lemma file: no statement of the seat is proved here.
-/
import Derived.Test.YtahhokhhgamelaaDRename
namespace Go.Proofs.Ytahhokhhgamelaa
open Go.RowKit Go.Maps Go.Sort Go.Shelf

/-- The slice v holds one string. -/
def IsS1 (w : World) (v : Value) (s : ByteArray) : Prop := ∃ b off cap, v = .slice (some ⟨b, off, none⟩) 1 cap ∧ 1 ≤ cap ∧ w.cell? ⟨b, off, none⟩ = some (.string s)

set_option maxRecDepth 100000 in
set_option maxHeartbeats 2000000 in
theorem texts_one (a b : Value) (s : ByteArray) (w : World) (ha : IsS1 w a s) (hb : IsS1 w b s) : Calls Try.prog 34 #[a, b] w fun e w' => e = .returned (.bool true) ∧ Below w.heap.size w w' := by
  obtain ⟨b1, o1, c1, rfl, h1, n1⟩ := ha
  obtain ⟨b2, o2, c2, rfl, h2, n2⟩ := hb
  go_enter Try.func34, Try.ntmps34
  go_wp2
  go_loopw [5] (fun i wr => ∃ k : Nat, k ≤ 1 ∧ i = .int .i64 (k : Int) ∧ ∃ n, wr = w.drewN n) (fun i _ => 1 - (intOf i).toNat)
  case atStart => exact ⟨0, by omega, rfl, 0, rfl⟩
  case round =>
    obtain ⟨k, hk, rfl, n, rfl⟩ := hrel
    by_cases hlt : k < 1
    · obtain rfl : k = 0 := by omega
      go_wp2
      go_quiet (fail)
      go_wp2
      go_roundw
      case rel => exact ⟨1, by omega, rfl, _, rfl⟩
      case measure => simp [intOf]
    · obtain rfl : k = 1 := by omega
      go_wp2
      go_ret
      exact ⟨rfl, rfl, rfl, rfl, Nat.le_refl _, fun _ _ => rfl⟩

end Go.Proofs.Ytahhokhhgamelaa
