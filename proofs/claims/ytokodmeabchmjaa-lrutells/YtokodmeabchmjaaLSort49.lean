/-
  slices.Sort of fewer than fifty numbers, no two alike. A lemma file: no statement of the seat is proved here.
-/
import Derived.Test.YtokodmeabchmjaaLPdq6
import Derived.Test.YtokodmeabchmjaaLSorted
namespace Go.Proofs.Ytokodmeabchmjaa
open Go.RowKit Go.Sort

theorem bitLen_few : ∀ n, n < 50 → Lib.bitLen n ≤ 100 := by decide

set_option maxRecDepth 100000 in
set_option maxHeartbeats 4000000 in
theorem sortsTo49 : SortsTo 49 := by
  intro g cap d w hH hsz hg hap
  have PS := hide (pdq_any g cap (d.size + 1) 0 d.size (Lib.bitLen d.size) d w (by omega) hH hg (Nat.zero_le _) (Nat.le_refl _) (by omega) (bitLen_few _ (by omega)) hap (.inl rfl))
  have LN := hide (fun W => len_any d.size (by omega) W)
  have hc : IntKind.u64.wrap (d.size : Int) = d.size := by rw [IntKind.wrap_u64]; omega
  clear hH hap
  go_enter Try.func57, Try.ntmps57
  go_wp2_with (first | (go_at_call 64; refine (LN.out _).mono ?_; rintro e w0 ⟨rfl, rfl⟩) | (go_at_call 63; refine PS.out.mono ?_; rintro e w1 ⟨rfl, r1⟩; have R1 := hide r1; clear r1))
  go_end0
  exact ⟨rfl, R1.out⟩

end Go.Proofs.Ytokodmeabchmjaa
