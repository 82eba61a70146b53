/-
  slices.Sort of at most twelve numbers. A lemma file: no statement of the seat is proved here.
-/
import Derived.Test.YtokodmeabchmjaaLIns
import Derived.Test.YtokodmeabchmjaaLLen
namespace Go.Proofs.Ytokodmeabchmjaa
open Go.RowKit Go.Sort

theorem RowAt.holds {w w' : World} {g : Nat} {d dk : Array Nat} (h : RowAt w g dk w') (hH : Holds encN w g 0 d) (hs : dk.size = d.size) : Holds encN w' g 0 dk := by
  obtain ⟨n, rfl⟩ := h
  exact holds_putRow encN _ g 0 d dk (holds_ahead encN w n g 0 d hH) hs

theorem RowAt.kept {w w' : World} {g : Nat} {dk : Array Nat} (h : RowAt w g dk w') : Kept [g] w w' := by
  obtain ⟨n, rfl⟩ := h
  refine ⟨rfl, rfl, rfl, by simp [Sort.ahead], fun k _ hk => ?_⟩
  simp only [List.mem_singleton] at hk
  simp [putRow, mapBlock, Sort.ahead, Array.getElem?_modify, Ne.symm hk]

/-- What a sort leaves. -/
def Sorted (w : World) (g : Nat) (d : Array Nat) (a b : Nat) (w' : World) : Prop := ∃ d', PermIn a b d d' ∧ SortedIn ltN a b d' ∧ Holds encN w' g 0 d' ∧ Kept [g] w w'

theorem len_any (n : Nat) (hn : n ≤ 1000000) (w : World) : Calls Try.prog 64 #[.int .u64 n] w fun e w' => e = .returned (.int .i64 (Lib.bitLen n)) ∧ w' = w :=
  Any.bits_Len Try.lenL (n : Int) w (by omega) (by omega)

set_option maxRecDepth 100000 in
set_option maxHeartbeats 4000000 in
theorem pdq_small {g cap : Nat} {d : Array Nat} {w : World} (hH : Holds encN w g 0 d) (hsz : d.size ≤ 12) (l : Int) :
    Calls Try.prog 63 #[.slice (some ⟨g, 0, none⟩) d.size cap, .int .i64 0, .int .i64 d.size, .int .i64 l] w fun e w' => e = .returned (.tuple #[]) ∧ RowAt w g (insertionSort ltN d 0 d.size) w' := by
  have IA := hide (ins_any (cap := cap) (a := 0) (b := d.size) hH (Nat.zero_le _) (Nat.le_refl _) (by omega))
  have h12 : (d.size : Int) ≤ 12 := by omega
  clear hH
  go_enter Try.func63, Try.ntmps63
  go_wp2_with fail
  go_loopw [1, 2] (fun v1 v2 wr => v1 = .int .i64 0 ∧ v2 = .int .i64 d.size ∧ wr = w) (fun _ _ _ => 0)
  case atStart => exact ⟨rfl, rfl, rfl⟩
  case round =>
    obtain ⟨rfl, rfl, rfl⟩ := hrel
    go_wp2_with (go_at_call 66; refine IA.out.mono ?_; rintro e w1 ⟨rfl, r1⟩; have R1 := hide r1; clear r1)
    refine bodyPost_ret (results_none rfl _ _ _) rfl ?_
    exact ⟨rfl, R1.out⟩

set_option maxRecDepth 100000 in
set_option maxHeartbeats 4000000 in
theorem sort_small {g cap : Nat} {d : Array Nat} {w : World} (hH : Holds encN w g 0 d) (hsz : d.size ≤ 12) :
    Calls Try.prog 57 #[.slice (some ⟨g, 0, none⟩) d.size cap] w fun e w' => e = .returned (.tuple #[]) ∧ Sorted w g d 0 d.size w' := by
  have PS := hide (fun l => pdq_small (cap := cap) hH hsz l)
  have LN := hide (fun W => len_any d.size (by omega) W)
  have hc : IntKind.u64.wrap (d.size : Int) = d.size := by rw [IntKind.wrap_u64]; omega
  have HH := hide hH
  have hs := insertionSort_holds swoN d 0 d.size (Nat.zero_le _) (Nat.le_refl _)
  have HS := hide hs
  clear hs hH
  go_enter Try.func57, Try.ntmps57
  go_wp2_with (first | (go_at_call 64; refine (LN.out _).mono ?_; rintro e w0 ⟨rfl, rfl⟩) | (go_at_call 63; refine (PS.out _).mono ?_; rintro e w1 ⟨rfl, r1⟩; have R1 := hide r1; clear r1))
  go_end0
  exact ⟨rfl, _, HS.out.1, HS.out.2, R1.out.holds HH.out HS.out.1.1, R1.out.kept⟩

end Go.Proofs.Ytokodmeabchmjaa
