/-
  What shown answers. A lemma file: no statement of the seat is proved here.
-/
import Derived.Test.YtahhokhhgamelaaDShown2
namespace Go.Proofs.Ytahhokhhgamelaa
open Go.RowKit Go.Maps Go.Sort Go.Shelf

theorem own_new {n m : Nat} {w : World} : ∀ x ∈ own (.slice (some ⟨w.heap.size, 0, none⟩) n m), w.heap.size ≤ x := by
  intro x hx
  simp [own, Value.ownBlock] at hx
  omega

set_option maxRecDepth 100000 in
set_option maxHeartbeats 4000000 in
theorem shown_any (w : World) : Calls Try.prog 12 #[] w fun e w' => e = .returned (.bool true) ∧ Below w.heap.size w w' := by
  have NW := hide (Sd.new (B := w.heap.size) (w0 := w) 10 (by omega) w (Below.refl _ _) (Nat.le_refl _))
  go_enter Try.func12, Try.ntmps12
  go_wp2_with (go_at_call 13; refine NW.out.mono ?_; rintro e w1 ⟨rfl, d1⟩; have D1 : Hid (Sd w.heap.size w w1 (w.heap.size + 1) [] (S10 0 0 false)) := d1; clear d1)
  go_wp2_with (first | (go_at_call 16; refine (sd1 D1.out).mono ?_; rintro e w2 ⟨rfl, d2⟩; have D2 := hide d2; clear d2) | (at_make; refine wp_makeB _ rfl _ _ rfl 20 20 20 rfl rfl rfl rfl (by omega) ?_; intro w3 r3 b3; have R3 := hide r3; have B3 := hide b3; clear r3 b3))
  go_wp2_with (first | (go_at_call_of 18 (Value.slice (some ⟨w2.heap.size, 0, none⟩) 20 20); refine (sd2 D2.out _ B3.out R3.out own_new).mono ?_; rintro e w4 ⟨rfl, d4⟩; have D4 := hide d4; clear d4) | (at_make; refine wp_makeB _ rfl _ _ rfl 200 200 200 rfl rfl rfl rfl (by omega) ?_; intro w5 r5 b5; have R5 := hide r5; have B5 := hide b5; clear r5 b5))
  go_wp2_with (go_at_call 18; refine (sd3 D4.out _ B5.out R5.out own_new).mono ?_; rintro e w6 ⟨rfl, d6⟩; have D6 := hide d6; clear d6)
  go_wp2_with (go_at_call 24; refine (sd4 D6.out).mono ?_; rintro e w7 ⟨rfl, d7⟩; have D7 := hide d7; clear d7)
  go_wp2_with (go_at_call 42; refine (sd_used D7.out).mono ?_; rintro e w8 ⟨rfl, rfl⟩)
  go_wp2_with (go_at_call 35; refine (sd5 D7.out).mono ?_; rintro e w9 ⟨rfl, d9⟩; have D9 := hide d9; clear d9)
  go_wp2_with (go_at_call 24; refine (sd6 D9.out).mono ?_; rintro e w10 ⟨rfl, d10⟩; have D10 := hide d10; clear d10)
  go_wp2_with (go_at_call 37; refine (sd7 D10.out).mono ?_; rintro e w11 ⟨rfl, d11⟩; have D11 := hide d11; clear d11)
  go_wp2_with (go_at_call 24; refine (sd8 D11.out).mono ?_; rintro e w12 ⟨rfl, d12⟩; have D12 := hide d12; clear d12)
  go_wp2_with (first | (go_at_call 41; refine (sd_ops D12.out).mono ?_; rintro e w13 ⟨rfl, rfl⟩) | (go_at_call 44; refine (sd_room D12.out).mono ?_; rintro e w14 ⟨rfl, rfl⟩) | (go_at_call 40; refine (sd_down D12.out).mono ?_; rintro e w15 ⟨rfl, rfl⟩))
  go_ret
  exact ⟨rfl, D12.out.bel⟩

end Go.Proofs.Ytahhokhhgamelaa
