/-
  What the statements of layer 2 ask in any case: it is so; and what few does. A lemma file: no statement of the seat is proved here.
-/
import Derived.Test.YtjkdnibfppjolaaSame2
import Derived.Test.YtjkdnibfppjolaaEnc2
import Derived.Lib.SlBytesConst
namespace Go.Proofs.Ytjkdnibfppjolaa
open Go.RowKit

/-- A new block of edges. -/
theorem IsE.new (w : World) (es : List Ed) (t : Nat) (m : Nat × Nat) (h : ∀ e ∈ es, okE e) : IsE (w.alloc (.cells (flatE es).toArray t m)) (.slice (some ⟨w.heap.size, 0, none⟩) es.length es.length) es := by
  refine ⟨_, _, rfl, Nat.le_refl _, by simp, fun x hx j hj i u hu => ?_, h⟩
  simp only [Option.some.injEq] at hx
  subst hx
  have hi : i < 3 := by have := (List.getElem?_eq_some_iff.1 hu).1; rw [encE_length] at this; exact this
  rw [Addr.add_lit, World.cell?_alloc_mark]
  simp only [Nat.zero_add, List.getElem?_toArray]
  rw [flatE_at es j i hj hi]
  exact hu

set_option maxRecDepth 100000 in
set_option maxHeartbeats 4000000 in
theorem shown_any (w : World) : Calls Try.prog 11 #[] w fun e w' => e = .returned (.bool true) ∧ Below w.heap.size w w' := by
  go_enter Try.func11, Try.ntmps11
  go_wp2_with fail
  have hE := encode_go 2 (.slice (some ⟨w.heap.size, 0, none⟩) 1 1) [(0, 1, 7)] _ (IsE.new w [(0, 1, 7)] 39 (0, 0) (by simp [okE])) (by decide +kernel)
  rw [show graphB 2 [(0, 1, 7)] = [2, 0, 0, 0, 0, 0, 0, 0, 1, 0, 0, 0, 7, 0, 0, 0] by decide +kernel] at hE
  refine hE.mono ?_
  clear hE
  rintro e w1 ⟨g1, cap1, rfl, o1, b1⟩
  have B1 := below_after (Below.refl _ w) b1
  have D1 := decode_any _ _ w1 o1.isB (by simp)
  rw [show dec [2, 0, 0, 0, 0, 0, 0, 0, 1, 0, 0, 0, 7, 0, 0, 0] = (2, [(0, 1, 7)], 0, 0) by decide +kernel] at D1
  clear o1 b1
  go_wp2_with fail
  refine D1.mono ?_
  clear D1
  rintro e w2 ⟨v, rfl, i2, b2⟩
  have B2 := below_then B1 b2
  obtain ⟨b, off, cap, rfl, _, hb, hc⟩ := i2.opened (by simp)
  have hW := hc 0 (by simp) 2 (.int .u32 7) rfl
  rw [show off + 0 * 3 + 2 = off + 2 by omega] at hW
  have fG : ∀ w', Below (w2.alloc (.cells #[.int .i64 2, .slice (some ⟨b, off, none⟩) 1 cap] 24)).heap.size (w2.alloc (.cells #[.int .i64 2, .slice (some ⟨b, off, none⟩) 1 cap] 24)) w' →
      w'.cell? ⟨w2.heap.size, 0, none⟩ = some (.int .i64 2) ∧ w'.cell? ⟨w2.heap.size, 1, none⟩ = some (.slice (some ⟨b, off, none⟩) 1 cap) ∧ w'.cell? ⟨b, off + 2, none⟩ = some (.int .u32 7) ∧ IsE w' (.slice (some ⟨b, off, none⟩) 1 cap) [(0, 1, 7)] := fun w' h =>
    ⟨(h.cell (p := ⟨w2.heap.size, 0, none⟩) (by simp)).trans (by simp), (h.cell (p := ⟨w2.heap.size, 1, none⟩) (by simp)).trans (by simp), (h.cell (p := ⟨b, off + 2, none⟩) (by simp; omega)).trans (Lib.cell?_alloc_some _ hW), i2.below (((Below.refl _ w2).alloc (Nat.le_refl _) _).trans (h.mono (by simp)))⟩
  have FG := hide fG
  have B2' := B2.alloc B2.size (.cells #[.int .i64 2, .slice (some ⟨b, off, none⟩) 1 cap] 24)
  have HB2 := hide B2'
  clear fG hW hc B1 B2 B2' b2 i2
  go_wp2_with fail
  have i3 := IsB.new (w2.alloc (.cells #[.int .i64 2, .slice (some ⟨b, off, none⟩) 1 cap] 24)) [1, 0, 0, 0, 0, 0, 0, 0, 1, 0, 0, 0, 0, 0, 0, 0] (0, 0) (by simp)
  rw [World.size_alloc] at i3
  have D2 := decode_any _ _ _ i3 (by simp)
  rw [show dec [1, 0, 0, 0, 0, 0, 0, 0, 1, 0, 0, 0, 0, 0, 0, 0] = (0, [], 8, 1) by decide +kernel] at D2
  refine D2.mono ?_
  clear D2 i3
  rintro e w3 ⟨v3, rfl, i3, b3⟩
  obtain ⟨a3, cap3, rfl, _⟩ := i3.form
  have b3' := below_after (Below.refl _ _) b3
  clear b3 i3
  go_wp2_with fail
  have i4 := IsB.new (w3.alloc (.cells #[.int .i64 0, .slice a3 0 cap3] 24)) [1] (0, 0) (by simp)
  rw [World.size_alloc] at i4
  have D3 := decode_any _ _ _ i4 (by simp)
  rw [show dec [1] = (0, [], 1, 2) by decide +kernel] at D3
  refine D3.mono ?_
  clear D3 i4
  rintro e w4 ⟨v4, rfl, i4, b4⟩
  obtain ⟨a4, cap4, rfl, _⟩ := i4.form
  have b4' := below_after (b3'.alloc b3'.size (.cells #[.int .i64 0, .slice a3 0 cap3] 24)) b4
  have b5 := b4'.alloc b4'.size (.cells #[.int .i64 0, .slice a4 0 cap4] 24)
  obtain ⟨c0, c1, c2, i5⟩ := FG.out _ b5
  have HI5 := hide i5
  have HB5 := hide b5
  clear b4 b4' b3' i4 b5 i5
  go_wp2_with fail
  have hR := right_any 2 (by omega) _ _ _ HI5.out (by simp)
  rw [show rightB 2 [(0, 1, 7)] = true by decide +kernel] at hR
  refine hR.mono ?_
  clear hR
  rintro e w5 ⟨rfl, b6⟩
  have b6' := below_then HB5.out b6
  obtain ⟨d0, d1, d2, i6⟩ := FG.out _ b6'
  have HI6 := hide i6
  have HB6 := hide b6'
  clear b6 b6' i6 c0 c1 c2
  go_wp2_with fail
  have hS := same_any 2 2 _ _ _ _ _ HI6.out HI6.out (by simp)
  rw [show sameB 2 [(0, 1, 7)] 2 [(0, 1, 7)] = true by simp [sameB]] at hS
  refine hS.mono ?_
  clear hS
  rintro e w6 ⟨rfl, b7⟩
  have b7' := below_then HB6.out b7
  go_wp2
  go_ret
  exact ⟨rfl, below_then HB2.out b7'⟩

end Go.Proofs.Ytjkdnibfppjolaa
