/-
  What the statements of layer 1 ask in any case: it is so. A lemma file: no statement of the seat is proved here.
-/
import Derived.Test.YtoneaaafdgllbaaVars
import Derived.Test.YtoneaaafdgllbaaCrc
import Derived.Lib.SlBytesConst
namespace Go.Proofs.Ytoneaaafdgllbaa
open Go.RowKit

/-- A new block of bytes. -/
theorem IsB.new (w : World) (bs : List Int) (m : Nat × Nat) (h : ∀ z ∈ bs, 0 ≤ z ∧ z ≤ 255) : IsB (w.alloc (.cells (bs.map (Value.int .u8)).toArray 5 m)) (.slice (some ⟨w.heap.size, 0, none⟩) bs.length bs.length) bs := by
  refine ⟨_, _, rfl, Nat.le_refl _, by simp, fun x hx j hj => ?_, h⟩
  simp only [Option.some.injEq] at hx
  subst hx
  rw [Addr.add_lit]
  rw [World.cell?_alloc_mark]
  simp [hj]

/-- Behind a new block, and what keeps all that was there then. -/
theorem below_after {w w1 w2 : World} {o : Obj} (h : Below w.heap.size w w1) (k : Below (w1.alloc o).heap.size (w1.alloc o) w2) : Below w.heap.size w w2 :=
  (h.alloc h.size o).trans (k.mono (by simp; have := h.size; omega))
theorem below_then {w w1 w2 : World} (h : Below w.heap.size w w1) (k : Below w1.heap.size w1 w2) : Below w.heap.size w w2 := h.trans (k.mono h.size)

set_option maxRecDepth 100000 in
set_option maxHeartbeats 1000000 in
theorem shown_any (w : World) : Calls Try.prog 12 #[] w fun e w' => e = .returned (.bool true) ∧ Below w.heap.size w w' := by
  have kc := fun (w : World) (C : Array Value) (n c : Nat) => Lib.run_convert_bytes_const (P := Try.prog) w 22 5 C n c Try.underlying22 Try.underlying5
  go_enter Try.func12, Try.ntmps12
  go_wp2_with fail
  have hG := get_yes (.slice (some ⟨w.heap.size, 0, none⟩) 3 3) [1, 2, 3] 1 2 _ (IsB.new w [1, 2, 3] (0, 0) (by simp)) (by simp) (by omega) (by omega) (by simp)
  rw [show valB 256 (([1, 2, 3] : List Int).drop 1 |>.take 2) = 770 by decide] at hG
  refine hG.mono ?_
  clear hG
  rintro e w1 ⟨rfl, hb1⟩
  have B1 := below_after (Below.refl _ w) hb1
  clear hb1
  go_wp2_with fail
  have hV := getVar_any (.slice (some ⟨w1.heap.size, 0, none⟩) 3 3) [172, 2, 9] _ (IsB.new w1 [172, 2, 9] (0, 0) (by simp)) (by simp)
  rw [show gv [172, 2, 9] = (300, 2, true) by decide +kernel] at hV
  refine hV.mono ?_
  clear hV
  rintro e w2 ⟨rfl, hb2⟩
  have B2 := below_after B1 hb2
  clear hb2 B1
  go_wp2_with fail
  have hP := put_any (.slice none 0 0) [] 2 258 w2 (IsB.nil w2) (by simp) (by omega) (by omega)
  rw [show [] ++ putB (min (2 : Int) 8).toNat 258 = [2, 1] by decide +kernel] at hP
  refine hP.mono ?_
  clear hP
  rintro e w3 ⟨g3, cap3, rfl, ho3, hb3⟩
  have B3 := below_then B2 hb3
  have c3 : (convert 22 9 (.slice (some ⟨g3, 0, none⟩) 2 cap3)).run Try.prog w3 = .ok (.string ⟨#[2, 1]⟩) w3 := conv_isB ho3.isB
  clear hb3 B2 ho3
  go_wp2_with fail
  have hQ := putVar_any (.slice none 0 0) [] 300 w3 (IsB.nil w3) (by simp) (by omega) (by omega)
  rw [show [] ++ varB 9 300 = [172, 2] by decide +kernel] at hQ
  refine hQ.mono ?_
  clear hQ
  rintro e w4 ⟨g4, cap4, rfl, ho4, hb4⟩
  have B4 := below_then B3 hb4
  have c4 : (convert 22 9 (.slice (some ⟨g4, 0, none⟩) 2 cap4)).run Try.prog w4 = .ok (.string ⟨#[172, 2]⟩) w4 := conv_isB ho4.isB
  clear hb4 B3 ho4 c3
  go_wp2_with fail
  have hC := crc_any (.slice (some ⟨w4.heap.size, 0, none⟩) 9 9) [49, 50, 51, 52, 53, 54, 55, 56, 57] _ (IsB.new w4 [49, 50, 51, 52, 53, 54, 55, 56, 57] (9, 10) (by simp)) (by simp)
  rw [show crcSum [49, 50, 51, 52, 53, 54, 55, 56, 57] = 3421780262 by decide +kernel] at hC
  refine hC.mono ?_
  clear hC
  rintro e w5 ⟨rfl, rfl⟩
  go_wp2
  go_ret
  exact ⟨rfl, B4.alloc B4.size _⟩

end Go.Proofs.Ytoneaaafdgllbaa
