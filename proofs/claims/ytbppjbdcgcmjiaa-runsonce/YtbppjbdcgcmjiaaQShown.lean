/-
  shown() of layer 8. A lemma file: no statement of the seat is proved here.
-/
import Derived.Test.YtbppjbdcgcmjiaaQMerge
namespace Go.Proofs.Ytbppjbdcgcmjiaa
open Go.RowKit

/-- A slice of records that has just been laid. -/
theorem isR_laid (w : World) (l : List Rc) (hok : ∀ e ∈ l, okR e) : IsR (w.alloc (.cells (flatR l).toArray 44)) (.slice (some ⟨w.heap.size, 0, none⟩) l.length l.length) l := by
  refine ⟨_, l.length, rfl, Nat.le_refl _, by simp, fun x hx j u hu => ?_, hok⟩
  simp only [Option.some.injEq] at hx
  subst hx
  rw [Addr.add_lit, Nat.zero_add, cell_of_heap (heap_alloc_new w _)]
  simpa using hu

theorem IsR.one {w : World} {v : Value} {l : List Rc} (h : IsR w v l) (n : Nat) (hn : l.length = n) (h0 : 0 < n) : ∃ b off cap, v = .slice (some ⟨b, off, none⟩) n cap ∧ n ≤ cap ∧ ∀ j, j < n → w.cell? ⟨b, off + j * 2, none⟩ = some (.int .u64 l[j]!.1) ∧ w.cell? ⟨b, off + j * 2 + 1, none⟩ = some (.int .u64 l[j]!.2) := by
  subst hn
  exact h.opened h0

set_option maxRecDepth 100000 in
set_option maxHeartbeats 4000000 in
theorem shown_any (w : World) : Calls Try.prog 11 #[] w fun e w' => e = .returned (.bool true) ∧ Below w.heap.size w w' := by
  have C1 := hide (fun w => combine_any 1 9223372036854775808 9223372036854775808 (by omega) (by omega) w)
  have C2 := hide (fun w => combine_any 2 3 2 (by omega) (by omega) w)
  rw [show combV 1 9223372036854775808 9223372036854775808 = 18446744073709551615 by decide] at C1
  rw [show combV 2 3 2 = 2 by decide] at C2
  have S1 := hide (sorted_any _ [(2, 5), (1, 1), (2, 3)] 1 _ (isR_laid w [(2, 5), (1, 1), (2, 3)] (by simp [okR])) (by simp) (by decide))
  rw [show foldR 1 (sortR [] [(2, 5), (1, 1), (2, 3)]) = [(1, 1), (2, 8)] by decide] at S1
  have b0 : Below w.heap.size w (w.alloc (.cells (flatR [(2, 5), (1, 1), (2, 3)]).toArray 44)) := (Below.refl _ w).alloc (Nat.le_refl _) _
  simp only [flatR, encR, List.flatMap_cons, List.flatMap_nil, List.append_nil, List.cons_append, List.nil_append, List.length_cons, List.length_nil, Nat.zero_add, Nat.reduceAdd] at S1 b0
  go_enter Try.func11, Try.ntmps11
  go_wp2_with fail
  refine S1.out.mono ?_
  rintro e w1 ⟨v1, rfl, r1, b1, n1⟩
  have hb1 := b0.trans (b1.mono b0.size)
  obtain ⟨g1, o1, c1, rfl, hc1, cell1⟩ := r1.isR.one 2 rfl (by omega)
  have I1 := hide r1.isR
  clear cell1 r1 b1 n1 S1 b0
  have S2 := hide (cut_any _ [(2, 0), (1, 0), (0, 0)] 2 0 _ (isR_laid w1 [(2, 0), (1, 0), (0, 0)] (by simp [okR])) (by simp) (by omega) (by omega) (by decide))
  have b0 : Below w1.heap.size w1 (w1.alloc (.cells (flatR [(2, 0), (1, 0), (0, 0)]).toArray 44)) := (Below.refl _ w1).alloc (Nat.le_refl _) _
  rw [show cutL 0 2 [(2, 0), (1, 0), (0, 0)] = [[(1, 0), (2, 0)], [(0, 0)]] by decide] at S2
  simp only [flatR, encR, List.flatMap_cons, List.flatMap_nil, List.append_nil, List.cons_append, List.nil_append, List.length_cons, List.length_nil, Nat.zero_add, Nat.reduceAdd] at S2 b0
  rw [show ((2 : Nat) : Int) = 2 from rfl] at S2
  go_wp2_with fail
  refine S2.out.mono ?_
  rintro e w2 ⟨cv, rfl, r2, b2, n2⟩
  have hb2 := b0.trans (b2.mono b0.size)
  obtain ⟨g2, c2, rfl⟩ : ∃ g c, cv = .slice (some ⟨g, 0, none⟩) 2 c := by
    rcases r2.form with ⟨_, h⟩ | ⟨g, c, rfl, _⟩
    · simp at h
    · exact ⟨g, c, rfl⟩
  have S3 := hide (mergeM_any 0 r2.isRR (by decide) (by decide) (by decide))
  rw [show canR 0 ([[(1, 0), (2, 0)], [(0, 0)]] : List (List Rc)).flatten = [(0, 0), (1, 0), (2, 0)] by decide] at S3
  obtain ⟨_, hc2, _, a2, k2, d0, J0, _⟩ := r2.at 0 (by simp)
  simp only [List.getElem?_cons_zero, Option.getD_some, List.length_cons, List.length_nil, Nat.zero_add, Nat.reduceAdd] at d0 J0
  obtain ⟨g4, o4, k4, e4, _, cell4⟩ := J0.opened (by simp)
  simp only [Value.slice.injEq] at e4
  obtain ⟨rfl, _, rfl⟩ := e4
  have d1 := (cell4 0 (by simp)).1
  simp only [Nat.zero_mul, Nat.add_zero, List.getElem!_cons_zero] at d1
  clear r2 b2 n2 S2 b0 J0 cell4
  go_wp2_with fail
  refine S3.out.mono ?_
  rintro e w3 ⟨v3, rfl, r3, b3, n3⟩
  obtain ⟨g3, o3, c3, rfl, hc3, cell3⟩ := r3.isR.one 3 rfl (by omega)
  have f0 := (cell3 0 (by omega)).1
  simp only [Nat.zero_mul, Nat.add_zero, List.getElem!_cons_zero] at f0
  clear r3 n3 cell3 S3
  have S4 := hide (mergeM_no (.slice none 0 0) 3 w3 (by decide))
  have S5 := hide (cut_no (.slice none 0 0) 0 1 w3 (.inr (by omega)))
  go_wp2_with fail
  refine S4.out.mono ?_
  rintro e w4 ⟨rfl, rfl⟩
  go_wp2_with fail
  refine S5.out.mono ?_
  rintro e w5 ⟨rfl, b5⟩
  have h13 : Below w1.heap.size w1 w4 := hb2.trans (b3.mono hb2.size)
  have h15 := h13.trans (b5.mono h13.size)
  have h25 := b3.trans (b5.mono b3.size)
  obtain ⟨b', off', cap', e', _, cell1⟩ := (I1.out.below h15).opened (by simp)
  simp only [Value.slice.injEq, Option.some.injEq, Addr.mk.injEq, and_true] at e'
  obtain ⟨⟨rfl, rfl⟩, _, rfl⟩ := e'
  have x1 := (cell1 1 (by simp)).2
  simp only [Nat.one_mul, List.getElem!_cons_succ, List.getElem!_cons_zero, Nat.add_assoc, Nat.reduceAdd] at x1
  have x2 : w5.cell? ⟨g2, 0, none⟩ = some (.slice (some ⟨g4, o4, none⟩) 2 k2) := (World.cell?_of_block (w := w2) (h25.block _ (World.block_lt_of_cell? w2 _ d0))).trans d0
  have x3 : w5.cell? ⟨g4, o4, none⟩ = some (.int .u64 1) := (World.cell?_of_block (w := w2) (h25.block _ (World.block_lt_of_cell? w2 _ d1))).trans d1
  have x4 : w5.cell? ⟨g3, o3, none⟩ = some (.int .u64 0) := (World.cell?_of_block (w := w4) (b5.block _ (World.block_lt_of_cell? w4 _ f0))).trans f0
  have HB := hide (hb1.trans (h15.mono hb1.size))
  clear d0 d1 f0 h13 h15 h25 b5 b3 hb2 hb1 I1 S4 S5 cell1
  go_wp2
  go_ret
  refine ⟨?_, HB.out⟩
  rfl

end Go.Proofs.Ytbppjbdcgcmjiaa
