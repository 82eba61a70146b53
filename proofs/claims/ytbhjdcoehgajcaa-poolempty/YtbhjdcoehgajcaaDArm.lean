/-
  What Arm, Restart and New do. A lemma file: no statement of the seat is proved here.
-/
import Derived.Test.YtbhjdcoehgajcaaDDisk
namespace Go.Proofs.Ytbhjdcoehgajcaa
open Go.RowKit Go.Maps Go.Sort Go.Shelf

section
variable {w : World} {p bm : Nat} {kv : Value} {fs : List Fl} {s : Ds}

theorem DiskAt.cellAt (h : DiskAt w p bm kv fs s) : w.cell? ⟨p, 0, none⟩ = some (.map (some bm)) ∧ w.cell? ⟨p, 1, none⟩ = some (.int .i64 s.room) ∧ w.cell? ⟨p, 2, none⟩ = some (.int .i64 s.used) ∧ w.cell? ⟨p, 3, none⟩ = some (.int .i64 s.ops) ∧
    w.cell? ⟨p, 4, none⟩ = some (.bool s.down) ∧ w.cell? ⟨p, 5, none⟩ = some (.int .i64 s.left) ∧ w.cell? ⟨p, 6, none⟩ = some kv ∧ ∀ o, w.frozen? ⟨p, o, none⟩ = false := by
  have c := cell_of_heap h.cells
  refine ⟨?_, ?_, ?_, ?_, ?_, ?_, ?_, frozen_of_heap h.cells⟩ <;> (rw [c]; rfl)

theorem feet_nil (h : (feet p bm kv fs).Nodup) (u : Value) (hu : own u = []) : (feet p bm u fs).Nodup := by
  unfold feet at h ⊢
  rw [hu, List.nil_append]
  rw [List.nodup_cons, List.nodup_cons, List.nodup_append] at h
  rw [List.nodup_cons, List.nodup_cons]
  refine ⟨fun e => h.1 ?_, fun e => h.2.1 ?_, h.2.2.2.1⟩
  · simp only [List.mem_cons, List.mem_append] at e ⊢
    rcases e with e | e
    · exact .inl e
    · exact .inr (.inr e)
  · exact List.mem_append.2 (.inr e)

theorem keepForm {u : Value} {ks : List Bool} {W : World} (h : RowK W u ks) : ∃ a c, u = .slice a ks.length c := by
  obtain ⟨a, c, e, _⟩ := h.isK
  exact ⟨a, c, e⟩

set_option maxRecDepth 100000 in
set_option maxHeartbeats 1000000 in
/-- Arm, for no operation. -/
theorem arm_no (h : DiskAt w p bm kv fs s) (n : Int) (hn : n < 1) (u : Value) : Calls Try.prog 41 #[.pointer (some ⟨p, 0, none⟩), .int .i64 n, u] w fun e w' => e = .returned (.tuple #[]) ∧
    DiskAt w' p bm (.slice none 0 0) fs { s with left := 0, keep := [] } ∧ Kept [p] w w' := by
  obtain ⟨_, _, _, _, _, c5, c6, c7⟩ := h.cellAt
  obtain ⟨ka, kc, rfl⟩ := keepForm h.keep
  have HH := hide h
  clear h
  go_enter Try.func41, Try.ntmps41
  go_wp2
  go_end0
  have k2 : Kept [p] w ((w.setCell ⟨p, 5, none⟩ (.int .i64 0)).setCell ⟨p, 6, none⟩ (.slice none 0 0)) := ((Kept.refl _ w).setCell (p := ⟨p, 5, none⟩) (.inl (by simp)) _).setCell (p := ⟨p, 6, none⟩) (.inl (by simp)) _
  refine ⟨rfl, HH.out.put k2 ?_ (World.ownsRow_nil _ _ _ _) (feet_nil HH.out.apart _ rfl), k2⟩
  have e := heap_setCell (heap_setCell HH.out.cells 5 (.int .i64 0)) 6 (.slice none 0 0)
  simpa [diskCells] using e

set_option maxRecDepth 100000 in
set_option maxHeartbeats 2000000 in
/-- Arm, for an operation. -/
theorem arm_go (h : DiskAt w p bm kv fs s) (n : Int) (hn : 1 ≤ n) (u : Value) (ks : List Bool) (hu : IsK w u ks) (hup : ks ≠ [] → ∀ x ∈ own u, x ≠ p) (hl : ks.length ≤ 1099511627776) : Calls Try.prog 41 #[.pointer (some ⟨p, 0, none⟩), .int .i64 n, u] w fun e w' => e = .returned (.tuple #[]) ∧
    ∃ kv', DiskAt w' p bm kv' fs { s with left := n, keep := ks } ∧ Kept [p] w w' ∧ (∀ x ∈ own kv', w.heap.size ≤ x) := by
  obtain ⟨_, _, _, _, _, c5, c6, c7⟩ := h.cellAt
  obtain ⟨ka, kc, rfl⟩ := keepForm h.keep
  obtain ⟨W1, hW1⟩ : ∃ W1, W1 = (w.setCell ⟨p, 5, none⟩ (.int .i64 0)).setCell ⟨p, 6, none⟩ (.slice none 0 0) := ⟨_, rfl⟩
  have k1 : Kept [p] w W1 := by rw [hW1]; exact ((Kept.refl _ w).setCell (p := ⟨p, 5, none⟩) (.inl (by simp)) _).setCell (p := ⟨p, 6, none⟩) (.inl (by simp)) _
  have d1 : DiskAt W1 p bm (.slice none 0 0) fs { s with left := 0, keep := [] } := by
    refine h.put k1 ?_ (World.ownsRow_nil _ _ _ _) (feet_nil h.apart _ rfl)
    rw [hW1]
    have e := heap_setCell (heap_setCell h.cells 5 (.int .i64 0)) 6 (.slice none 0 0)
    simpa [diskCells] using e
  have u1 : IsK W1 u ks := hu.kept k1 (fun hne x hx => by simp; exact hup hne x hx)
  have CL := hide (cloneK_any u ks W1 u1 hl)
  rw [hW1] at CL
  have HW1 := hide hW1
  have D1 := hide d1
  have K1 := hide k1
  obtain ⟨ua, uc, rfl, _⟩ := hu
  clear h d1 k1 u1 hW1
  go_enter Try.func41, Try.ntmps41
  go_wp2_with (go_at_call 57; refine CL.out.mono ?_; rintro e w2 ⟨v2, rfl, r2, b2, n2⟩; rw [← HW1.out] at b2 n2; obtain ⟨ra2, rc2, rfl⟩ := keepForm r2; have R2 := hide r2; have D2 := hide (D1.out.below b2); have d5 := D2.out.cellAt.2.2.2.2.2.1; have d6 := D2.out.cellAt.2.2.2.2.2.2.1; have d7 := D2.out.cellAt.2.2.2.2.2.2.2; have B2 := hide b2; have N2 := hide n2; clear r2 b2 n2)
  go_end0
  have k2 : Kept [p] w2 ((w2.setCell ⟨p, 5, none⟩ (.int .i64 n)).setCell ⟨p, 6, none⟩ (.slice ra2 ks.length rc2)) := ((Kept.refl _ w2).setCell (p := ⟨p, 5, none⟩) (.inl (by simp)) _).setCell (p := ⟨p, 6, none⟩) (.inl (by simp)) _
  have hlt := D1.out.lt
  refine ⟨rfl, .slice ra2 ks.length rc2, D2.out.put k2 ?_ (R2.out.kept k2 (fun x hx => ?_)) ?_, (K1.out.trans (Kept.of_below (fp := []) B2.out) (Newly.of_sub (by simp))).trans k2 (Newly.refl _ _), fun x hx => Nat.le_trans K1.out.size (N2.out x hx)⟩
  · have e := heap_setCell (heap_setCell D2.out.cells 5 (.int .i64 n)) 6 (.slice ra2 ks.length rc2)
    simpa [diskCells] using e
  · have h1 := N2.out x hx
    have h2 := hlt p (by simp [feet])
    simp
    omega
  · have hnd := D1.out.apart
    unfold feet at hnd ⊢
    rw [List.nodup_cons, List.nodup_cons] at hnd ⊢
    have e0 : own (.slice none 0 0) = [] := rfl
    rw [e0, List.nil_append] at hnd
    have hnw : ∀ y, y ∈ p :: bm :: fs.flatMap foot → y ∉ own (.slice ra2 ks.length rc2) := fun y hy e => by
      have h1 := N2.out y e
      have h2 := hlt y (by unfold feet; rw [e0, List.nil_append]; exact hy)
      omega
    refine ⟨fun e => ?_, fun e => ?_, ?_⟩
    · rcases List.mem_cons.1 e with e | e
      · exact hnd.1 (by simp [e])
      · rcases List.mem_append.1 e with e | e
        · exact hnw p (by simp) e
        · exact hnd.1 (by simp only [List.mem_cons]; exact .inr e)
    · rcases List.mem_append.1 e with e | e
      · exact hnw bm (by simp) e
      · exact hnd.2.1 e
    · rw [List.nodup_append]
      refine ⟨by cases ra2 <;> simp [own, Value.ownBlock], hnd.2.2, fun x hx y hy e => ?_⟩
      subst e
      exact hnw x (by simp only [List.mem_cons]; exact .inr (.inr hy)) hx

set_option maxHeartbeats 1000000 in
theorem restart_any (h : DiskAt w p bm kv fs s) : Calls Try.prog 23 #[.pointer (some ⟨p, 0, none⟩)] w fun e w' => e = .returned (.tuple #[]) ∧ DiskAt w' p bm kv fs { s with down := false } ∧ Kept [p] w w' := by
  obtain ⟨_, _, _, _, c4, _, _, c7⟩ := h.cellAt
  have HH := hide h
  clear h
  go_enter Try.func23, Try.ntmps23
  go_wp2
  go_end0
  have k2 : Kept [p] w (w.setCell ⟨p, 4, none⟩ (.bool false)) := (Kept.refl _ w).setCell (p := ⟨p, 4, none⟩) (.inl (by simp)) _
  refine ⟨rfl, HH.out.put0 k2 ?_ rfl, k2⟩
  have e := heap_setCell HH.out.cells 4 (.bool false)
  simpa [diskCells] using e

end

set_option maxRecDepth 100000 in
set_option maxHeartbeats 1000000 in
theorem new_any (room : Int) (w : World) : Calls Try.prog 24 #[.int .i64 room] w fun e w' => e = .returned (.pointer (some ⟨w.heap.size + 1, 0, none⟩)) ∧
    DiskAt w' (w.heap.size + 1) w.heap.size (.slice none 0 0) [] { room := max room 0, used := 0, ops := 0, down := false, left := 0, keep := [] } ∧ Below w.heap.size w w' := by
  have hmm := @run_makeMap Try.prog
  have hmax : ∀ (ts : Array TypeId) (t : TypeId) (W : World), (Builtin.max_ ts t #[.int .i64 room, .int .i64 0]).run Try.prog W = .ok (.int .i64 (max room 0)) W := by
    intro ts t W
    rw [run_max_int2]
    congr 2
    split <;> omega
  go_enter Try.func24, Try.ntmps24
  go_wp2
  go_ret
  refine ⟨by simp, ⟨?_, ⟨.map [], ?_, ⟨fun n => rfl, fun n => rfl, rfl⟩⟩, by simp, World.ownsRow_nil _ _ _ _, by simp [feet, own, Value.ownBlock], List.Pairwise.nil⟩, ?_⟩
  · have e := heap_alloc_new (w.alloc (.map #[] 0)) (.cells (diskCells w.heap.size (.slice none 0 0) { room := max room 0, used := 0, ops := 0, down := false, left := 0, keep := [] }) 80)
    have e2 : (w.alloc (.map #[] 0)).heap.size = w.heap.size + 1 := by simp
    rw [e2] at e
    exact e
  · exact (World.ownsMap_made w Try.prog 9 ptrE).alloc _
  · exact ((Below.refl _ w).alloc (Nat.le_refl _) _).alloc (by simp) _

end Go.Proofs.Ytbhjdcoehgajcaa
