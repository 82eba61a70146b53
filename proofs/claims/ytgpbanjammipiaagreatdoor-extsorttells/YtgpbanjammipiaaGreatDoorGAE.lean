/-
  Lemma texts, one behind the other: DDisk, DArm, DCrash, DBegin, DFind. No statement of the seat is proved here.
-/
import Derived.Test.YtgpbanjammipiaaGreatDoorGAD
namespace Go.Proofs.YtgpbanjammipiaaGreatDoor
open Go.RowKit Go.Maps Go.Sort Go.Shelf

section
variable {w w' : World} {p bm : Nat} {kv : Value} {fs ds rs : List Fl} {f : Fl} {s : Ds}

theorem DiskAt.lt (h : DiskAt w p bm kv fs s) : ∀ x ∈ feet p bm kv fs, x < w.heap.size := by
  intro x hx
  simp only [feet, List.mem_cons, List.mem_append, List.mem_flatMap] at hx
  rcases hx with rfl | rfl | hx | ⟨f, hf, hx⟩
  · exact (Array.getElem?_eq_some_iff.1 h.cells).1
  · obtain ⟨D, ho, _⟩ := h.map
    exact ho.lt
  · exact h.keep.lt x hx
  · exact (h.files f hf).lt x hx

theorem ownsMap_kept {fp : List Nat} {b n : Nat} {D : DataW Unit} (h : w.ownsMap Tryz.prog 9 ptrE b n D) (hk : Kept fp w w') (hb : b ∉ fp) : w'.ownsMap Tryz.prog 9 ptrE b n D := by
  have hlt := h.lt
  obtain ⟨es, clock, he, r⟩ := h
  exact ⟨es, clock, (hk.block b hlt hb).trans he, r⟩

/-- Where other blocks are written, the disk stays. -/
theorem DiskAt.kept {fp : List Nat} (h : DiskAt w p bm kv fs s) (hk : Kept fp w w') (hf : ∀ x ∈ feet p bm kv fs, x ∉ fp) : DiskAt w' p bm kv fs s := by
  refine ⟨(hk.block p (h.lt p (by simp [feet])) (hf p (by simp [feet]))).trans h.cells, ?_, fun f hm => (h.files f hm).kept hk (fun x hx => hf x ?_), h.keep.kept hk (fun x hx => hf x ?_), h.apart, h.sorted⟩
  · obtain ⟨D, ho, hD⟩ := h.map
    exact ⟨D, ownsMap_kept ho hk (hf bm (by simp [feet])), hD⟩
  · simp only [feet, List.mem_cons, List.mem_append, List.mem_flatMap]
    exact .inr (.inr (.inr ⟨f, hm, hx⟩))
  · simp only [feet, List.mem_cons, List.mem_append]
    exact .inr (.inr (.inl hx))

theorem DiskAt.below (h : DiskAt w p bm kv fs s) (hb : Below w.heap.size w w') : DiskAt w' p bm kv fs s := h.kept (Kept.of_below (fp := []) hb) (by simp)

/-- Where the disk's own block is written. -/
theorem DiskAt.put {s' : Ds} {kv' : Value} (h : DiskAt w p bm kv fs s) (hk : Kept [p] w w') (hc : w'.heap[p]? = some (.cells (diskCells bm kv' s') 60 (0, 0))) (hkeep : RowK w' kv' s'.keep) (hap : (feet p bm kv' fs).Nodup) : DiskAt w' p bm kv' fs s' := by
  have hnd := h.apart
  unfold feet at hnd
  rw [List.nodup_cons, List.nodup_cons] at hnd
  have hmem : ∀ x, x ∈ bm :: (own kv ++ fs.flatMap foot) → x ∉ [p] := fun x hx e => by
    simp at e
    subst e
    exact hnd.1 hx
  refine ⟨hc, ?_, fun f hm => (h.files f hm).kept hk (fun x hx => hmem x ?_), hkeep, hap, h.sorted⟩
  · obtain ⟨D, ho, hD⟩ := h.map
    exact ⟨D, ownsMap_kept ho hk (hmem bm (by simp)), hD⟩
  · simp only [List.mem_cons, List.mem_append, List.mem_flatMap]
    exact .inr (.inr ⟨f, hm, hx⟩)

/-- .. but not the slice of truths. -/
theorem DiskAt.put0 {s' : Ds} (h : DiskAt w p bm kv fs s) (hk : Kept [p] w w') (hc : w'.heap[p]? = some (.cells (diskCells bm kv s') 60 (0, 0))) (hs : s'.keep = s.keep) : DiskAt w' p bm kv fs s' := by
  refine h.put hk hc ?_ h.apart
  rw [hs]
  refine h.keep.kept hk (fun x hx e => ?_)
  have hnd := h.apart
  unfold feet at hnd
  rw [List.nodup_cons] at hnd
  simp at e
  subst e
  exact hnd.1 (by simp only [List.mem_cons, List.mem_append]; exact .inr (.inl hx))

theorem MapIs.congr {D : DataW Unit} {fs gs : List Fl} (h : MapIs D fs) (he : fs.map (fun f => (f.name, f.blk)) = gs.map (fun f => (f.name, f.blk))) : MapIs D gs := by
  have hl : ∀ n, (look gs n).map (fun f => f.blk) = (look fs n).map (fun f => f.blk) := by
    intro n
    clear h
    induction fs generalizing gs with
    | nil => cases gs with
      | nil => rfl
      | cons g gs => simp at he
    | cons f fs ih => cases gs with
      | nil => simp at he
      | cons g gs =>
        simp only [List.map_cons, List.cons.injEq, Prod.mk.injEq] at he
        unfold look
        rw [List.find?_cons, List.find?_cons, he.1.1]
        cases (g.name == n) with
        | true => simp [he.1.2]
        | false => exact ih he.2
  refine ⟨fun n => ?_, fun n => ?_, ?_⟩
  · rw [h.at_ n]
    have := hl n
    cases h1 : look gs n <;> cases h2 : look fs n <;> simp [h1, h2] at this ⊢
    omega
  · rw [h.has n]
    have := hl n
    cases h1 : look gs n <;> cases h2 : look fs n <;> simp [h1, h2] at this ⊢
  · rw [h.size]
    simpa using congrArg List.length he

theorem feet_perm (p bm : Nat) (kv : Value) (ds rs : List Fl) (f : Fl) : (feet p bm kv (ds ++ f :: rs)).Perm (foot f ++ feet p bm kv (ds ++ rs)) := by
  unfold feet
  simp only [List.flatMap_append, List.flatMap_cons]
  have h1 : (own kv ++ (ds.flatMap foot ++ (foot f ++ rs.flatMap foot))).Perm (foot f ++ (own kv ++ (ds.flatMap foot ++ rs.flatMap foot))) := by
    have e1 : own kv ++ (ds.flatMap foot ++ (foot f ++ rs.flatMap foot)) = (own kv ++ ds.flatMap foot) ++ (foot f ++ rs.flatMap foot) := by simp
    have e2 : foot f ++ (own kv ++ (ds.flatMap foot ++ rs.flatMap foot)) = (foot f ++ (own kv ++ ds.flatMap foot)) ++ rs.flatMap foot := by simp
    rw [e1, e2, ← List.append_assoc]
    exact List.perm_append_comm.append_right _
  have h2 : (foot f ++ p :: bm :: (own kv ++ (ds.flatMap foot ++ rs.flatMap foot))).Perm (p :: bm :: (foot f ++ (own kv ++ (ds.flatMap foot ++ rs.flatMap foot)))) :=
    List.perm_middle.trans (List.perm_middle.cons p)
  exact ((h1.cons bm).cons p).trans h2.symm

/-- Where one file is written: its block, and rows of its own, old or new. -/
theorem DiskAt.file {fp : List Nat} {f' : Fl} (h : DiskAt w p bm kv (ds ++ f :: rs) s) (hn : f'.name = f.name) (hb : f'.blk = f.blk) (hk : Kept fp w w') (hfp : ∀ x ∈ fp, x ∈ foot f ∨ x ∉ feet p bm kv (ds ++ f :: rs)) (hf' : FileAt w' f')
    (hnew : Newly w (foot f) (foot f')) : DiskAt w' p bm kv (ds ++ f' :: rs) s := by
  have hnd := (feet_perm p bm kv ds rs f).nodup_iff.1 h.apart
  rw [List.nodup_append] at hnd
  obtain ⟨_, hnd2, hdis⟩ := hnd
  have hin : ∀ x, x ∈ feet p bm kv (ds ++ rs) → x ∈ feet p bm kv (ds ++ f :: rs) := fun x hx => (feet_perm p bm kv ds rs f).mem_iff.2 (List.mem_append.2 (.inr hx))
  have hout : ∀ x, x ∈ feet p bm kv (ds ++ rs) → x ∉ fp := fun x hx e => by
    rcases hfp x e with h1 | h1
    · exact hdis x h1 x hx rfl
    · exact h1 (hin x hx)
  have hfile : ∀ g, g ∈ ds ++ rs → ∀ x ∈ foot g, x ∈ feet p bm kv (ds ++ rs) := fun g hg x hx => by
    simp only [feet, List.mem_cons, List.mem_append, List.mem_flatMap]
    exact .inr (.inr (.inr ⟨g, List.mem_append.1 hg, hx⟩))
  refine ⟨(hk.block p (h.lt p (by simp [feet])) (hout p (by simp [feet]))).trans h.cells, ?_, ?_, h.keep.kept hk (fun x hx => hout x ?_), ?_, ?_⟩
  · obtain ⟨D, ho, hD⟩ := h.map
    refine ⟨D, ?_, hD.congr (by simp [hn, hb])⟩
    have := ownsMap_kept ho hk (hout bm (by simp [feet]))
    simpa using this
  · intro g hg
    rcases List.mem_append.1 hg with hg | hg
    · exact (h.files g (by simp [hg])).kept hk (fun x hx => hout x (hfile g (by simp [hg]) x hx))
    · rcases List.mem_cons.1 hg with rfl | hg
      · exact hf'
      · exact (h.files g (by simp [hg])).kept hk (fun x hx => hout x (hfile g (by simp [hg]) x hx))
  · simp only [feet, List.mem_cons, List.mem_append]
    exact .inr (.inr (.inl hx))
  · refine (feet_perm p bm kv ds rs f').nodup_iff.2 ?_
    rw [List.nodup_append]
    refine ⟨hf'.apart, hnd2, fun x hx y hy e => ?_⟩
    subst e
    rcases hnew x hx with h1 | h1
    · exact hdis x h1 x hy rfl
    · have := h.lt x (hin x hy)
      omega
  · have := h.sorted
    rw [List.pairwise_append, List.pairwise_cons] at this ⊢
    simp only [List.mem_cons] at this ⊢
    rw [hn]
    refine ⟨this.1, this.2.1, fun a ha b hb => ?_⟩
    rcases hb with rfl | hb
    · rw [hn]
      exact this.2.2 a ha f (.inl rfl)
    · exact this.2.2 a ha b (.inr hb)

/-- The blocks behind it. -/
theorem feet_file {fp' : List Nat} {f' : Fl} (hnew : Newly w (foot f) (foot f')) (hfp : fp' = feet p bm kv (ds ++ f' :: rs)) : Newly w (feet p bm kv (ds ++ f :: rs)) fp' := by
  subst hfp
  intro x hx
  rcases List.mem_append.1 ((feet_perm p bm kv ds rs f').mem_iff.1 hx) with h1 | h1
  · rcases hnew x h1 with h2 | h2
    · exact .inl ((feet_perm p bm kv ds rs f).mem_iff.2 (List.mem_append.2 (.inl h2)))
    · exact .inr h2
  · exact .inl ((feet_perm p bm kv ds rs f).mem_iff.2 (List.mem_append.2 (.inr h1)))

end

end Go.Proofs.YtgpbanjammipiaaGreatDoor

namespace Go.Proofs.YtgpbanjammipiaaGreatDoor
open Go.RowKit Go.Maps Go.Sort Go.Shelf

section
variable {w : World} {p bm : Nat} {kv : Value} {fs : List Fl} {s : Ds}

theorem DiskAt.cellAt (h : DiskAt w p bm kv fs s) : w.cell? ⟨p, 0, none⟩ = some (.map (some bm)) ∧ w.cell? ⟨p, 1, none⟩ = some (.int .i64 s.room) ∧ w.cell? ⟨p, 2, none⟩ = some (.int .i64 s.used) ∧ w.cell? ⟨p, 3, none⟩ = some (.int .i64 s.ops) ∧
    w.cell? ⟨p, 4, none⟩ = some (.bool s.down) ∧ w.cell? ⟨p, 5, none⟩ = some (.int .i64 s.left) ∧ w.cell? ⟨p, 6, none⟩ = some kv ∧ ∀ o, w.frozen? ⟨p, o, none⟩ = false := by
  have c := cell_of_heap h.cells
  refine ⟨?_, ?_, ?_, ?_, ?_, ?_, ?_, frozen_of_heap h.cells⟩ <;> (rw [c]; rfl)

theorem feet_nil (h : (feet p bm kv fs).Nodup) (u : Value) (hu : own u = []) : (feet p bm u fs).Nodup := by
  unfold feet at h ⊢
  rw [hu, List.nil_append]
  rw [List.nodup_cons, List.nodup_cons, List.nodup_append] at h
  rw [List.nodup_cons, List.nodup_cons]
  refine ⟨fun e => h.1 ?_, fun e => h.2.1 ?_, h.2.2.2.1⟩
  · simp only [List.mem_cons, List.mem_append] at e ⊢
    rcases e with e | e
    · exact .inl e
    · exact .inr (.inr e)
  · exact List.mem_append.2 (.inr e)

theorem keepForm {u : Value} {ks : List Bool} {W : World} (h : RowK W u ks) : ∃ a c, u = .slice a ks.length c := by
  obtain ⟨a, c, e, _⟩ := h.isK
  exact ⟨a, c, e⟩

set_option maxRecDepth 100000 in
set_option maxHeartbeats 1000000 in
/-- Arm, for no operation. -/
theorem arm_no (h : DiskAt w p bm kv fs s) (n : Int) (hn : n < 1) (u : Value) : Calls Tryz.prog 22 #[.pointer (some ⟨p, 0, none⟩), .int .i64 n, u] w fun e w' => e = .returned (.tuple #[]) ∧
    DiskAt w' p bm (.slice none 0 0) fs { s with left := 0, keep := [] } ∧ Kept [p] w w' := by
  obtain ⟨_, _, _, _, _, c5, c6, c7⟩ := h.cellAt
  obtain ⟨ka, kc, rfl⟩ := keepForm h.keep
  have HH := hide h
  clear h
  go_enter Tryz.func22, Tryz.ntmps22
  go_wp2
  go_end0
  have k2 : Kept [p] w ((w.setCell ⟨p, 5, none⟩ (.int .i64 0)).setCell ⟨p, 6, none⟩ (.slice none 0 0)) := ((Kept.refl _ w).setCell (p := ⟨p, 5, none⟩) (.inl (by simp)) _).setCell (p := ⟨p, 6, none⟩) (.inl (by simp)) _
  refine ⟨rfl, HH.out.put k2 ?_ (World.ownsRow_nil _ _ _ _) (feet_nil HH.out.apart _ rfl), k2⟩
  have e := heap_setCell (heap_setCell HH.out.cells 5 (.int .i64 0)) 6 (.slice none 0 0)
  simpa [diskCells] using e

set_option maxRecDepth 100000 in
set_option maxHeartbeats 2000000 in
/-- Arm, for an operation. -/
theorem arm_go (h : DiskAt w p bm kv fs s) (n : Int) (hn : 1 ≤ n) (u : Value) (ks : List Bool) (hu : IsK w u ks) (hup : ks ≠ [] → ∀ x ∈ own u, x ≠ p) (hl : ks.length ≤ 1099511627776) : Calls Tryz.prog 22 #[.pointer (some ⟨p, 0, none⟩), .int .i64 n, u] w fun e w' => e = .returned (.tuple #[]) ∧
    ∃ kv', DiskAt w' p bm kv' fs { s with left := n, keep := ks } ∧ Kept [p] w w' ∧ (∀ x ∈ own kv', w.heap.size ≤ x) := by
  obtain ⟨_, _, _, _, _, c5, c6, c7⟩ := h.cellAt
  obtain ⟨ka, kc, rfl⟩ := keepForm h.keep
  obtain ⟨W1, hW1⟩ : ∃ W1, W1 = (w.setCell ⟨p, 5, none⟩ (.int .i64 0)).setCell ⟨p, 6, none⟩ (.slice none 0 0) := ⟨_, rfl⟩
  have k1 : Kept [p] w W1 := by rw [hW1]; exact ((Kept.refl _ w).setCell (p := ⟨p, 5, none⟩) (.inl (by simp)) _).setCell (p := ⟨p, 6, none⟩) (.inl (by simp)) _
  have d1 : DiskAt W1 p bm (.slice none 0 0) fs { s with left := 0, keep := [] } := by
    refine h.put k1 ?_ (World.ownsRow_nil _ _ _ _) (feet_nil h.apart _ rfl)
    rw [hW1]
    have e := heap_setCell (heap_setCell h.cells 5 (.int .i64 0)) 6 (.slice none 0 0)
    simpa [diskCells] using e
  have u1 : IsK W1 u ks := hu.kept k1 (fun hne x hx => by simp; exact hup hne x hx)
  have CL := hide (cloneK_any u ks W1 u1 hl)
  rw [hW1] at CL
  have HW1 := hide hW1
  have D1 := hide d1
  have K1 := hide k1
  obtain ⟨ua, uc, rfl, _⟩ := hu
  clear h d1 k1 u1 hW1
  go_enter Tryz.func22, Tryz.ntmps22
  go_wp2_with (go_at_call 40; refine CL.out.mono ?_; rintro e w2 ⟨v2, rfl, r2, b2, n2⟩; rw [← HW1.out] at b2 n2; obtain ⟨ra2, rc2, rfl⟩ := keepForm r2; have R2 := hide r2; have D2 := hide (D1.out.below b2); have d5 := D2.out.cellAt.2.2.2.2.2.1; have d6 := D2.out.cellAt.2.2.2.2.2.2.1; have d7 := D2.out.cellAt.2.2.2.2.2.2.2; have B2 := hide b2; have N2 := hide n2; clear r2 b2 n2)
  go_end0
  have k2 : Kept [p] w2 ((w2.setCell ⟨p, 5, none⟩ (.int .i64 n)).setCell ⟨p, 6, none⟩ (.slice ra2 ks.length rc2)) := ((Kept.refl _ w2).setCell (p := ⟨p, 5, none⟩) (.inl (by simp)) _).setCell (p := ⟨p, 6, none⟩) (.inl (by simp)) _
  have hlt := D1.out.lt
  refine ⟨rfl, .slice ra2 ks.length rc2, D2.out.put k2 ?_ (R2.out.kept k2 (fun x hx => ?_)) ?_, (K1.out.trans (Kept.of_below (fp := []) B2.out) (Newly.of_sub (by simp))).trans k2 (Newly.refl _ _), fun x hx => Nat.le_trans K1.out.size (N2.out x hx)⟩
  · have e := heap_setCell (heap_setCell D2.out.cells 5 (.int .i64 n)) 6 (.slice ra2 ks.length rc2)
    simpa [diskCells] using e
  · have h1 := N2.out x hx
    have h2 := hlt p (by simp [feet])
    simp
    omega
  · have hnd := D1.out.apart
    unfold feet at hnd ⊢
    rw [List.nodup_cons, List.nodup_cons] at hnd ⊢
    have e0 : own (.slice none 0 0) = [] := rfl
    rw [e0, List.nil_append] at hnd
    have hnw : ∀ y, y ∈ p :: bm :: fs.flatMap foot → y ∉ own (.slice ra2 ks.length rc2) := fun y hy e => by
      have h1 := N2.out y e
      have h2 := hlt y (by unfold feet; rw [e0, List.nil_append]; exact hy)
      omega
    refine ⟨fun e => ?_, fun e => ?_, ?_⟩
    · rcases List.mem_cons.1 e with e | e
      · exact hnd.1 (by simp [e])
      · rcases List.mem_append.1 e with e | e
        · exact hnw p (by simp) e
        · exact hnd.1 (by simp only [List.mem_cons]; exact .inr e)
    · rcases List.mem_append.1 e with e | e
      · exact hnw bm (by simp) e
      · exact hnd.2.1 e
    · rw [List.nodup_append]
      refine ⟨by cases ra2 <;> simp [own, Value.ownBlock], hnd.2.2, fun x hx y hy e => ?_⟩
      subst e
      exact hnw x (by simp only [List.mem_cons]; exact .inr (.inr hy)) hx

set_option maxHeartbeats 1000000 in
theorem restart_any (h : DiskAt w p bm kv fs s) : Calls Tryz.prog 24 #[.pointer (some ⟨p, 0, none⟩)] w fun e w' => e = .returned (.tuple #[]) ∧ DiskAt w' p bm kv fs { s with down := false } ∧ Kept [p] w w' := by
  obtain ⟨_, _, _, _, c4, _, _, c7⟩ := h.cellAt
  have HH := hide h
  clear h
  go_enter Tryz.func24, Tryz.ntmps24
  go_wp2
  go_end0
  have k2 : Kept [p] w (w.setCell ⟨p, 4, none⟩ (.bool false)) := (Kept.refl _ w).setCell (p := ⟨p, 4, none⟩) (.inl (by simp)) _
  refine ⟨rfl, HH.out.put0 k2 ?_ rfl, k2⟩
  have e := heap_setCell HH.out.cells 4 (.bool false)
  simpa [diskCells] using e

end

set_option maxRecDepth 100000 in
set_option maxHeartbeats 1000000 in
theorem new_any (room : Int) (w : World) : Calls Tryz.prog 12 #[.int .i64 room] w fun e w' => e = .returned (.pointer (some ⟨w.heap.size + 1, 0, none⟩)) ∧
    DiskAt w' (w.heap.size + 1) w.heap.size (.slice none 0 0) [] { room := max room 0, used := 0, ops := 0, down := false, left := 0, keep := [] } ∧ Below w.heap.size w w' := by
  have hmm := @run_makeMap Tryz.prog
  have hmax : ∀ (ts : Array TypeId) (t : TypeId) (W : World), (Builtin.max_ ts t #[.int .i64 room, .int .i64 0]).run Tryz.prog W = .ok (.int .i64 (max room 0)) W := by
    intro ts t W
    rw [run_max_int2]
    congr 2
    split <;> omega
  go_enter Tryz.func12, Tryz.ntmps12
  go_wp2
  go_ret
  refine ⟨by simp, ⟨?_, ⟨.map [], ?_, ⟨fun n => rfl, fun n => rfl, rfl⟩⟩, by simp, World.ownsRow_nil _ _ _ _, by simp [feet, own, Value.ownBlock], List.Pairwise.nil⟩, ?_⟩
  · have e := heap_alloc_new (w.alloc (.map #[] 0)) (.cells (diskCells w.heap.size (.slice none 0 0) { room := max room 0, used := 0, ops := 0, down := false, left := 0, keep := [] }) 60)
    have e2 : (w.alloc (.map #[] 0)).heap.size = w.heap.size + 1 := by simp
    rw [e2] at e
    exact e
  · exact (World.ownsMap_made w Tryz.prog 9 ptrE).alloc _
  · exact ((Below.refl _ w).alloc (Nat.le_refl _) _).alloc (by simp) _

end Go.Proofs.YtgpbanjammipiaaGreatDoor

namespace Go.Proofs.YtgpbanjammipiaaGreatDoor
open Go.RowKit Go.Maps Go.Sort Go.Shelf

/-- A file as it is told: its name, its bytes now, and as synced. -/
abbrev Ab := List UInt8 × List Int × List Int

def Fl.ab (f : Fl) : Ab := (f.name, f.now, f.syn)

/-- The files behind a crash, and how many sectors were asked for. -/
def torn (ks : List Bool) : List Ab → Nat → List Ab × Nat
  | [], k => ([], k)
  | x :: r, k => ((x.1, (tearB ks x.2.1 x.2.2 k).1, (tearB ks x.2.1 x.2.2 k).1) :: (torn ks r (tearB ks x.2.1 x.2.2 k).2).1, (torn ks r (tearB ks x.2.1 x.2.2 k).2).2)

theorem torn_snoc (ks : List Bool) (xs : List Ab) (x : Ab) (k : Nat) :
    torn ks (xs ++ [x]) k = ((torn ks xs k).1 ++ [(x.1, (tearB ks x.2.1 x.2.2 (torn ks xs k).2).1, (tearB ks x.2.1 x.2.2 (torn ks xs k).2).1)], (tearB ks x.2.1 x.2.2 (torn ks xs k).2).2) := by
  induction xs generalizing k with
  | nil => simp [torn]
  | cons y xs ih => simp [torn, ih]

/-- How many sectors all files have. -/
def usedB (l : List Ab) : Int := (l.map fun x => sec x.2.1.length).sum

theorem usedB_nil : usedB [] = 0 := rfl
theorem usedB_snoc (xs : List Ab) (x : Ab) : usedB (xs ++ [x]) = usedB xs + sec x.2.1.length := by simp [usedB]
theorem usedB_cons (xs : List Ab) (x : Ab) : usedB (x :: xs) = sec x.2.1.length + usedB xs := by simp [usedB]
theorem usedB_append (xs ys : List Ab) : usedB (xs ++ ys) = usedB xs + usedB ys := by simp [usedB]
theorem sec_nonneg (n : Nat) : 0 ≤ sec n := by unfold sec; omega
theorem sec_mono {m n : Nat} (h : m ≤ n) : sec m ≤ sec n := by unfold sec; omega
theorem sec_le (n : Nat) (N : Int) (h : sec n ≤ N) : (n : Int) ≤ 16 * N := by unfold sec at h; omega
theorem usedB_nonneg (l : List Ab) : 0 ≤ usedB l := by
  induction l with
  | nil => simp [usedB]
  | cons x l ih => rw [usedB_cons]; have := sec_nonneg x.2.1.length; omega
theorem usedB_take (l : List Ab) (i : Nat) : usedB (l.take i) ≤ usedB l := by
  have h := usedB_append (l.take i) (l.drop i)
  rw [List.take_append_drop] at h
  have := usedB_nonneg (l.drop i)
  omega
theorem usedB_mem {l : List Ab} {x : Ab} (h : x ∈ l) : sec x.2.1.length ≤ usedB l := by
  obtain ⟨a, b, rfl⟩ := List.append_of_mem h
  rw [usedB_append, usedB_cons]
  have := usedB_nonneg a
  have := usedB_nonneg b
  omega

/-- A file's synced bytes are no more than those that it has. -/
def okAb (l : List Ab) : Prop := ∀ x ∈ l, x.2.2.length ≤ x.2.1.length

theorem tearB_len (ks : List Bool) (now syn : List Int) (k : Nat) (hs : syn.length ≤ now.length) : (tearB ks now syn k).1.length ≤ now.length ∧ syn.length ≤ (tearB ks now syn k).1.length ∧ (((tearB ks now syn k).2 : Nat) : Int) ≤ k + sec now.length := by
  have h := tearTo_len ks now syn k ((now.length + 15) / 16) (by omega) hs
  unfold tearB sec
  omega

theorem torn_used (ks : List Bool) (l : List Ab) (k : Nat) (h : okAb l) : usedB (torn ks l k).1 ≤ usedB l ∧ (((torn ks l k).2 : Nat) : Int) ≤ k + usedB l := by
  induction l generalizing k with
  | nil => simp [torn, usedB]
  | cons x l ih =>
    have h1 := tearB_len ks x.2.1 x.2.2 k (h x (by simp))
    have h2 := ih (tearB ks x.2.1 x.2.2 k).2 (fun y hy => h y (by simp [hy]))
    have h3 := sec_mono h1.1
    simp only [torn, usedB_cons]
    omega

theorem torn_ok (ks : List Bool) (l : List Ab) (k : Nat) : okAb (torn ks l k).1 := by
  induction l generalizing k with
  | nil => simp [torn, okAb]
  | cons x l ih =>
    intro y hy
    simp only [torn, List.mem_cons] at hy
    rcases hy with rfl | hy
    · exact Nat.le_refl _
    · exact ih _ y hy

theorem torn_length (ks : List Bool) (l : List Ab) (k : Nat) : (torn ks l k).1.length = l.length := by
  induction l generalizing k with
  | nil => rfl
  | cons x l ih => simp [torn, ih]

theorem torn_names (ks : List Bool) (l : List Ab) (k : Nat) : (torn ks l k).1.map (fun x => x.1) = l.map (fun x => x.1) := by
  induction l generalizing k with
  | nil => rfl
  | cons x l ih => simp [torn, ih]

/-- In the middle of a crash. -/
structure CrashSt (w0 wr : World) (p bm c : Nat) (kv : Value) (fs : List Fl) (s : Ds) (ks : List Bool) (i : Nat) (ds : List Fl) : Prop where
  disk : DiskAt wr p bm kv (ds ++ fs.drop i) { s with used := usedB (ds.map Fl.ab) }
  abs : ds.map Fl.ab = (torn ks ((fs.take i).map Fl.ab) 0).1
  cnt : wr.heap[c]? = some (.cells #[.int .i64 (torn ks ((fs.take i).map Fl.ab) 0).2] 3 (0, 0))
  kept : Kept (c :: feet p bm kv fs) w0 wr
  new : Newly w0 (feet p bm kv fs) (feet p bm kv (ds ++ fs.drop i))

section
variable {w0 wr w4 : World} {p bm c : Nat} {kv vn vs : Value} {fs ds : List Fl} {s : Ds} {ks : List Bool} {i : Nat} {f : Fl}

/-- A file as it is behind tear. -/
def tornF (ks : List Bool) (f : Fl) (k : Nat) (vn vs : Value) : Fl := { f with vn := vn, vs := vs, now := (tearB ks f.now f.syn k).1, syn := (tearB ks f.now f.syn k).1 }

theorem CrashSt.torn1 (h : CrashSt w0 wr p bm c kv fs s ks i ds) (hf : fs.drop i = f :: fs.drop (i + 1)) (hc : c ∉ feet p bm kv fs) (hcl : c < w0.heap.size)
    (hF : FileAt w4 (tornF ks f (torn ks ((fs.take i).map Fl.ab) 0).2 vn vs)) (hK : Kept [c, f.blk] wr w4) (hnew : ∀ x ∈ own vn ++ own vs, wr.heap.size ≤ x) :
    DiskAt w4 p bm kv (ds ++ tornF ks f (torn ks ((fs.take i).map Fl.ab) 0).2 vn vs :: fs.drop (i + 1)) { s with used := usedB (ds.map Fl.ab) } ∧ Newly wr (feet p bm kv (ds ++ fs.drop i)) (feet p bm kv (ds ++ tornF ks f (torn ks ((fs.take i).map Fl.ab) 0).2 vn vs :: fs.drop (i + 1))) := by
  have hd := h.disk
  have hnw := h.new
  rw [hf] at hd hnw ⊢
  have hn : Newly wr (foot f) (foot (tornF ks f (torn ks ((fs.take i).map Fl.ab) 0).2 vn vs)) := fun x hx => by
    simp only [foot, tornF, List.mem_cons] at hx ⊢
    rcases hx with rfl | hx
    · exact .inl (.inl rfl)
    · exact .inr (hnew x hx)
  refine ⟨hd.file rfl rfl hK (fun x hx => ?_) hF hn, feet_file hn rfl⟩
  simp only [List.mem_cons, List.not_mem_nil, or_false] at hx
  rcases hx with rfl | rfl
  · refine .inr (fun e => ?_)
    rcases hnw x e with h1 | h1
    · exact hc h1
    · omega
  · exact .inl (by simp [foot])

theorem take_drop {fs : List Fl} {i : Nat} {f : Fl} (hf : fs.drop i = f :: fs.drop (i + 1)) : fs.take (i + 1) = fs.take i ++ [f] ∧ i < fs.length ∧ f ∈ fs := by
  have hi : i < fs.length := by
    rcases Nat.lt_or_ge i fs.length with h | h
    · exact h
    · rw [List.drop_of_length_le h] at hf
      simp at hf
  have e : fs[i] = f := by
    have := List.drop_eq_getElem_cons hi
    rw [this] at hf
    exact (List.cons.inj hf).1
  refine ⟨?_, hi, by rw [← e]; exact List.getElem_mem hi⟩
  rw [List.take_succ_eq_append_getElem hi, e]

theorem CrashSt.next {w5 : World} (h : CrashSt w0 wr p bm c kv fs s ks i ds) (hf : fs.drop i = f :: fs.drop (i + 1)) (hc : c ∉ feet p bm kv fs) (hcl : c < w0.heap.size)
    (hF : FileAt w4 (tornF ks f (torn ks ((fs.take i).map Fl.ab) 0).2 vn vs)) (hK : Kept [c, f.blk] wr w4) (hnew : ∀ x ∈ own vn ++ own vs, wr.heap.size ≤ x)
    (hcnt : w4.heap[c]? = some (.cells #[.int .i64 (tearB ks f.now f.syn (torn ks ((fs.take i).map Fl.ab) 0).2).2] 3 (0, 0))) (hK5 : Kept [p] w4 w5)
    (h5 : w5.heap[p]? = some (.cells (diskCells bm kv { s with used := usedB (ds.map Fl.ab) + sec (tearB ks f.now f.syn (torn ks ((fs.take i).map Fl.ab) 0).2).1.length }) 60 (0, 0))) :
    CrashSt w0 w5 p bm c kv fs s ks (i + 1) (ds ++ [tornF ks f (torn ks ((fs.take i).map Fl.ab) 0).2 vn vs]) := by
  obtain ⟨hd4, hn4⟩ := h.torn1 hf hc hcl hF hK hnew
  obtain ⟨ht, hi, hfm⟩ := take_drop hf
  have hab : (ds ++ [tornF ks f (torn ks ((fs.take i).map Fl.ab) 0).2 vn vs]).map Fl.ab = (torn ks ((fs.take (i + 1)).map Fl.ab) 0).1 := by
    rw [ht, List.map_append, List.map_append, List.map_cons, List.map_nil, List.map_cons, List.map_nil, torn_snoc, h.abs]
    rfl
  have hpc : p ≠ c := fun e => hc (by simp [feet, e])
  refine ⟨?_, hab, ?_, ?_, ?_⟩
  · have e : ds ++ [tornF ks f (torn ks ((fs.take i).map Fl.ab) 0).2 vn vs] ++ fs.drop (i + 1) = ds ++ tornF ks f (torn ks ((fs.take i).map Fl.ab) 0).2 vn vs :: fs.drop (i + 1) := by simp
    rw [e]
    refine hd4.put0 hK5 ?_ rfl
    rw [h5]
    congr 3
    rw [List.map_append, List.map_cons, List.map_nil, usedB_snoc]
    rfl
  · rw [hK5.block c (by have := h.kept.size; have := hK.size; omega) (by simpa using Ne.symm hpc), hcnt, ht, List.map_append, List.map_cons, List.map_nil, torn_snoc]
    rfl
  · have k1 : Kept (c :: feet p bm kv fs) w0 w4 := h.kept.trans hK (fun x hx => by
      simp only [List.mem_cons, List.not_mem_nil, or_false] at hx
      rcases hx with rfl | rfl
      · exact .inl (by simp)
      · refine .inl ?_
        simp only [List.mem_cons, feet, List.mem_append, List.mem_flatMap]
        exact .inr (.inr (.inr (.inr ⟨f, hfm, by simp [foot]⟩))))
    exact k1.trans hK5 (Newly.of_sub (by simp [feet]))
  · have e : ds ++ [tornF ks f (torn ks ((fs.take i).map Fl.ab) 0).2 vn vs] ++ fs.drop (i + 1) = ds ++ tornF ks f (torn ks ((fs.take i).map Fl.ab) 0).2 vn vs :: fs.drop (i + 1) := by simp
    rw [e]
    exact h.new.trans hn4 h.kept.size
end

set_option maxRecDepth 100000 in
set_option maxHeartbeats 8000000 in
theorem crash_any {w : World} {p bm : Nat} {kv : Value} {fs : List Fl} {s : Ds} (h : DiskAt w p bm kv fs s) (hdn : s.down = false) (u : Value) (ks : List Bool) (hu : IsK w u ks) (hux : ks ≠ [] → ∀ x ∈ own u, x ∉ feet p bm kv fs)
    (hkl : ks.length ≤ 1099511627776) (hok : okAb (fs.map Fl.ab)) (hus : usedB (fs.map Fl.ab) ≤ 67108864) (hfl : fs.length ≤ 1073741824) (hnm : ∀ f ∈ fs, f.name.length ≤ 24) :
    Calls Tryz.prog 91 #[.pointer (some ⟨p, 0, none⟩), u] w fun e w' => e = .returned (.tuple #[]) ∧ ∃ fs', DiskAt w' p bm (.slice none 0 0) fs' { s with used := usedB (fs'.map Fl.ab), down := true, left := 0, keep := [] } ∧
      fs'.map Fl.ab = (torn ks (fs.map Fl.ab) 0).1 ∧ Kept (feet p bm kv fs) w w' ∧ Newly w (feet p bm kv fs) (feet p bm (.slice none 0 0) fs') := by
  have hul := hu.lt
  obtain ⟨W0, hW0⟩ : ∃ W0, W0 = w.setCell ⟨p, 2, none⟩ (.int .i64 0) := ⟨_, rfl⟩
  obtain ⟨W2, hW2⟩ : ∃ W2, W2 = (W0.alloc (.cells #[u] 43)).alloc (.cells #[.int .i64 0] 3) := ⟨_, rfl⟩
  have k0 : Kept [p] w W0 := by rw [hW0]; exact (Kept.refl _ w).setCell (p := ⟨p, 2, none⟩) (.inl (by simp)) _
  have z0 : W0.heap.size = w.heap.size := by rw [hW0]; simp [World.setCell]
  have b2 : Below W0.heap.size W0 W2 := by rw [hW2]; exact ((Below.refl _ W0).alloc (Nat.le_refl _) _).alloc (by simp) _
  have z2 : W2.heap.size = w.heap.size + 2 := by rw [hW2]; simp [z0]
  have k2 : Kept [p] w W2 := k0.trans (Kept.of_below (fp := []) b2) (Newly.of_sub (by simp))
  have hpl := h.lt p (by simp [feet])
  have d2 : DiskAt W2 p bm kv fs { s with used := 0 } := by
    refine DiskAt.below (w := W0) (h.put0 k0 ?_ rfl) b2
    rw [hW0]
    have e := heap_setCell h.cells 2 (.int .i64 0)
    simpa [diskCells] using e
  have hkb : W2.cell? ⟨w.heap.size, 0, none⟩ = some u := by
    rw [hW2, ← z0]
    simp
  have hc0 : W2.heap[w.heap.size + 1]? = some (.cells #[.int .i64 0] 3 (0, 0)) := by
    have e := heap_alloc_new (W0.alloc (.cells #[u] 43)) (.cells #[.int .i64 0] 3)
    have e2 : (W0.alloc (.cells #[u] 43)).heap.size = w.heap.size + 1 := by simp [z0]
    rw [e2] at e
    rw [hW2]
    exact e
  have NM := hide (names_any d2 (by omega))
  have c4 : w.cell? ⟨p, 4, none⟩ = some (.bool false) := by rw [h.cellAt.2.2.2.2.1, hdn]
  have c2 := h.cellAt.2.2.1
  have c7 := h.cellAt.2.2.2.2.2.2.2
  have hmf : ∀ (fn : Fn) (first cap : Array Value) (w : World), (Instr.makeFunc fn first cap).run Tryz.prog w = .ok (.func fn first cap) w := fun _ _ _ _ => rfl
  obtain ⟨ua, uc, hu1⟩ : ∃ ua uc, u = .slice ua ks.length uc := by obtain ⟨a, c, e, _⟩ := hu; exact ⟨a, c, e⟩
  have HU := hide hu
  have HUL := hide hul
  have HUX := hide hux
  have HW2 := hide hW2
  have D2 := hide d2
  have HD := hide h
  have K2 := hide k2
  have Z2 := hide z2
  have HKB := hide hkb
  have HC0 := hide hc0
  have HOK := hide hok
  have HUS := hide hus
  have HNM := hide hnm
  rw [hW2, hW0] at NM
  have HW0 := hide hW0
  clear hu hul hux hW0 hW2 d2 h b2 k2 k0 z0 z2 hkb hc0 hok hus hnm hdn
  subst hu1
  go_enter Tryz.func91, Tryz.ntmps91
  go_wp2_with (go_at_call 35; refine NM.out.mono ?_; rintro e w3 ⟨vN, rfl, r3, b3⟩; rw [← HW0.out, ← HW2.out] at r3 b3; have hvN : ∃ na nc, vN = .slice na fs.length nc := (by rcases r3.2 with ⟨h1, h2⟩ | ⟨g, cp, cur, h1, _⟩; exact ⟨none, 0, by rw [h2]; exact h1⟩; exact ⟨_, _, h1⟩); obtain ⟨na, nc, rfl⟩ := hvN; have R3 := hide r3; have B3 := hide b3; clear r3 b3)
  obtain ⟨c, hc⟩ : ∃ c, c = w.heap.size + 1 := ⟨_, rfl⟩
  obtain ⟨kb, hkb⟩ : ∃ kb, kb = w.heap.size := ⟨_, rfl⟩
  have HFL := hide HD.out.lt
  have hcf : Hid (c ∉ feet p bm kv fs) := fun e => by have := HFL.out c e; omega
  have hkf : Hid (kb ∉ c :: feet p bm kv fs) := fun e => by
    rcases List.mem_cons.1 e with e | e
    · omega
    · have := HFL.out kb e
      omega
  have z3 : w.heap.size + 2 ≤ w3.heap.size := by have := B3.out.size; have := Z2.out; omega
  have KA : Hid (Kept [p] w w3) := K2.out.trans (Kept.of_below (fp := []) B3.out) (Newly.of_sub (by simp))
  have HNB : Hid (∀ x ∈ own (.slice na fs.length nc), w.heap.size + 2 ≤ x ∧ x < w3.heap.size) := fun x hx => by
    have h1 := World.ownsRow.lt R3.out x (by simpa [own] using hx)
    have := Z2.out
    omega
  have HUK : Hid (ks ≠ [] → ∀ x ∈ own (.slice ua ks.length uc), x ∉ c :: feet p bm kv fs) := fun hne x hx e => by
    rcases List.mem_cons.1 e with e | e
    · have := HUL.out hne x hx
      omega
    · exact HUX.out hne x hx e
  have HG := hide (fun (wr : World) (hk : Kept (c :: feet p bm kv fs) w3 wr) => (⟨hk.cell ((B3.out.cell (p := ⟨kb, 0, none⟩) (by have := Z2.out; simp; omega)).trans (by rw [hkb]; exact HKB.out)) hkf.out,
      (HU.out.kept KA.out (fun hne x hx e => HUK.out hne x hx (by simp at e; simp [e, feet]))).kept hk HUK.out,
      ownsRow_kept R3.out hk (fun x hx e => by
        have h1 := HNB.out x hx
        rcases List.mem_cons.1 e with e | e
        · omega
        · have := HFL.out x e
          omega)⟩ : wr.cell? ⟨kb, 0, none⟩ = some (.slice ua ks.length uc) ∧ IsK wr (.slice ua ks.length uc) ks ∧ wr.ownsRow W2.heap.size 9 1 (.slice na fs.length nc) fs.length (fs.map fun f => encStr f.name)))
  have ST0 : Hid (CrashSt w3 w3 p bm c kv fs s ks 0 []) := by
    refine ⟨?_, rfl, ?_, Kept.refl _ _, Newly.refl _ _⟩
    · exact D2.out.below B3.out
    · rw [hc, B3.out.block _ (by have := Z2.out; omega)]
      exact HC0.out
  have e1 : w.heap.size + 1 = c := hc.symm
  rw [e1, ← hkb]
  have HCE := hide hc
  have HKE := hide hkb
  clear e1 hc hkb
  go_loopw [20] (fun i wr => ∃ (j : Nat) (ds : List Fl), j ≤ fs.length ∧ i = .int .i64 (j : Int) ∧ Hid (CrashSt w3 wr p bm c kv fs s ks j ds)) (fun i _ => fs.length - (intOf i).toNat)
  case atStart => exact ⟨0, [], Nat.zero_le _, rfl, ST0⟩
  case round =>
    obtain ⟨i, ds, hi, rfl, HST⟩ := hrel
    by_cases hlt : i < fs.length
    · obtain ⟨f, hf⟩ : ∃ f, fs.drop i = f :: fs.drop (i + 1) := ⟨_, List.drop_eq_getElem_cons hlt⟩
      have hfm := (take_drop hf).2.2
      have hfd : f ∈ ds ++ fs.drop i := by rw [hf]; simp
      have FA := HST.out.disk.files f hfd
      obtain ⟨g1, g2, g3⟩ := HG.out wr HST.out.kept
      obtain ⟨ng, hng⟩ : ∃ ng, na = some ⟨ng, 0, none⟩ := by
        rcases g3.2 with ⟨h1, h2⟩ | ⟨g, cp, cur, h1, _⟩
        · omega
        · simp only [Value.slice.injEq] at h1
          exact ⟨g, h1.1⟩
      subst hng
      have n1 : wr.cell? ⟨ng, i, none⟩ = some (.string ⟨f.name.toArray⟩) := by
        have e := World.ownsRow.cells g3 (g := ng) rfl i (encStr f.name) (by
          have e2 : fs[i]? = some f := by
            have := congrArg (fun l => l[0]?) hf
            simpa using this
          rw [List.getElem?_map, e2]
          rfl)
        rw [Addr.add_lit] at e
        simpa [encStr] using e
      have c0 := HST.out.disk.cellAt.1
      have LK : (Instr.lookup 53 (.map (some bm)) (.string ⟨f.name.toArray⟩) false).run Tryz.prog wr = .ok (.pointer (some ⟨f.blk, 0, none⟩)) wr := by
        obtain ⟨D, ho, hD⟩ := HST.out.disk.map
        have e := look_run ho hD f.name (by have := HNM.out f hfm; unfold maxLen; omega)
        rw [look_of_mem HST.out.disk.sorted hfd] at e
        exact e
      obtain ⟨k, hk⟩ : ∃ k, k = (torn ks ((fs.take i).map Fl.ab) 0).2 := ⟨_, rfl⟩
      have hokt : okAb ((fs.take i).map Fl.ab) := fun x hx => HOK.out x (by
        obtain ⟨y, hy, rfl⟩ := List.mem_map.1 hx
        exact List.mem_map.2 ⟨y, List.mem_of_mem_take hy, rfl⟩)
      have hut : usedB ((fs.take i).map Fl.ab) ≤ 67108864 := by
        have := usedB_take (fs.map Fl.ab) i
        rw [← List.map_take] at this
        have := HUS.out
        omega
      have htu := torn_used ks ((fs.take i).map Fl.ab) 0 hokt
      rw [← hk] at htu
      have hsec : sec f.now.length ≤ 67108864 := by
        have := usedB_mem (l := fs.map Fl.ab) (x := f.ab) (List.mem_map.2 ⟨f, hfm, rfl⟩)
        have := HUS.out
        simp only [Fl.ab] at *
        omega
      have hfl2 := sec_le _ _ hsec
      have hsyn : f.syn.length ≤ f.now.length := HOK.out f.ab (List.mem_map.2 ⟨f, hfm, rfl⟩)
      have hcf2 : c ∉ foot f := fun e => by
        rcases HST.out.new c (by
          simp only [feet, List.mem_cons, List.mem_append, List.mem_flatMap]
          exact .inr (.inr (.inr ⟨f, List.mem_append.1 hfd, e⟩))) with h1 | h1
        · exact hcf.out h1
        · have := HCE.out
          omega
      have hcnt := HST.out.cnt
      rw [← hk] at hcnt
      have T := hide (tear_any FA c kb k (.slice ua ks.length uc) ks hcnt g1 (by have := HCE.out; have := HKE.out; omega) g2 (fun hne e => HUK.out hne c e (by simp)) hcf2 (by omega) hsyn (by omega) hkl)
      have htl := tearB_len ks f.now f.syn k hsyn
      obtain ⟨U, hU⟩ : ∃ U, U = usedB (ds.map Fl.ab) := ⟨_, rfl⟩
      have hU0 : 0 ≤ U := by rw [hU]; exact usedB_nonneg _
      have hU1 : U ≤ 67108864 := by rw [hU, HST.out.abs]; omega
      obtain ⟨TT, hTT⟩ : ∃ TT, TT = (tearB ks f.now f.syn k).1 := ⟨_, rfl⟩
      obtain ⟨S, hS⟩ : ∃ S, S = sec TT.length := ⟨_, rfl⟩
      rw [← hTT] at htl
      have hTl : TT.length ≤ 1099511627776 := by omega
      have hS0 : 0 ≤ S := by rw [hS]; exact sec_nonneg _
      have hS1 : S ≤ 67108864 := by rw [hS]; have := sec_mono htl.1; omega
      have SC := hide (fun W => sectors_any TT.length hTl W)
      rw [← hS] at SC
      have hUS : IntKind.i64.wrap (U + S) = U + S := i64_small _ (by omega) (by omega)
      have HK := hide hk
      have HF := hide hf
      have HU2 := hide hU
      have HT2 := hide hTT
      have HS2 := hide hS
      have hpf : Hid (True) := trivial
      clear hk hf hU hTT hS hfm hfd FA g1 g2 g3 hokt hut htu hsec hfl2 hsyn hcf2 hcnt htl hpf
      go_wp2_with (go_at_call 116; refine T.out.mono ?_; rintro e w4 ⟨rfl, vn, vs, f4, n4, k4, m4⟩; have F4 : Hid (FileAt w4 (tornF ks f (torn ks ((fs.take i).map Fl.ab) 0).2 vn vs)) := (by rw [← HK.out]; exact f4); rw [HK.out] at n4; have N4 := hide n4; have K4 := hide k4; have M4 := hide m4; have r4 : RowB w4 vn (tearB ks f.now f.syn k).1 := f4.rnow; rw [← HT2.out] at r4; obtain ⟨va, vc, rfl, _⟩ := r4.isB.form; have D4 := hide (HST.out.torn1 HF.out hcf.out (by have := HCE.out; omega) F4.out K4.out M4.out).1; have d2 := D4.out.cellAt.2.2.1; have d7 := D4.out.cellAt.2.2.2.2.2.2.2; have f0 := cell_of_heap F4.out.cells 0; simp [tornF] at f0; rw [← HU2.out] at d2; clear f4 n4 k4 m4 r4)
      go_region_law (go_simp; go_at_call 69; refine (SC.out _).mono ?_; rintro e w5 ⟨rfl, rfl⟩)
      all_goals
        have K5 : Kept [p] w4 (w4.setCell ⟨p, 2, none⟩ (.int .i64 (U + S))).drew := ((Kept.refl _ w4).setCell (p := ⟨p, 2, none⟩) (.inl (by simp)) _).drew
        have ST5 : Hid (CrashSt w3 (w4.setCell ⟨p, 2, none⟩ (.int .i64 (U + S))).drew p bm c kv fs s ks (i + 1) (ds ++ [tornF ks f (torn ks ((fs.take i).map Fl.ab) 0).2 (.slice va TT.length vc) vs])) := by
          refine HST.out.next HF.out hcf.out (by have := HCE.out; omega) F4.out K4.out M4.out N4.out K5 ?_
          have e := heap_setCell D4.out.cells 2 (.int .i64 (U + S))
          rw [← HK.out, ← HT2.out, ← HS2.out, ← HU2.out]
          simp [diskCells] at e
          exact e
        clear K5
        go_wp2
        go_roundw
        case rel => exact ⟨i + 1, _, by omega, by go_num, ST5⟩
        case measure => simp [intOf]; omega
    · have hie : i = fs.length := by omega
      have HIE := hide hie
      have hde : fs.drop i = [] := by rw [hie]; simp
      have htk : fs.take i = fs := by rw [hie]; simp
      have D9 := HST.out.disk
      rw [hde, List.append_nil] at D9
      have N9 := HST.out.new
      rw [hde, List.append_nil] at N9
      have A9 := HST.out.abs
      rw [htk] at A9
      have AR := hide (arm_no D9 0 (by omega) (.slice none 0 0))
      have HN9 := hide N9
      have HA9 := hide A9
      have HD9 := hide D9
      clear D9 N9 A9 hde htk hie
      go_wp2_with (go_at_call 22; refine AR.out.mono ?_; rintro e w5 ⟨rfl, d5, k5⟩; have D5 := hide d5; have K5 := hide k5; have e4 := d5.cellAt.2.2.2.2.1; have e7 := d5.cellAt.2.2.2.2.2.2.2; clear d5 k5)
      go_end0
      have k6 : Kept [p] w5 (w5.setCell ⟨p, 4, none⟩ (.bool true)) := (Kept.refl _ w5).setCell (p := ⟨p, 4, none⟩) (.inl (by simp)) _
      refine ⟨rfl, ds, D5.out.put0 k6 ?_ rfl, HA9.out, ?_, ?_⟩
      · have e := heap_setCell D5.out.cells 4 (.bool true)
        simpa [diskCells] using e
      · have q1 : Kept (feet p bm kv fs) w wr := (KA.out.mono (fp' := feet p bm kv fs) (by simp [feet])).trans HST.out.kept (fun x hx => by
          rcases List.mem_cons.1 hx with e | e
          · exact .inr (by have := HCE.out; omega)
          · exact .inl e)
        exact (q1.trans K5.out (Newly.of_sub (by simp [feet]))).trans k6 (Newly.of_sub (by simp [feet]))
      · intro x hx
        have hx2 : x ∈ feet p bm kv ds := by
          simp only [feet, own, Value.ownBlock, Option.toList_none, List.nil_append, List.mem_cons, List.mem_append] at hx ⊢
          rcases hx with hx | hx | hx
          · exact .inl hx
          · exact .inr (.inl hx)
          · exact .inr (.inr (.inr hx))
        rcases HN9.out x hx2 with h1 | h1
        · exact .inl h1
        · exact .inr (Nat.le_trans KA.out.size h1)

set_option maxRecDepth 100000 in
set_option maxHeartbeats 1000000 in
/-- Crash, of a disk that is down: nothing. -/
theorem crash_down {w : World} {p bm : Nat} {kv : Value} {fs : List Fl} {s : Ds} (h : DiskAt w p bm kv fs s) (hdn : s.down = true) (u : Value) (ks : List Bool) (hu : IsK w u ks) :
    Calls Tryz.prog 91 #[.pointer (some ⟨p, 0, none⟩), u] w fun e w' => e = .returned (.tuple #[]) ∧ Below w.heap.size w w' := by
  have c4 : w.cell? ⟨p, 4, none⟩ = some (.bool true) := by rw [h.cellAt.2.2.2.2.1, hdn]
  have hpl := h.lt p (by simp [feet])
  obtain ⟨ua, uc, rfl, _⟩ := hu
  clear h hdn
  go_enter Tryz.func91, Tryz.ntmps91
  go_wp2
  first | go_end0 | refine bodyPost_ret (results_none rfl _ _ _) rfl ?_
  exact ⟨rfl, (Below.refl _ w).alloc (Nat.le_refl _) _⟩

end Go.Proofs.YtgpbanjammipiaaGreatDoor

namespace Go.Proofs.YtgpbanjammipiaaGreatDoor
open Go.RowKit Go.Maps Go.Sort Go.Shelf

/-- What may be of a disk. -/
structure okA (l : List Ab) (s : Ds) : Prop where
  ok : okAb l
  used : s.used = usedB l
  fits : s.used ≤ s.room
  room : s.room ≤ 67108864
  ops : 0 ≤ s.ops
  len : (l.length : Int) ≤ s.ops
  left : 0 ≤ s.left ∧ s.left ≤ 9223372036854775807
  keep : s.keep.length ≤ 1099511627776
  names : ∀ x ∈ l, mayB x.1 = true

/-- A crash. -/
def crashA (ks : List Bool) (l : List Ab) (s : Ds) : List Ab × Ds :=
  if s.down then (l, s) else ((torn ks l 0).1, { s with used := usedB (torn ks l 0).1, down := true, left := 0, keep := [] })

/-- The beginning of an operation. -/
def beginA (l : List Ab) (s : Ds) : List Ab × Ds :=
  if s.left = 0 then (l, { s with ops := s.ops + 1 })
  else if 1 < s.left then (l, { s with ops := s.ops + 1, left := s.left - 1 })
  else crashA s.keep l { s with ops := s.ops + 1, left := 0, keep := [] }

theorem crashA_ok {ks : List Bool} {l : List Ab} {s : Ds} (h : okA l s) : okA (crashA ks l s).1 (crashA ks l s).2 := by
  unfold crashA
  split
  · exact h
  · have h1 := torn_used ks l 0 h.ok
    have h2 := h.used
    have h3 := h.fits
    refine ⟨torn_ok ks l 0, rfl, ?_, h.room, h.ops, ?_, ⟨by simp, by simp⟩, by simp, ?_⟩
    · show usedB (torn ks l 0).1 ≤ s.room
      omega
    · show ((torn ks l 0).1.length : Int) ≤ s.ops
      rw [torn_length]
      exact h.len
    · intro x hx
      have e : x.1 ∈ (torn ks l 0).1.map (fun x => x.1) := List.mem_map.2 ⟨x, hx, rfl⟩
      rw [torn_names] at e
      obtain ⟨y, hy, e2⟩ := List.mem_map.1 e
      rw [← e2]
      exact h.names y hy

theorem beginA_ok {l : List Ab} {s : Ds} (h : okA l s) : okA (beginA l s).1 (beginA l s).2 := by
  have h0 := h.ops
  have hl := h.len
  have hf := h.left
  unfold beginA
  split
  · exact ⟨h.ok, h.used, h.fits, h.room, by simp only; omega, by simp only; omega, h.left, h.keep, h.names⟩
  · split
    · exact ⟨h.ok, h.used, h.fits, h.room, by simp only; omega, by simp only; omega, by simp only; omega, h.keep, h.names⟩
    · exact crashA_ok ⟨h.ok, h.used, h.fits, h.room, by simp only; omega, by simp only; omega, ⟨by simp, by simp⟩, by simp, h.names⟩

theorem crashA_len (ks : List Bool) (l : List Ab) (s : Ds) : (crashA ks l s).1.length = l.length := by
  unfold crashA
  split
  · rfl
  · exact torn_length ks l 0

theorem beginA_ops (l : List Ab) (s : Ds) : (beginA l s).2.ops = s.ops + 1 := by
  unfold beginA crashA
  split
  · rfl
  · split
    · rfl
    · split <;> rfl

theorem ab_len (fs : List Fl) : (fs.map Fl.ab).length = fs.length := by simp

theorem names24 {fs : List Fl} {s : Ds} (h : okA (fs.map Fl.ab) s) : ∀ f ∈ fs, f.name.length ≤ 24 := fun f hf => by
  have := h.names f.ab (List.mem_map.2 ⟨f, hf, rfl⟩)
  unfold mayB at this
  simp only [Fl.ab, Bool.and_eq_true] at this
  exact of_decide_eq_true this.2

theorem feet_sub_nil {p bm : Nat} {kv : Value} {fs : List Fl} : ∀ x ∈ feet p bm (.slice none 0 0) fs, x ∈ feet p bm kv fs := by
  intro x hx
  simp only [feet, own, Value.ownBlock, Option.toList_none, List.nil_append, List.mem_cons, List.mem_append] at hx ⊢
  rcases hx with hx | hx | hx
  · exact .inl hx
  · exact .inr (.inl hx)
  · exact .inr (.inr (.inr hx))

section
variable {w : World} {p bm : Nat} {kv : Value} {fs : List Fl} {s : Ds}

/-- What an operation, or a part of it, leaves. -/
def Left (w w' : World) (p bm : Nat) (kv : Value) (fs : List Fl) (kv' : Value) (fs' : List Fl) (s' : Ds) (A : List Ab × Ds) : Prop :=
  DiskAt w' p bm kv' fs' s' ∧ (fs'.map Fl.ab, s') = A ∧ Kept (feet p bm kv fs) w w' ∧ Newly w (feet p bm kv fs) (feet p bm kv' fs')

/-- Crash, of whatever disk. -/
theorem crash_all (h : DiskAt w p bm kv fs s) (ho : okA (fs.map Fl.ab) s) (hn : s.ops ≤ 1048576) (u : Value) (ks : List Bool) (hu : IsK w u ks) (hux : ks ≠ [] → ∀ x ∈ own u, x ∉ feet p bm kv fs) (hkl : ks.length ≤ 1099511627776) :
    Calls Tryz.prog 91 #[.pointer (some ⟨p, 0, none⟩), u] w fun e w' => e = .returned (.tuple #[]) ∧ ∃ kv' fs' s', Left w w' p bm kv fs kv' fs' s' (crashA ks (fs.map Fl.ab) s) := by
  by_cases hd : s.down = true
  · refine (crash_down h hd u ks hu).mono ?_
    rintro e w' ⟨rfl, b⟩
    refine ⟨rfl, kv, fs, s, h.below b, ?_, Kept.of_below b, Newly.refl _ _⟩
    simp [crashA, hd]
  · have hd2 : s.down = false := by simpa using hd
    have h1 := ho.len
    have h2 := ho.used
    have h3 := ho.fits
    have h4 := ho.room
    rw [ab_len] at h1
    refine (crash_any h hd2 u ks hu hux hkl ho.ok (by omega) (by omega) (names24 ho)).mono ?_
    rintro e w' ⟨rfl, fs', d, e2, k, n⟩
    refine ⟨rfl, _, fs', _, d, ?_, k, n⟩
    simp [crashA, hd2, e2]

set_option maxRecDepth 100000 in
set_option maxHeartbeats 4000000 in
theorem approach_any (h : DiskAt w p bm kv fs s) (ho : okA (fs.map Fl.ab) s) (hn : s.ops ≤ 1048576) :
    Calls Tryz.prog 63 #[.pointer (some ⟨p, 0, none⟩)] w fun e w' => e = .returned (.tuple #[]) ∧ ∃ kv' fs' s', Left w w' p bm kv fs kv' fs' s'
      (if s.left = 0 then (fs.map Fl.ab, s) else if 1 < s.left then (fs.map Fl.ab, { s with left := s.left - 1 }) else crashA s.keep (fs.map Fl.ab) { s with left := 0, keep := [] }) := by
  obtain ⟨_, _, _, _, _, c5, c6, c7⟩ := h.cellAt
  have hl := ho.left
  have HO := hide ho
  have HH := hide h
  by_cases h0 : s.left = 0
  · rw [h0] at c5
    simp only [h0, if_true]
    clear h ho hl
    go_enter Tryz.func63, Tryz.ntmps63
    go_wp2
    first | go_end0 | refine bodyPost_ret (results_none rfl _ _ _) rfl ?_
    exact ⟨rfl, kv, fs, s, HH.out, rfl, Kept.refl _ _, Newly.refl _ _⟩
  · obtain ⟨n, hnn⟩ : ∃ n, n = s.left := ⟨_, rfl⟩
    have d1 : DiskAt (w.setCell ⟨p, 5, none⟩ (.int .i64 (n - 1))) p bm kv fs { s with left := n - 1 } := by
      refine h.put0 ((Kept.refl _ w).setCell (p := ⟨p, 5, none⟩) (.inl (by simp)) _) ?_ rfl
      have e := heap_setCell h.cells 5 (.int .i64 (n - 1))
      simpa [diskCells] using e
    have k1 : Kept [p] w (w.setCell ⟨p, 5, none⟩ (.int .i64 (n - 1))) := (Kept.refl _ w).setCell (p := ⟨p, 5, none⟩) (.inl (by simp)) _
    have hn0 : ¬ n = 0 := by omega
    rw [← hnn] at c5 hl
    rw [← hnn, if_neg hn0]
    have D1 := hide d1
    have K1 := hide k1
    have HNN := hide hnn
    obtain ⟨ka, kc, rfl⟩ := keepForm h.keep
    by_cases h1 : 1 < n
    · rw [if_pos h1]
      have hn1 : ¬ n - 1 ≤ 0 := by omega
      have hn2 : 0 < n - 1 := by omega
      clear h ho d1 k1 hnn h0
      go_enter Tryz.func63, Tryz.ntmps63
      go_wp2
      first | go_end0 | refine bodyPost_ret (results_none rfl _ _ _) rfl ?_
      exact ⟨rfl, _, fs, _, D1.out, rfl, K1.out.mono (by simp [feet]), Newly.refl _ _⟩
    · have hn1 : n = 1 := by omega
      rw [if_neg h1]
      subst hn1
      have AR := hide (arm_no d1 0 (by omega) (.slice none 0 0))
      have g6 := d1.cellAt.2.2.2.2.2.2.1
      have CR := hide (fun (w2 : World) (d2 : DiskAt w2 p bm (.slice none 0 0) fs { s with left := 0, keep := [] }) (k2 : Kept [p] (w.setCell ⟨p, 5, none⟩ (.int .i64 (1 - 1))) w2) =>
        crash_all d2 ⟨ho.ok, ho.used, ho.fits, ho.room, ho.ops, ho.len, ⟨by simp, by simp⟩, by simp, ho.names⟩ hn (.slice ka s.keep.length kc) s.keep
          (RowK.isK (d1.keep.kept k2 (fun x hx e => by
            have hnd := d1.apart
            unfold feet at hnd
            rw [List.nodup_cons] at hnd
            simp at e
            subst e
            exact hnd.1 (by simp only [List.mem_cons, List.mem_append]; exact .inr (.inl hx)))))
          (fun _ x hx e => by
            have hnd := d1.apart
            unfold feet at hnd e
            rw [List.nodup_cons, List.nodup_cons, List.nodup_append] at hnd
            simp only [own, Value.ownBlock, Option.toList_none, List.nil_append, List.mem_cons] at e
            rcases e with rfl | rfl | e
            · exact hnd.1 (by simp only [List.mem_cons, List.mem_append]; exact .inr (.inl hx))
            · exact hnd.2.1 (List.mem_append.2 (.inl hx))
            · exact hnd.2.2.2.2 x hx x e rfl) ho.keep)
      simp only [Int.sub_self] at AR g6 CR
      clear h ho d1 k1 hnn h0 h1 hn0
      go_enter Tryz.func63, Tryz.ntmps63
      go_wp2_with (first
        | (go_at_call 22; refine AR.out.mono ?_; rintro e w2 ⟨rfl, d2, k2⟩; have D2 := hide d2; have K2 := hide k2; clear d2 k2)
        | (go_at_call 91; refine (CR.out w2 D2.out K2.out).mono ?_; rintro e w3 ⟨rfl, kv3, fs3, s3, L3⟩; have HL3 := hide L3; clear L3))
      go_end0
      obtain ⟨q1, q2, q3, q4⟩ := HL3.out
      have hs2 : ∀ x ∈ feet p bm (.slice none 0 0) fs, x ∈ feet p bm (.slice ka s.keep.length kc) fs := feet_sub_nil
      have k12 : Kept (feet p bm (.slice ka s.keep.length kc) fs) w w2 := (K1.out.mono (fp' := feet p bm (.slice ka s.keep.length kc) fs) (by simp [feet])).trans K2.out (Newly.of_sub (by simp [feet]))
      exact ⟨rfl, kv3, fs3, s3, q1, q2, k12.trans q3 (Newly.of_sub hs2), (Newly.of_sub hs2 : Newly w _ _).trans q4 k12.size⟩

set_option maxRecDepth 100000 in
set_option maxHeartbeats 4000000 in
theorem begin_any (h : DiskAt w p bm kv fs s) (ho : okA (fs.map Fl.ab) s) (hn : s.ops ≤ 1000000) :
    Calls Tryz.prog 34 #[.pointer (some ⟨p, 0, none⟩)] w fun e w' => e = .returned (.int .i64 (if (beginA (fs.map Fl.ab) s).2.down then 7 else 0)) ∧ ∃ kv' fs' s', Left w w' p bm kv fs kv' fs' s' (beginA (fs.map Fl.ab) s) := by
  obtain ⟨_, _, _, c3, _, _, _, c7⟩ := h.cellAt
  have k1 : Kept [p] w (w.setCell ⟨p, 3, none⟩ (.int .i64 (s.ops + 1))) := (Kept.refl _ w).setCell (p := ⟨p, 3, none⟩) (.inl (by simp)) _
  have d1 : DiskAt (w.setCell ⟨p, 3, none⟩ (.int .i64 (s.ops + 1))) p bm kv fs { s with ops := s.ops + 1 } := by
    refine h.put0 k1 ?_ rfl
    have e := heap_setCell h.cells 3 (.int .i64 (s.ops + 1))
    simpa [diskCells] using e
  have h0 := ho.ops
  have hl := ho.len
  have AP := hide (approach_any d1 ⟨ho.ok, ho.used, ho.fits, ho.room, by simp only; omega, by simp only; omega, ho.left, ho.keep, ho.names⟩ (by simp only; omega))
  have e1 : beginA (fs.map Fl.ab) s = (if s.left = 0 then (fs.map Fl.ab, { s with ops := s.ops + 1 }) else if 1 < s.left then (fs.map Fl.ab, { s with ops := s.ops + 1, left := s.left - 1 }) else crashA s.keep (fs.map Fl.ab) { s with ops := s.ops + 1, left := 0, keep := [] }) := rfl
  simp only at AP
  rw [← e1] at AP
  clear e1
  generalize beginA (fs.map Fl.ab) s = A at AP ⊢
  have AD := hide (fun W => add_any p 3 s.ops 1 (s.ops + 1) W)
  have hw : Hid (IntKind.i64.wrap (s.ops + 1) = s.ops + 1) := i64_small _ (by omega) (by omega)
  have K1 := hide k1
  clear h ho k1 d1 hl
  by_cases hd : A.2.down = true
  · rw [hd]
    go_enter Tryz.func34, Tryz.ntmps34
    go_wp2_with (first
      | (go_at_call 62; refine (AD.out _ c3 (c7 3) hw.out).mono ?_; rintro e w1 ⟨rfl, rfl⟩)
      | (go_at_call 63; refine AP.out.mono ?_; rintro e w2 ⟨rfl, kv2, fs2, s2, L2⟩; have d4 := L2.1.cellAt.2.2.2.2.1; have e2 : s2.down = true := (by have := congrArg (fun x => x.2.down) L2.2.1; simp only at this; rw [this, hd]); rw [e2] at d4; have HL2 := hide L2; clear L2 e2))
    go_ret
    obtain ⟨q1, q2, q3, q4⟩ := HL2.out
    exact ⟨rfl, kv2, fs2, s2, q1, q2, (K1.out.mono (fp' := feet p bm kv fs) (by simp [feet])).trans q3 (Newly.refl _ _), (Newly.refl _ _).trans q4 K1.out.size⟩
  · have hd2 : A.2.down = false := by simpa using hd
    rw [hd2]
    clear hd
    go_enter Tryz.func34, Tryz.ntmps34
    go_wp2_with (first
      | (go_at_call 62; refine (AD.out _ c3 (c7 3) hw.out).mono ?_; rintro e w1 ⟨rfl, rfl⟩)
      | (go_at_call 63; refine AP.out.mono ?_; rintro e w2 ⟨rfl, kv2, fs2, s2, L2⟩; have d4 := L2.1.cellAt.2.2.2.2.1; have e2 : s2.down = false := (by have := congrArg (fun x => x.2.down) L2.2.1; simp only at this; rw [this, hd2]); rw [e2] at d4; have HL2 := hide L2; clear L2 e2))
    go_ret
    obtain ⟨q1, q2, q3, q4⟩ := HL2.out
    exact ⟨rfl, kv2, fs2, s2, q1, q2, (K1.out.mono (fp' := feet p bm kv fs) (by simp [feet])).trans q3 (Newly.refl _ _), (Newly.refl _ _).trans q4 K1.out.size⟩

end

end Go.Proofs.YtgpbanjammipiaaGreatDoor

namespace Go.Proofs.YtgpbanjammipiaaGreatDoor
open Go.RowKit Go.Maps Go.Sort Go.Shelf

theorem look_runB {w : World} {bm n : Nat} {D : DataW Unit} {fs : List Fl} (hown : w.ownsMap Tryz.prog 9 ptrE bm n D) (hD : MapIs D fs) (nm : ByteArray) (hn : nm.size ≤ maxLen) :
    (Instr.lookup 53 (.map (some bm)) (.string nm) false).run Tryz.prog w = .ok (ptrOf (look fs nm.data.toList)) w := by
  have e := look_run hown hD nm.data.toList (by rw [Array.length_toList]; exact hn)
  exact e

theorem DiskAt.look {w : World} {p bm : Nat} {kv : Value} {fs : List Fl} {s : Ds} (h : DiskAt w p bm kv fs s) (nm : ByteArray) (hn : nm.size ≤ maxLen) :
    (Instr.lookup 53 (.map (some bm)) (.string nm) false).run Tryz.prog w = .ok (ptrOf (look fs nm.data.toList)) w := by
  obtain ⟨D, ho, hD⟩ := h.map
  exact look_runB ho hD nm hn

/-- What find answers. -/
def findV (s : Ds) (o : Option Fl) : Value := if s.down then .tuple #[.pointer none, .int .i64 7] else match o with | none => .tuple #[.pointer none, .int .i64 4] | some f => .tuple #[.pointer (some ⟨f.blk, 0, none⟩), .int .i64 0]

set_option maxRecDepth 100000 in
set_option maxHeartbeats 4000000 in
theorem find_any {w : World} {p bm : Nat} {kv : Value} {fs : List Fl} {s : Ds} (h : DiskAt w p bm kv fs s) (ho : okA (fs.map Fl.ab) s) (hn : s.ops ≤ 1000000) (nm : ByteArray) (hnm : nm.size ≤ maxLen) :
    Calls Tryz.prog 42 #[.pointer (some ⟨p, 0, none⟩), .string nm] w fun e w' => ∃ kv' fs' s', e = .returned (findV s' (look fs' nm.data.toList)) ∧ Left w w' p bm kv fs kv' fs' s' (beginA (fs.map Fl.ab) s) := by
  have BG := hide (begin_any h ho hn)
  generalize beginA (fs.map Fl.ab) s = A at BG ⊢
  have HNM := hide hnm
  clear h ho hnm
  by_cases hd : A.2.down = true
  · rw [hd] at BG
    go_enter Tryz.func42, Tryz.ntmps42
    go_wp2_with (go_at_call 34; refine BG.out.mono ?_; rintro e w1 ⟨rfl, kv1, fs1, s1, L1⟩; have HL1 := hide L1; clear L1)
    go_ret2
    have e2 : s1.down = true := by
      have := congrArg (fun x => x.2.down) HL1.out.2.1
      simp only at this
      rw [this, hd]
    exact ⟨kv1, fs1, s1, by simp [findV, e2], HL1.out⟩
  · have hd2 : A.2.down = false := by simpa using hd
    rw [hd2] at BG
    clear hd
    go_enter Tryz.func42, Tryz.ntmps42
    go_wp2_with (go_at_call 34; refine BG.out.mono ?_; rintro e w1 ⟨rfl, kv1, fs1, s1, L1⟩; have c0 := L1.1.cellAt.1; have LK := L1.1.look nm HNM.out; unfold ptrOf at LK; obtain ⟨o, hoo⟩ : ∃ o, o = look fs1 nm.data.toList := ⟨_, rfl⟩; rw [← hoo] at LK; have HOO := hide hoo; have HL1 := hide L1; clear L1 hoo)
    all_goals
      have e2 : s1.down = false := by
        have := congrArg (fun x => x.2.down) HL1.out.2.1
        simp only at this
        rw [this, hd2]
      go_ret2
      refine ⟨kv1, fs1, s1, ?_, HL1.out⟩
      rw [← HOO.out]
      cases o <;> simp_all [findV]

end Go.Proofs.YtgpbanjammipiaaGreatDoor
