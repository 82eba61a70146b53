/-
  Lemma texts, one behind the other: DDisk, DArm, DCrash, DBegin, DFind, DWrite, DOps. No statement of the seat is proved here.
-/
import Derived.Test.YtahhokhhgamelaaGB
namespace Go.Proofs.Ytahhokhhgamelaa
open Go.RowKit Go.Maps Go.Sort Go.Shelf

section
variable {w w' : World} {p bm : Nat} {kv : Value} {fs ds rs : List Fl} {f : Fl} {s : Ds}

theorem DiskAt.lt (h : DiskAt w p bm kv fs s) : ∀ x ∈ feet p bm kv fs, x < w.heap.size := by
  intro x hx
  simp only [feet, List.mem_cons, List.mem_append, List.mem_flatMap] at hx
  rcases hx with rfl | rfl | hx | ⟨f, hf, hx⟩
  · exact (Array.getElem?_eq_some_iff.1 h.cells).1
  · obtain ⟨D, ho, _⟩ := h.map
    exact ho.lt
  · exact h.keep.lt x hx
  · exact (h.files f hf).lt x hx

theorem ownsMap_kept {fp : List Nat} {b n : Nat} {D : DataW Unit} (h : w.ownsMap Try.prog 9 ptrE b n D) (hk : Kept fp w w') (hb : b ∉ fp) : w'.ownsMap Try.prog 9 ptrE b n D := by
  have hlt := h.lt
  obtain ⟨es, clock, he, r⟩ := h
  exact ⟨es, clock, (hk.block b hlt hb).trans he, r⟩

/-- Where other blocks are written, the disk stays. -/
theorem DiskAt.kept {fp : List Nat} (h : DiskAt w p bm kv fs s) (hk : Kept fp w w') (hf : ∀ x ∈ feet p bm kv fs, x ∉ fp) : DiskAt w' p bm kv fs s := by
  refine ⟨(hk.block p (h.lt p (by simp [feet])) (hf p (by simp [feet]))).trans h.cells, ?_, fun f hm => (h.files f hm).kept hk (fun x hx => hf x ?_), h.keep.kept hk (fun x hx => hf x ?_), h.apart, h.sorted⟩
  · obtain ⟨D, ho, hD⟩ := h.map
    exact ⟨D, ownsMap_kept ho hk (hf bm (by simp [feet])), hD⟩
  · simp only [feet, List.mem_cons, List.mem_append, List.mem_flatMap]
    exact .inr (.inr (.inr ⟨f, hm, hx⟩))
  · simp only [feet, List.mem_cons, List.mem_append]
    exact .inr (.inr (.inl hx))

theorem DiskAt.below (h : DiskAt w p bm kv fs s) (hb : Below w.heap.size w w') : DiskAt w' p bm kv fs s := h.kept (Kept.of_below (fp := []) hb) (by simp)

/-- Where the disk's own block is written. -/
theorem DiskAt.put {s' : Ds} {kv' : Value} (h : DiskAt w p bm kv fs s) (hk : Kept [p] w w') (hc : w'.heap[p]? = some (.cells (diskCells bm kv' s') 72 (0, 0))) (hkeep : RowK w' kv' s'.keep) (hap : (feet p bm kv' fs).Nodup) : DiskAt w' p bm kv' fs s' := by
  have hnd := h.apart
  unfold feet at hnd
  rw [List.nodup_cons, List.nodup_cons] at hnd
  have hmem : ∀ x, x ∈ bm :: (own kv ++ fs.flatMap foot) → x ∉ [p] := fun x hx e => by
    simp at e
    subst e
    exact hnd.1 hx
  refine ⟨hc, ?_, fun f hm => (h.files f hm).kept hk (fun x hx => hmem x ?_), hkeep, hap, h.sorted⟩
  · obtain ⟨D, ho, hD⟩ := h.map
    exact ⟨D, ownsMap_kept ho hk (hmem bm (by simp)), hD⟩
  · simp only [List.mem_cons, List.mem_append, List.mem_flatMap]
    exact .inr (.inr ⟨f, hm, hx⟩)

/-- .. but not the slice of truths. -/
theorem DiskAt.put0 {s' : Ds} (h : DiskAt w p bm kv fs s) (hk : Kept [p] w w') (hc : w'.heap[p]? = some (.cells (diskCells bm kv s') 72 (0, 0))) (hs : s'.keep = s.keep) : DiskAt w' p bm kv fs s' := by
  refine h.put hk hc ?_ h.apart
  rw [hs]
  refine h.keep.kept hk (fun x hx e => ?_)
  have hnd := h.apart
  unfold feet at hnd
  rw [List.nodup_cons] at hnd
  simp at e
  subst e
  exact hnd.1 (by simp only [List.mem_cons, List.mem_append]; exact .inr (.inl hx))

theorem MapIs.congr {D : DataW Unit} {fs gs : List Fl} (h : MapIs D fs) (he : fs.map (fun f => (f.name, f.blk)) = gs.map (fun f => (f.name, f.blk))) : MapIs D gs := by
  have hl : ∀ n, (look gs n).map (fun f => f.blk) = (look fs n).map (fun f => f.blk) := by
    intro n
    clear h
    induction fs generalizing gs with
    | nil => cases gs with
      | nil => rfl
      | cons g gs => simp at he
    | cons f fs ih => cases gs with
      | nil => simp at he
      | cons g gs =>
        simp only [List.map_cons, List.cons.injEq, Prod.mk.injEq] at he
        unfold look
        rw [List.find?_cons, List.find?_cons, he.1.1]
        cases (g.name == n) with
        | true => simp [he.1.2]
        | false => exact ih he.2
  refine ⟨fun n => ?_, fun n => ?_, ?_⟩
  · rw [h.at_ n]
    have := hl n
    cases h1 : look gs n <;> cases h2 : look fs n <;> simp [h1, h2] at this ⊢
    omega
  · rw [h.has n]
    have := hl n
    cases h1 : look gs n <;> cases h2 : look fs n <;> simp [h1, h2] at this ⊢
  · rw [h.size]
    simpa using congrArg List.length he

theorem feet_perm (p bm : Nat) (kv : Value) (ds rs : List Fl) (f : Fl) : (feet p bm kv (ds ++ f :: rs)).Perm (foot f ++ feet p bm kv (ds ++ rs)) := by
  unfold feet
  simp only [List.flatMap_append, List.flatMap_cons]
  have h1 : (own kv ++ (ds.flatMap foot ++ (foot f ++ rs.flatMap foot))).Perm (foot f ++ (own kv ++ (ds.flatMap foot ++ rs.flatMap foot))) := by
    have e1 : own kv ++ (ds.flatMap foot ++ (foot f ++ rs.flatMap foot)) = (own kv ++ ds.flatMap foot) ++ (foot f ++ rs.flatMap foot) := by simp
    have e2 : foot f ++ (own kv ++ (ds.flatMap foot ++ rs.flatMap foot)) = (foot f ++ (own kv ++ ds.flatMap foot)) ++ rs.flatMap foot := by simp
    rw [e1, e2, ← List.append_assoc]
    exact List.perm_append_comm.append_right _
  have h2 : (foot f ++ p :: bm :: (own kv ++ (ds.flatMap foot ++ rs.flatMap foot))).Perm (p :: bm :: (foot f ++ (own kv ++ (ds.flatMap foot ++ rs.flatMap foot)))) :=
    List.perm_middle.trans (List.perm_middle.cons p)
  exact ((h1.cons bm).cons p).trans h2.symm

/-- Where one file is written: its block, and rows of its own, old or new. -/
theorem DiskAt.file {fp : List Nat} {f' : Fl} (h : DiskAt w p bm kv (ds ++ f :: rs) s) (hn : f'.name = f.name) (hb : f'.blk = f.blk) (hk : Kept fp w w') (hfp : ∀ x ∈ fp, x ∈ foot f ∨ x ∉ feet p bm kv (ds ++ f :: rs)) (hf' : FileAt w' f')
    (hnew : Newly w (foot f) (foot f')) : DiskAt w' p bm kv (ds ++ f' :: rs) s := by
  have hnd := (feet_perm p bm kv ds rs f).nodup_iff.1 h.apart
  rw [List.nodup_append] at hnd
  obtain ⟨_, hnd2, hdis⟩ := hnd
  have hin : ∀ x, x ∈ feet p bm kv (ds ++ rs) → x ∈ feet p bm kv (ds ++ f :: rs) := fun x hx => (feet_perm p bm kv ds rs f).mem_iff.2 (List.mem_append.2 (.inr hx))
  have hout : ∀ x, x ∈ feet p bm kv (ds ++ rs) → x ∉ fp := fun x hx e => by
    rcases hfp x e with h1 | h1
    · exact hdis x h1 x hx rfl
    · exact h1 (hin x hx)
  have hfile : ∀ g, g ∈ ds ++ rs → ∀ x ∈ foot g, x ∈ feet p bm kv (ds ++ rs) := fun g hg x hx => by
    simp only [feet, List.mem_cons, List.mem_append, List.mem_flatMap]
    exact .inr (.inr (.inr ⟨g, List.mem_append.1 hg, hx⟩))
  refine ⟨(hk.block p (h.lt p (by simp [feet])) (hout p (by simp [feet]))).trans h.cells, ?_, ?_, h.keep.kept hk (fun x hx => hout x ?_), ?_, ?_⟩
  · obtain ⟨D, ho, hD⟩ := h.map
    refine ⟨D, ?_, hD.congr (by simp [hn, hb])⟩
    have := ownsMap_kept ho hk (hout bm (by simp [feet]))
    simpa using this
  · intro g hg
    rcases List.mem_append.1 hg with hg | hg
    · exact (h.files g (by simp [hg])).kept hk (fun x hx => hout x (hfile g (by simp [hg]) x hx))
    · rcases List.mem_cons.1 hg with rfl | hg
      · exact hf'
      · exact (h.files g (by simp [hg])).kept hk (fun x hx => hout x (hfile g (by simp [hg]) x hx))
  · simp only [feet, List.mem_cons, List.mem_append]
    exact .inr (.inr (.inl hx))
  · refine (feet_perm p bm kv ds rs f').nodup_iff.2 ?_
    rw [List.nodup_append]
    refine ⟨hf'.apart, hnd2, fun x hx y hy e => ?_⟩
    subst e
    rcases hnew x hx with h1 | h1
    · exact hdis x h1 x hy rfl
    · have := h.lt x (hin x hy)
      omega
  · have := h.sorted
    rw [List.pairwise_append, List.pairwise_cons] at this ⊢
    simp only [List.mem_cons] at this ⊢
    rw [hn]
    refine ⟨this.1, this.2.1, fun a ha b hb => ?_⟩
    rcases hb with rfl | hb
    · rw [hn]
      exact this.2.2 a ha f (.inl rfl)
    · exact this.2.2 a ha b (.inr hb)

/-- The blocks behind it. -/
theorem feet_file {fp' : List Nat} {f' : Fl} (hnew : Newly w (foot f) (foot f')) (hfp : fp' = feet p bm kv (ds ++ f' :: rs)) : Newly w (feet p bm kv (ds ++ f :: rs)) fp' := by
  subst hfp
  intro x hx
  rcases List.mem_append.1 ((feet_perm p bm kv ds rs f').mem_iff.1 hx) with h1 | h1
  · rcases hnew x h1 with h2 | h2
    · exact .inl ((feet_perm p bm kv ds rs f).mem_iff.2 (List.mem_append.2 (.inl h2)))
    · exact .inr h2
  · exact .inl ((feet_perm p bm kv ds rs f).mem_iff.2 (List.mem_append.2 (.inr h1)))

end

end Go.Proofs.Ytahhokhhgamelaa

namespace Go.Proofs.Ytahhokhhgamelaa
open Go.RowKit Go.Maps Go.Sort Go.Shelf

section
variable {w : World} {p bm : Nat} {kv : Value} {fs : List Fl} {s : Ds}

theorem DiskAt.cellAt (h : DiskAt w p bm kv fs s) : w.cell? ⟨p, 0, none⟩ = some (.map (some bm)) ∧ w.cell? ⟨p, 1, none⟩ = some (.int .i64 s.room) ∧ w.cell? ⟨p, 2, none⟩ = some (.int .i64 s.used) ∧ w.cell? ⟨p, 3, none⟩ = some (.int .i64 s.ops) ∧
    w.cell? ⟨p, 4, none⟩ = some (.bool s.down) ∧ w.cell? ⟨p, 5, none⟩ = some (.int .i64 s.left) ∧ w.cell? ⟨p, 6, none⟩ = some kv ∧ ∀ o, w.frozen? ⟨p, o, none⟩ = false := by
  have c := cell_of_heap h.cells
  refine ⟨?_, ?_, ?_, ?_, ?_, ?_, ?_, frozen_of_heap h.cells⟩ <;> (rw [c]; rfl)

theorem feet_nil (h : (feet p bm kv fs).Nodup) (u : Value) (hu : own u = []) : (feet p bm u fs).Nodup := by
  unfold feet at h ⊢
  rw [hu, List.nil_append]
  rw [List.nodup_cons, List.nodup_cons, List.nodup_append] at h
  rw [List.nodup_cons, List.nodup_cons]
  refine ⟨fun e => h.1 ?_, fun e => h.2.1 ?_, h.2.2.2.1⟩
  · simp only [List.mem_cons, List.mem_append] at e ⊢
    rcases e with e | e
    · exact .inl e
    · exact .inr (.inr e)
  · exact List.mem_append.2 (.inr e)

theorem keepForm {u : Value} {ks : List Bool} {W : World} (h : RowK W u ks) : ∃ a c, u = .slice a ks.length c := by
  obtain ⟨a, c, e, _⟩ := h.isK
  exact ⟨a, c, e⟩

set_option maxRecDepth 100000 in
set_option maxHeartbeats 1000000 in
/-- Arm, for no operation. -/
theorem arm_no (h : DiskAt w p bm kv fs s) (n : Int) (hn : n < 1) (u : Value) : Calls Try.prog 38 #[.pointer (some ⟨p, 0, none⟩), .int .i64 n, u] w fun e w' => e = .returned (.tuple #[]) ∧
    DiskAt w' p bm (.slice none 0 0) fs { s with left := 0, keep := [] } ∧ Kept [p] w w' := by
  obtain ⟨_, _, _, _, _, c5, c6, c7⟩ := h.cellAt
  obtain ⟨ka, kc, rfl⟩ := keepForm h.keep
  have HH := hide h
  clear h
  go_enter Try.func38, Try.ntmps38
  go_wp2
  go_end0
  have k2 : Kept [p] w ((w.setCell ⟨p, 5, none⟩ (.int .i64 0)).setCell ⟨p, 6, none⟩ (.slice none 0 0)) := ((Kept.refl _ w).setCell (p := ⟨p, 5, none⟩) (.inl (by simp)) _).setCell (p := ⟨p, 6, none⟩) (.inl (by simp)) _
  refine ⟨rfl, HH.out.put k2 ?_ (World.ownsRow_nil _ _ _ _) (feet_nil HH.out.apart _ rfl), k2⟩
  have e := heap_setCell (heap_setCell HH.out.cells 5 (.int .i64 0)) 6 (.slice none 0 0)
  simpa [diskCells] using e

set_option maxRecDepth 100000 in
set_option maxHeartbeats 2000000 in
/-- Arm, for an operation. -/
theorem arm_go (h : DiskAt w p bm kv fs s) (n : Int) (hn : 1 ≤ n) (u : Value) (ks : List Bool) (hu : IsK w u ks) (hup : ks ≠ [] → ∀ x ∈ own u, x ≠ p) (hl : ks.length ≤ 1099511627776) : Calls Try.prog 38 #[.pointer (some ⟨p, 0, none⟩), .int .i64 n, u] w fun e w' => e = .returned (.tuple #[]) ∧
    ∃ kv', DiskAt w' p bm kv' fs { s with left := n, keep := ks } ∧ Kept [p] w w' ∧ (∀ x ∈ own kv', w.heap.size ≤ x) := by
  obtain ⟨_, _, _, _, _, c5, c6, c7⟩ := h.cellAt
  obtain ⟨ka, kc, rfl⟩ := keepForm h.keep
  obtain ⟨W1, hW1⟩ : ∃ W1, W1 = (w.setCell ⟨p, 5, none⟩ (.int .i64 0)).setCell ⟨p, 6, none⟩ (.slice none 0 0) := ⟨_, rfl⟩
  have k1 : Kept [p] w W1 := by rw [hW1]; exact ((Kept.refl _ w).setCell (p := ⟨p, 5, none⟩) (.inl (by simp)) _).setCell (p := ⟨p, 6, none⟩) (.inl (by simp)) _
  have d1 : DiskAt W1 p bm (.slice none 0 0) fs { s with left := 0, keep := [] } := by
    refine h.put k1 ?_ (World.ownsRow_nil _ _ _ _) (feet_nil h.apart _ rfl)
    rw [hW1]
    have e := heap_setCell (heap_setCell h.cells 5 (.int .i64 0)) 6 (.slice none 0 0)
    simpa [diskCells] using e
  have u1 : IsK W1 u ks := hu.kept k1 (fun hne x hx => by simp; exact hup hne x hx)
  have CL := hide (cloneK_any u ks W1 u1 hl)
  rw [hW1] at CL
  have HW1 := hide hW1
  have D1 := hide d1
  have K1 := hide k1
  obtain ⟨ua, uc, rfl, _⟩ := hu
  clear h d1 k1 u1 hW1
  go_enter Try.func38, Try.ntmps38
  go_wp2_with (go_at_call 60; refine CL.out.mono ?_; rintro e w2 ⟨v2, rfl, r2, b2, n2⟩; rw [← HW1.out] at b2 n2; obtain ⟨ra2, rc2, rfl⟩ := keepForm r2; have R2 := hide r2; have D2 := hide (D1.out.below b2); have d5 := D2.out.cellAt.2.2.2.2.2.1; have d6 := D2.out.cellAt.2.2.2.2.2.2.1; have d7 := D2.out.cellAt.2.2.2.2.2.2.2; have B2 := hide b2; have N2 := hide n2; clear r2 b2 n2)
  go_end0
  have k2 : Kept [p] w2 ((w2.setCell ⟨p, 5, none⟩ (.int .i64 n)).setCell ⟨p, 6, none⟩ (.slice ra2 ks.length rc2)) := ((Kept.refl _ w2).setCell (p := ⟨p, 5, none⟩) (.inl (by simp)) _).setCell (p := ⟨p, 6, none⟩) (.inl (by simp)) _
  have hlt := D1.out.lt
  refine ⟨rfl, .slice ra2 ks.length rc2, D2.out.put k2 ?_ (R2.out.kept k2 (fun x hx => ?_)) ?_, (K1.out.trans (Kept.of_below (fp := []) B2.out) (Newly.of_sub (by simp))).trans k2 (Newly.refl _ _), fun x hx => Nat.le_trans K1.out.size (N2.out x hx)⟩
  · have e := heap_setCell (heap_setCell D2.out.cells 5 (.int .i64 n)) 6 (.slice ra2 ks.length rc2)
    simpa [diskCells] using e
  · have h1 := N2.out x hx
    have h2 := hlt p (by simp [feet])
    simp
    omega
  · have hnd := D1.out.apart
    unfold feet at hnd ⊢
    rw [List.nodup_cons, List.nodup_cons] at hnd ⊢
    have e0 : own (.slice none 0 0) = [] := rfl
    rw [e0, List.nil_append] at hnd
    have hnw : ∀ y, y ∈ p :: bm :: fs.flatMap foot → y ∉ own (.slice ra2 ks.length rc2) := fun y hy e => by
      have h1 := N2.out y e
      have h2 := hlt y (by unfold feet; rw [e0, List.nil_append]; exact hy)
      omega
    refine ⟨fun e => ?_, fun e => ?_, ?_⟩
    · rcases List.mem_cons.1 e with e | e
      · exact hnd.1 (by simp [e])
      · rcases List.mem_append.1 e with e | e
        · exact hnw p (by simp) e
        · exact hnd.1 (by simp only [List.mem_cons]; exact .inr e)
    · rcases List.mem_append.1 e with e | e
      · exact hnw bm (by simp) e
      · exact hnd.2.1 e
    · rw [List.nodup_append]
      refine ⟨by cases ra2 <;> simp [own, Value.ownBlock], hnd.2.2, fun x hx y hy e => ?_⟩
      subst e
      exact hnw x (by simp only [List.mem_cons]; exact .inr (.inr hy)) hx

set_option maxHeartbeats 1000000 in
theorem restart_any (h : DiskAt w p bm kv fs s) : Calls Try.prog 37 #[.pointer (some ⟨p, 0, none⟩)] w fun e w' => e = .returned (.tuple #[]) ∧ DiskAt w' p bm kv fs { s with down := false } ∧ Kept [p] w w' := by
  obtain ⟨_, _, _, _, c4, _, _, c7⟩ := h.cellAt
  have HH := hide h
  clear h
  go_enter Try.func37, Try.ntmps37
  go_wp2
  go_end0
  have k2 : Kept [p] w (w.setCell ⟨p, 4, none⟩ (.bool false)) := (Kept.refl _ w).setCell (p := ⟨p, 4, none⟩) (.inl (by simp)) _
  refine ⟨rfl, HH.out.put0 k2 ?_ rfl, k2⟩
  have e := heap_setCell HH.out.cells 4 (.bool false)
  simpa [diskCells] using e

end

set_option maxRecDepth 100000 in
set_option maxHeartbeats 1000000 in
theorem new_any (room : Int) (w : World) : Calls Try.prog 13 #[.int .i64 room] w fun e w' => e = .returned (.pointer (some ⟨w.heap.size + 1, 0, none⟩)) ∧
    DiskAt w' (w.heap.size + 1) w.heap.size (.slice none 0 0) [] { room := max room 0, used := 0, ops := 0, down := false, left := 0, keep := [] } ∧ Below w.heap.size w w' := by
  have hmm := @run_makeMap Try.prog
  have hmax : ∀ (ts : Array TypeId) (t : TypeId) (W : World), (Builtin.max_ ts t #[.int .i64 room, .int .i64 0]).run Try.prog W = .ok (.int .i64 (max room 0)) W := by
    intro ts t W
    rw [run_max_int2]
    congr 2
    split <;> omega
  go_enter Try.func13, Try.ntmps13
  go_wp2
  go_ret
  refine ⟨by simp, ⟨?_, ⟨.map [], ?_, ⟨fun n => rfl, fun n => rfl, rfl⟩⟩, by simp, World.ownsRow_nil _ _ _ _, by simp [feet, own, Value.ownBlock], List.Pairwise.nil⟩, ?_⟩
  · have e := heap_alloc_new (w.alloc (.map #[] 0)) (.cells (diskCells w.heap.size (.slice none 0 0) { room := max room 0, used := 0, ops := 0, down := false, left := 0, keep := [] }) 72)
    have e2 : (w.alloc (.map #[] 0)).heap.size = w.heap.size + 1 := by simp
    rw [e2] at e
    exact e
  · exact (World.ownsMap_made w Try.prog 9 ptrE).alloc _
  · exact ((Below.refl _ w).alloc (Nat.le_refl _) _).alloc (by simp) _

end Go.Proofs.Ytahhokhhgamelaa

namespace Go.Proofs.Ytahhokhhgamelaa
open Go.RowKit Go.Maps Go.Sort Go.Shelf

/-- A file as it is told: its name, its bytes now, and as synced. -/
abbrev Ab := List UInt8 × List Int × List Int

def Fl.ab (f : Fl) : Ab := (f.name, f.now, f.syn)

/-- The files behind a crash, and how many sectors were asked for. -/
def torn (ks : List Bool) : List Ab → Nat → List Ab × Nat
  | [], k => ([], k)
  | x :: r, k => ((x.1, (tearB ks x.2.1 x.2.2 k).1, (tearB ks x.2.1 x.2.2 k).1) :: (torn ks r (tearB ks x.2.1 x.2.2 k).2).1, (torn ks r (tearB ks x.2.1 x.2.2 k).2).2)

theorem torn_snoc (ks : List Bool) (xs : List Ab) (x : Ab) (k : Nat) :
    torn ks (xs ++ [x]) k = ((torn ks xs k).1 ++ [(x.1, (tearB ks x.2.1 x.2.2 (torn ks xs k).2).1, (tearB ks x.2.1 x.2.2 (torn ks xs k).2).1)], (tearB ks x.2.1 x.2.2 (torn ks xs k).2).2) := by
  induction xs generalizing k with
  | nil => simp [torn]
  | cons y xs ih => simp [torn, ih]

/-- How many sectors all files have. -/
def usedB (l : List Ab) : Int := (l.map fun x => sec x.2.1.length).sum

theorem usedB_nil : usedB [] = 0 := rfl
theorem usedB_snoc (xs : List Ab) (x : Ab) : usedB (xs ++ [x]) = usedB xs + sec x.2.1.length := by simp [usedB]
theorem usedB_cons (xs : List Ab) (x : Ab) : usedB (x :: xs) = sec x.2.1.length + usedB xs := by simp [usedB]
theorem usedB_append (xs ys : List Ab) : usedB (xs ++ ys) = usedB xs + usedB ys := by simp [usedB]
theorem sec_nonneg (n : Nat) : 0 ≤ sec n := by unfold sec; omega
theorem sec_mono {m n : Nat} (h : m ≤ n) : sec m ≤ sec n := by unfold sec; omega
theorem sec_le (n : Nat) (N : Int) (h : sec n ≤ N) : (n : Int) ≤ 16 * N := by unfold sec at h; omega
theorem usedB_nonneg (l : List Ab) : 0 ≤ usedB l := by
  induction l with
  | nil => simp [usedB]
  | cons x l ih => rw [usedB_cons]; have := sec_nonneg x.2.1.length; omega
theorem usedB_take (l : List Ab) (i : Nat) : usedB (l.take i) ≤ usedB l := by
  have h := usedB_append (l.take i) (l.drop i)
  rw [List.take_append_drop] at h
  have := usedB_nonneg (l.drop i)
  omega
theorem usedB_mem {l : List Ab} {x : Ab} (h : x ∈ l) : sec x.2.1.length ≤ usedB l := by
  obtain ⟨a, b, rfl⟩ := List.append_of_mem h
  rw [usedB_append, usedB_cons]
  have := usedB_nonneg a
  have := usedB_nonneg b
  omega

/-- A file's synced bytes are no more than those that it has. -/
def okAb (l : List Ab) : Prop := ∀ x ∈ l, x.2.2.length ≤ x.2.1.length

theorem tearB_len (ks : List Bool) (now syn : List Int) (k : Nat) (hs : syn.length ≤ now.length) : (tearB ks now syn k).1.length ≤ now.length ∧ syn.length ≤ (tearB ks now syn k).1.length ∧ (((tearB ks now syn k).2 : Nat) : Int) ≤ k + sec now.length := by
  have h := tearTo_len ks now syn k ((now.length + 15) / 16) (by omega) hs
  unfold tearB sec
  omega

theorem torn_used (ks : List Bool) (l : List Ab) (k : Nat) (h : okAb l) : usedB (torn ks l k).1 ≤ usedB l ∧ (((torn ks l k).2 : Nat) : Int) ≤ k + usedB l := by
  induction l generalizing k with
  | nil => simp [torn, usedB]
  | cons x l ih =>
    have h1 := tearB_len ks x.2.1 x.2.2 k (h x (by simp))
    have h2 := ih (tearB ks x.2.1 x.2.2 k).2 (fun y hy => h y (by simp [hy]))
    have h3 := sec_mono h1.1
    simp only [torn, usedB_cons]
    omega

theorem torn_ok (ks : List Bool) (l : List Ab) (k : Nat) : okAb (torn ks l k).1 := by
  induction l generalizing k with
  | nil => simp [torn, okAb]
  | cons x l ih =>
    intro y hy
    simp only [torn, List.mem_cons] at hy
    rcases hy with rfl | hy
    · exact Nat.le_refl _
    · exact ih _ y hy

theorem torn_length (ks : List Bool) (l : List Ab) (k : Nat) : (torn ks l k).1.length = l.length := by
  induction l generalizing k with
  | nil => rfl
  | cons x l ih => simp [torn, ih]

theorem torn_names (ks : List Bool) (l : List Ab) (k : Nat) : (torn ks l k).1.map (fun x => x.1) = l.map (fun x => x.1) := by
  induction l generalizing k with
  | nil => rfl
  | cons x l ih => simp [torn, ih]

/-- In the middle of a crash. -/
structure CrashSt (w0 wr : World) (p bm c : Nat) (kv : Value) (fs : List Fl) (s : Ds) (ks : List Bool) (i : Nat) (ds : List Fl) : Prop where
  disk : DiskAt wr p bm kv (ds ++ fs.drop i) { s with used := usedB (ds.map Fl.ab) }
  abs : ds.map Fl.ab = (torn ks ((fs.take i).map Fl.ab) 0).1
  cnt : wr.heap[c]? = some (.cells #[.int .i64 (torn ks ((fs.take i).map Fl.ab) 0).2] 3 (0, 0))
  kept : Kept (c :: feet p bm kv fs) w0 wr
  new : Newly w0 (feet p bm kv fs) (feet p bm kv (ds ++ fs.drop i))

section
variable {w0 wr w4 : World} {p bm c : Nat} {kv vn vs : Value} {fs ds : List Fl} {s : Ds} {ks : List Bool} {i : Nat} {f : Fl}

/-- A file as it is behind tear. -/
def tornF (ks : List Bool) (f : Fl) (k : Nat) (vn vs : Value) : Fl := { f with vn := vn, vs := vs, now := (tearB ks f.now f.syn k).1, syn := (tearB ks f.now f.syn k).1 }

theorem CrashSt.torn1 (h : CrashSt w0 wr p bm c kv fs s ks i ds) (hf : fs.drop i = f :: fs.drop (i + 1)) (hc : c ∉ feet p bm kv fs) (hcl : c < w0.heap.size)
    (hF : FileAt w4 (tornF ks f (torn ks ((fs.take i).map Fl.ab) 0).2 vn vs)) (hK : Kept [c, f.blk] wr w4) (hnew : ∀ x ∈ own vn ++ own vs, wr.heap.size ≤ x) :
    DiskAt w4 p bm kv (ds ++ tornF ks f (torn ks ((fs.take i).map Fl.ab) 0).2 vn vs :: fs.drop (i + 1)) { s with used := usedB (ds.map Fl.ab) } ∧ Newly wr (feet p bm kv (ds ++ fs.drop i)) (feet p bm kv (ds ++ tornF ks f (torn ks ((fs.take i).map Fl.ab) 0).2 vn vs :: fs.drop (i + 1))) := by
  have hd := h.disk
  have hnw := h.new
  rw [hf] at hd hnw ⊢
  have hn : Newly wr (foot f) (foot (tornF ks f (torn ks ((fs.take i).map Fl.ab) 0).2 vn vs)) := fun x hx => by
    simp only [foot, tornF, List.mem_cons] at hx ⊢
    rcases hx with rfl | hx
    · exact .inl (.inl rfl)
    · exact .inr (hnew x hx)
  refine ⟨hd.file rfl rfl hK (fun x hx => ?_) hF hn, feet_file hn rfl⟩
  simp only [List.mem_cons, List.not_mem_nil, or_false] at hx
  rcases hx with rfl | rfl
  · refine .inr (fun e => ?_)
    rcases hnw x e with h1 | h1
    · exact hc h1
    · omega
  · exact .inl (by simp [foot])

theorem take_drop {fs : List Fl} {i : Nat} {f : Fl} (hf : fs.drop i = f :: fs.drop (i + 1)) : fs.take (i + 1) = fs.take i ++ [f] ∧ i < fs.length ∧ f ∈ fs := by
  have hi : i < fs.length := by
    rcases Nat.lt_or_ge i fs.length with h | h
    · exact h
    · rw [List.drop_of_length_le h] at hf
      simp at hf
  have e : fs[i] = f := by
    have := List.drop_eq_getElem_cons hi
    rw [this] at hf
    exact (List.cons.inj hf).1
  refine ⟨?_, hi, by rw [← e]; exact List.getElem_mem hi⟩
  rw [List.take_succ_eq_append_getElem hi, e]

theorem CrashSt.next {w5 : World} (h : CrashSt w0 wr p bm c kv fs s ks i ds) (hf : fs.drop i = f :: fs.drop (i + 1)) (hc : c ∉ feet p bm kv fs) (hcl : c < w0.heap.size)
    (hF : FileAt w4 (tornF ks f (torn ks ((fs.take i).map Fl.ab) 0).2 vn vs)) (hK : Kept [c, f.blk] wr w4) (hnew : ∀ x ∈ own vn ++ own vs, wr.heap.size ≤ x)
    (hcnt : w4.heap[c]? = some (.cells #[.int .i64 (tearB ks f.now f.syn (torn ks ((fs.take i).map Fl.ab) 0).2).2] 3 (0, 0))) (hK5 : Kept [p] w4 w5)
    (h5 : w5.heap[p]? = some (.cells (diskCells bm kv { s with used := usedB (ds.map Fl.ab) + sec (tearB ks f.now f.syn (torn ks ((fs.take i).map Fl.ab) 0).2).1.length }) 72 (0, 0))) :
    CrashSt w0 w5 p bm c kv fs s ks (i + 1) (ds ++ [tornF ks f (torn ks ((fs.take i).map Fl.ab) 0).2 vn vs]) := by
  obtain ⟨hd4, hn4⟩ := h.torn1 hf hc hcl hF hK hnew
  obtain ⟨ht, hi, hfm⟩ := take_drop hf
  have hab : (ds ++ [tornF ks f (torn ks ((fs.take i).map Fl.ab) 0).2 vn vs]).map Fl.ab = (torn ks ((fs.take (i + 1)).map Fl.ab) 0).1 := by
    rw [ht, List.map_append, List.map_append, List.map_cons, List.map_nil, List.map_cons, List.map_nil, torn_snoc, h.abs]
    rfl
  have hpc : p ≠ c := fun e => hc (by simp [feet, e])
  refine ⟨?_, hab, ?_, ?_, ?_⟩
  · have e : ds ++ [tornF ks f (torn ks ((fs.take i).map Fl.ab) 0).2 vn vs] ++ fs.drop (i + 1) = ds ++ tornF ks f (torn ks ((fs.take i).map Fl.ab) 0).2 vn vs :: fs.drop (i + 1) := by simp
    rw [e]
    refine hd4.put0 hK5 ?_ rfl
    rw [h5]
    congr 3
    rw [List.map_append, List.map_cons, List.map_nil, usedB_snoc]
    rfl
  · rw [hK5.block c (by have := h.kept.size; have := hK.size; omega) (by simpa using Ne.symm hpc), hcnt, ht, List.map_append, List.map_cons, List.map_nil, torn_snoc]
    rfl
  · have k1 : Kept (c :: feet p bm kv fs) w0 w4 := h.kept.trans hK (fun x hx => by
      simp only [List.mem_cons, List.not_mem_nil, or_false] at hx
      rcases hx with rfl | rfl
      · exact .inl (by simp)
      · refine .inl ?_
        simp only [List.mem_cons, feet, List.mem_append, List.mem_flatMap]
        exact .inr (.inr (.inr (.inr ⟨f, hfm, by simp [foot]⟩))))
    exact k1.trans hK5 (Newly.of_sub (by simp [feet]))
  · have e : ds ++ [tornF ks f (torn ks ((fs.take i).map Fl.ab) 0).2 vn vs] ++ fs.drop (i + 1) = ds ++ tornF ks f (torn ks ((fs.take i).map Fl.ab) 0).2 vn vs :: fs.drop (i + 1) := by simp
    rw [e]
    exact h.new.trans hn4 h.kept.size
end

set_option maxRecDepth 100000 in
set_option maxHeartbeats 8000000 in
theorem crash_any {w : World} {p bm : Nat} {kv : Value} {fs : List Fl} {s : Ds} (h : DiskAt w p bm kv fs s) (hdn : s.down = false) (u : Value) (ks : List Bool) (hu : IsK w u ks) (hux : ks ≠ [] → ∀ x ∈ own u, x ∉ feet p bm kv fs)
    (hkl : ks.length ≤ 1099511627776) (hok : okAb (fs.map Fl.ab)) (hus : usedB (fs.map Fl.ab) ≤ 67108864) (hfl : fs.length ≤ 1073741824) (hnm : ∀ f ∈ fs, f.name.length ≤ 24) :
    Calls Try.prog 35 #[.pointer (some ⟨p, 0, none⟩), u] w fun e w' => e = .returned (.tuple #[]) ∧ ∃ fs', DiskAt w' p bm (.slice none 0 0) fs' { s with used := usedB (fs'.map Fl.ab), down := true, left := 0, keep := [] } ∧
      fs'.map Fl.ab = (torn ks (fs.map Fl.ab) 0).1 ∧ Kept (feet p bm kv fs) w w' ∧ Newly w (feet p bm kv fs) (feet p bm (.slice none 0 0) fs') := by
  have hul := hu.lt
  obtain ⟨W0, hW0⟩ : ∃ W0, W0 = w.setCell ⟨p, 2, none⟩ (.int .i64 0) := ⟨_, rfl⟩
  obtain ⟨W2, hW2⟩ : ∃ W2, W2 = (W0.alloc (.cells #[u] 29)).alloc (.cells #[.int .i64 0] 3) := ⟨_, rfl⟩
  have k0 : Kept [p] w W0 := by rw [hW0]; exact (Kept.refl _ w).setCell (p := ⟨p, 2, none⟩) (.inl (by simp)) _
  have z0 : W0.heap.size = w.heap.size := by rw [hW0]; simp [World.setCell]
  have b2 : Below W0.heap.size W0 W2 := by rw [hW2]; exact ((Below.refl _ W0).alloc (Nat.le_refl _) _).alloc (by simp) _
  have z2 : W2.heap.size = w.heap.size + 2 := by rw [hW2]; simp [z0]
  have k2 : Kept [p] w W2 := k0.trans (Kept.of_below (fp := []) b2) (Newly.of_sub (by simp))
  have hpl := h.lt p (by simp [feet])
  have d2 : DiskAt W2 p bm kv fs { s with used := 0 } := by
    refine DiskAt.below (w := W0) (h.put0 k0 ?_ rfl) b2
    rw [hW0]
    have e := heap_setCell h.cells 2 (.int .i64 0)
    simpa [diskCells] using e
  have hkb : W2.cell? ⟨w.heap.size, 0, none⟩ = some u := by
    rw [hW2, ← z0]
    simp
  have hc0 : W2.heap[w.heap.size + 1]? = some (.cells #[.int .i64 0] 3 (0, 0)) := by
    have e := heap_alloc_new (W0.alloc (.cells #[u] 29)) (.cells #[.int .i64 0] 3)
    have e2 : (W0.alloc (.cells #[u] 29)).heap.size = w.heap.size + 1 := by simp [z0]
    rw [e2] at e
    rw [hW2]
    exact e
  have NM := hide (names_any d2 (by omega))
  have c4 : w.cell? ⟨p, 4, none⟩ = some (.bool false) := by rw [h.cellAt.2.2.2.2.1, hdn]
  have c2 := h.cellAt.2.2.1
  have c7 := h.cellAt.2.2.2.2.2.2.2
  have hmf : ∀ (fn : Fn) (first cap : Array Value) (w : World), (Instr.makeFunc fn first cap).run Try.prog w = .ok (.func fn first cap) w := fun _ _ _ _ => rfl
  obtain ⟨ua, uc, hu1⟩ : ∃ ua uc, u = .slice ua ks.length uc := by obtain ⟨a, c, e, _⟩ := hu; exact ⟨a, c, e⟩
  have HU := hide hu
  have HUL := hide hul
  have HUX := hide hux
  have HW2 := hide hW2
  have D2 := hide d2
  have HD := hide h
  have K2 := hide k2
  have Z2 := hide z2
  have HKB := hide hkb
  have HC0 := hide hc0
  have HOK := hide hok
  have HUS := hide hus
  have HNM := hide hnm
  rw [hW2, hW0] at NM
  have HW0 := hide hW0
  clear hu hul hux hW0 hW2 d2 h b2 k2 k0 z0 z2 hkb hc0 hok hus hnm hdn
  subst hu1
  go_enter Try.func35, Try.ntmps35
  go_wp2_with (go_at_call 56; refine NM.out.mono ?_; rintro e w3 ⟨vN, rfl, r3, b3⟩; rw [← HW0.out, ← HW2.out] at r3 b3; have hvN : ∃ na nc, vN = .slice na fs.length nc := (by rcases r3.2 with ⟨h1, h2⟩ | ⟨g, cp, cur, h1, _⟩; exact ⟨none, 0, by rw [h2]; exact h1⟩; exact ⟨_, _, h1⟩); obtain ⟨na, nc, rfl⟩ := hvN; have R3 := hide r3; have B3 := hide b3; clear r3 b3)
  obtain ⟨c, hc⟩ : ∃ c, c = w.heap.size + 1 := ⟨_, rfl⟩
  obtain ⟨kb, hkb⟩ : ∃ kb, kb = w.heap.size := ⟨_, rfl⟩
  have HFL := hide HD.out.lt
  have hcf : Hid (c ∉ feet p bm kv fs) := fun e => by have := HFL.out c e; omega
  have hkf : Hid (kb ∉ c :: feet p bm kv fs) := fun e => by
    rcases List.mem_cons.1 e with e | e
    · omega
    · have := HFL.out kb e
      omega
  have z3 : w.heap.size + 2 ≤ w3.heap.size := by have := B3.out.size; have := Z2.out; omega
  have KA : Hid (Kept [p] w w3) := K2.out.trans (Kept.of_below (fp := []) B3.out) (Newly.of_sub (by simp))
  have HNB : Hid (∀ x ∈ own (.slice na fs.length nc), w.heap.size + 2 ≤ x ∧ x < w3.heap.size) := fun x hx => by
    have h1 := World.ownsRow.lt R3.out x (by simpa [own] using hx)
    have := Z2.out
    omega
  have HUK : Hid (ks ≠ [] → ∀ x ∈ own (.slice ua ks.length uc), x ∉ c :: feet p bm kv fs) := fun hne x hx e => by
    rcases List.mem_cons.1 e with e | e
    · have := HUL.out hne x hx
      omega
    · exact HUX.out hne x hx e
  have HG := hide (fun (wr : World) (hk : Kept (c :: feet p bm kv fs) w3 wr) => (⟨hk.cell ((B3.out.cell (p := ⟨kb, 0, none⟩) (by have := Z2.out; simp; omega)).trans (by rw [hkb]; exact HKB.out)) hkf.out,
      (HU.out.kept KA.out (fun hne x hx e => HUK.out hne x hx (by simp at e; simp [e, feet]))).kept hk HUK.out,
      ownsRow_kept R3.out hk (fun x hx e => by
        have h1 := HNB.out x hx
        rcases List.mem_cons.1 e with e | e
        · omega
        · have := HFL.out x e
          omega)⟩ : wr.cell? ⟨kb, 0, none⟩ = some (.slice ua ks.length uc) ∧ IsK wr (.slice ua ks.length uc) ks ∧ wr.ownsRow W2.heap.size 9 1 (.slice na fs.length nc) fs.length (fs.map fun f => encStr f.name)))
  have ST0 : Hid (CrashSt w3 w3 p bm c kv fs s ks 0 []) := by
    refine ⟨?_, rfl, ?_, Kept.refl _ _, Newly.refl _ _⟩
    · exact D2.out.below B3.out
    · rw [hc, B3.out.block _ (by have := Z2.out; omega)]
      exact HC0.out
  have e1 : w.heap.size + 1 = c := hc.symm
  rw [e1, ← hkb]
  have HCE := hide hc
  have HKE := hide hkb
  clear e1 hc hkb
  go_loopw [20] (fun i wr => ∃ (j : Nat) (ds : List Fl), j ≤ fs.length ∧ i = .int .i64 (j : Int) ∧ Hid (CrashSt w3 wr p bm c kv fs s ks j ds)) (fun i _ => fs.length - (intOf i).toNat)
  case atStart => exact ⟨0, [], Nat.zero_le _, rfl, ST0⟩
  case round =>
    obtain ⟨i, ds, hi, rfl, HST⟩ := hrel
    by_cases hlt : i < fs.length
    · obtain ⟨f, hf⟩ : ∃ f, fs.drop i = f :: fs.drop (i + 1) := ⟨_, List.drop_eq_getElem_cons hlt⟩
      have hfm := (take_drop hf).2.2
      have hfd : f ∈ ds ++ fs.drop i := by rw [hf]; simp
      have FA := HST.out.disk.files f hfd
      obtain ⟨g1, g2, g3⟩ := HG.out wr HST.out.kept
      obtain ⟨ng, hng⟩ : ∃ ng, na = some ⟨ng, 0, none⟩ := by
        rcases g3.2 with ⟨h1, h2⟩ | ⟨g, cp, cur, h1, _⟩
        · omega
        · simp only [Value.slice.injEq] at h1
          exact ⟨g, h1.1⟩
      subst hng
      have n1 : wr.cell? ⟨ng, i, none⟩ = some (.string ⟨f.name.toArray⟩) := by
        have e := World.ownsRow.cells g3 (g := ng) rfl i (encStr f.name) (by
          have e2 : fs[i]? = some f := by
            have := congrArg (fun l => l[0]?) hf
            simpa using this
          rw [List.getElem?_map, e2]
          rfl)
        rw [Addr.add_lit] at e
        simpa [encStr] using e
      have c0 := HST.out.disk.cellAt.1
      have LK : (Instr.lookup 65 (.map (some bm)) (.string ⟨f.name.toArray⟩) false).run Try.prog wr = .ok (.pointer (some ⟨f.blk, 0, none⟩)) wr := by
        obtain ⟨D, ho, hD⟩ := HST.out.disk.map
        have e := look_run ho hD f.name (by have := HNM.out f hfm; unfold maxLen; omega)
        rw [look_of_mem HST.out.disk.sorted hfd] at e
        exact e
      obtain ⟨k, hk⟩ : ∃ k, k = (torn ks ((fs.take i).map Fl.ab) 0).2 := ⟨_, rfl⟩
      have hokt : okAb ((fs.take i).map Fl.ab) := fun x hx => HOK.out x (by
        obtain ⟨y, hy, rfl⟩ := List.mem_map.1 hx
        exact List.mem_map.2 ⟨y, List.mem_of_mem_take hy, rfl⟩)
      have hut : usedB ((fs.take i).map Fl.ab) ≤ 67108864 := by
        have := usedB_take (fs.map Fl.ab) i
        rw [← List.map_take] at this
        have := HUS.out
        omega
      have htu := torn_used ks ((fs.take i).map Fl.ab) 0 hokt
      rw [← hk] at htu
      have hsec : sec f.now.length ≤ 67108864 := by
        have := usedB_mem (l := fs.map Fl.ab) (x := f.ab) (List.mem_map.2 ⟨f, hfm, rfl⟩)
        have := HUS.out
        simp only [Fl.ab] at *
        omega
      have hfl2 := sec_le _ _ hsec
      have hsyn : f.syn.length ≤ f.now.length := HOK.out f.ab (List.mem_map.2 ⟨f, hfm, rfl⟩)
      have hcf2 : c ∉ foot f := fun e => by
        rcases HST.out.new c (by
          simp only [feet, List.mem_cons, List.mem_append, List.mem_flatMap]
          exact .inr (.inr (.inr ⟨f, List.mem_append.1 hfd, e⟩))) with h1 | h1
        · exact hcf.out h1
        · have := HCE.out
          omega
      have hcnt := HST.out.cnt
      rw [← hk] at hcnt
      have T := hide (tear_any FA c kb k (.slice ua ks.length uc) ks hcnt g1 (by have := HCE.out; have := HKE.out; omega) g2 (fun hne e => HUK.out hne c e (by simp)) hcf2 (by omega) hsyn (by omega) hkl)
      have htl := tearB_len ks f.now f.syn k hsyn
      obtain ⟨U, hU⟩ : ∃ U, U = usedB (ds.map Fl.ab) := ⟨_, rfl⟩
      have hU0 : 0 ≤ U := by rw [hU]; exact usedB_nonneg _
      have hU1 : U ≤ 67108864 := by rw [hU, HST.out.abs]; omega
      obtain ⟨TT, hTT⟩ : ∃ TT, TT = (tearB ks f.now f.syn k).1 := ⟨_, rfl⟩
      obtain ⟨S, hS⟩ : ∃ S, S = sec TT.length := ⟨_, rfl⟩
      rw [← hTT] at htl
      have hTl : TT.length ≤ 1099511627776 := by omega
      have hS0 : 0 ≤ S := by rw [hS]; exact sec_nonneg _
      have hS1 : S ≤ 67108864 := by rw [hS]; have := sec_mono htl.1; omega
      have SC := hide (fun W => sectors_any TT.length hTl W)
      rw [← hS] at SC
      have hUS : IntKind.i64.wrap (U + S) = U + S := i64_small _ (by omega) (by omega)
      have HK := hide hk
      have HF := hide hf
      have HU2 := hide hU
      have HT2 := hide hTT
      have HS2 := hide hS
      have hpf : Hid (True) := trivial
      clear hk hf hU hTT hS hfm hfd FA g1 g2 g3 hokt hut htu hsec hfl2 hsyn hcf2 hcnt htl hpf
      go_wp2_with (go_at_call 58; refine T.out.mono ?_; rintro e w4 ⟨rfl, vn, vs, f4, n4, k4, m4⟩; have F4 : Hid (FileAt w4 (tornF ks f (torn ks ((fs.take i).map Fl.ab) 0).2 vn vs)) := (by rw [← HK.out]; exact f4); rw [HK.out] at n4; have N4 := hide n4; have K4 := hide k4; have M4 := hide m4; have r4 : RowB w4 vn (tearB ks f.now f.syn k).1 := f4.rnow; rw [← HT2.out] at r4; obtain ⟨va, vc, rfl, _⟩ := r4.isB.form; have D4 := hide (HST.out.torn1 HF.out hcf.out (by have := HCE.out; omega) F4.out K4.out M4.out).1; have d2 := D4.out.cellAt.2.2.1; have d7 := D4.out.cellAt.2.2.2.2.2.2.2; have f0 := cell_of_heap F4.out.cells 0; simp [tornF] at f0; rw [← HU2.out] at d2; clear f4 n4 k4 m4 r4)
      go_region_law (go_simp; go_at_call 59; refine (SC.out _).mono ?_; rintro e w5 ⟨rfl, rfl⟩)
      all_goals
        have K5 : Kept [p] w4 (w4.setCell ⟨p, 2, none⟩ (.int .i64 (U + S))).drew := ((Kept.refl _ w4).setCell (p := ⟨p, 2, none⟩) (.inl (by simp)) _).drew
        have ST5 : Hid (CrashSt w3 (w4.setCell ⟨p, 2, none⟩ (.int .i64 (U + S))).drew p bm c kv fs s ks (i + 1) (ds ++ [tornF ks f (torn ks ((fs.take i).map Fl.ab) 0).2 (.slice va TT.length vc) vs])) := by
          refine HST.out.next HF.out hcf.out (by have := HCE.out; omega) F4.out K4.out M4.out N4.out K5 ?_
          have e := heap_setCell D4.out.cells 2 (.int .i64 (U + S))
          rw [← HK.out, ← HT2.out, ← HS2.out, ← HU2.out]
          simp [diskCells] at e
          exact e
        clear K5
        go_wp2
        go_roundw
        case rel => exact ⟨i + 1, _, by omega, by go_num, ST5⟩
        case measure => simp [intOf]; omega
    · have hie : i = fs.length := by omega
      have HIE := hide hie
      have hde : fs.drop i = [] := by rw [hie]; simp
      have htk : fs.take i = fs := by rw [hie]; simp
      have D9 := HST.out.disk
      rw [hde, List.append_nil] at D9
      have N9 := HST.out.new
      rw [hde, List.append_nil] at N9
      have A9 := HST.out.abs
      rw [htk] at A9
      have AR := hide (arm_no D9 0 (by omega) (.slice none 0 0))
      have HN9 := hide N9
      have HA9 := hide A9
      have HD9 := hide D9
      clear D9 N9 A9 hde htk hie
      go_wp2_with (go_at_call 38; refine AR.out.mono ?_; rintro e w5 ⟨rfl, d5, k5⟩; have D5 := hide d5; have K5 := hide k5; have e4 := d5.cellAt.2.2.2.2.1; have e7 := d5.cellAt.2.2.2.2.2.2.2; clear d5 k5)
      go_end0
      have k6 : Kept [p] w5 (w5.setCell ⟨p, 4, none⟩ (.bool true)) := (Kept.refl _ w5).setCell (p := ⟨p, 4, none⟩) (.inl (by simp)) _
      refine ⟨rfl, ds, D5.out.put0 k6 ?_ rfl, HA9.out, ?_, ?_⟩
      · have e := heap_setCell D5.out.cells 4 (.bool true)
        simpa [diskCells] using e
      · have q1 : Kept (feet p bm kv fs) w wr := (KA.out.mono (fp' := feet p bm kv fs) (by simp [feet])).trans HST.out.kept (fun x hx => by
          rcases List.mem_cons.1 hx with e | e
          · exact .inr (by have := HCE.out; omega)
          · exact .inl e)
        exact (q1.trans K5.out (Newly.of_sub (by simp [feet]))).trans k6 (Newly.of_sub (by simp [feet]))
      · intro x hx
        have hx2 : x ∈ feet p bm kv ds := by
          simp only [feet, own, Value.ownBlock, Option.toList_none, List.nil_append, List.mem_cons, List.mem_append] at hx ⊢
          rcases hx with hx | hx | hx
          · exact .inl hx
          · exact .inr (.inl hx)
          · exact .inr (.inr (.inr hx))
        rcases HN9.out x hx2 with h1 | h1
        · exact .inl h1
        · exact .inr (Nat.le_trans KA.out.size h1)

set_option maxRecDepth 100000 in
set_option maxHeartbeats 1000000 in
/-- Crash, of a disk that is down: nothing. -/
theorem crash_down {w : World} {p bm : Nat} {kv : Value} {fs : List Fl} {s : Ds} (h : DiskAt w p bm kv fs s) (hdn : s.down = true) (u : Value) (ks : List Bool) (hu : IsK w u ks) :
    Calls Try.prog 35 #[.pointer (some ⟨p, 0, none⟩), u] w fun e w' => e = .returned (.tuple #[]) ∧ Below w.heap.size w w' := by
  have c4 : w.cell? ⟨p, 4, none⟩ = some (.bool true) := by rw [h.cellAt.2.2.2.2.1, hdn]
  have hpl := h.lt p (by simp [feet])
  obtain ⟨ua, uc, rfl, _⟩ := hu
  clear h hdn
  go_enter Try.func35, Try.ntmps35
  go_wp2
  first | go_end0 | refine bodyPost_ret (results_none rfl _ _ _) rfl ?_
  exact ⟨rfl, (Below.refl _ w).alloc (Nat.le_refl _) _⟩

end Go.Proofs.Ytahhokhhgamelaa

namespace Go.Proofs.Ytahhokhhgamelaa
open Go.RowKit Go.Maps Go.Sort Go.Shelf

/-- What may be of a disk. -/
structure okA (l : List Ab) (s : Ds) : Prop where
  ok : okAb l
  used : s.used = usedB l
  fits : s.used ≤ s.room
  room : s.room ≤ 67108864
  ops : 0 ≤ s.ops
  len : (l.length : Int) ≤ s.ops
  left : 0 ≤ s.left ∧ s.left ≤ 9223372036854775807
  keep : s.keep.length ≤ 1099511627776
  names : ∀ x ∈ l, mayB x.1 = true

/-- A crash. -/
def crashA (ks : List Bool) (l : List Ab) (s : Ds) : List Ab × Ds :=
  if s.down then (l, s) else ((torn ks l 0).1, { s with used := usedB (torn ks l 0).1, down := true, left := 0, keep := [] })

/-- The beginning of an operation. -/
def beginA (l : List Ab) (s : Ds) : List Ab × Ds :=
  if s.left = 0 then (l, { s with ops := s.ops + 1 })
  else if 1 < s.left then (l, { s with ops := s.ops + 1, left := s.left - 1 })
  else crashA s.keep l { s with ops := s.ops + 1, left := 0, keep := [] }

theorem crashA_ok {ks : List Bool} {l : List Ab} {s : Ds} (h : okA l s) : okA (crashA ks l s).1 (crashA ks l s).2 := by
  unfold crashA
  split
  · exact h
  · have h1 := torn_used ks l 0 h.ok
    have h2 := h.used
    have h3 := h.fits
    refine ⟨torn_ok ks l 0, rfl, ?_, h.room, h.ops, ?_, ⟨by simp, by simp⟩, by simp, ?_⟩
    · show usedB (torn ks l 0).1 ≤ s.room
      omega
    · show ((torn ks l 0).1.length : Int) ≤ s.ops
      rw [torn_length]
      exact h.len
    · intro x hx
      have e : x.1 ∈ (torn ks l 0).1.map (fun x => x.1) := List.mem_map.2 ⟨x, hx, rfl⟩
      rw [torn_names] at e
      obtain ⟨y, hy, e2⟩ := List.mem_map.1 e
      rw [← e2]
      exact h.names y hy

theorem beginA_ok {l : List Ab} {s : Ds} (h : okA l s) : okA (beginA l s).1 (beginA l s).2 := by
  have h0 := h.ops
  have hl := h.len
  have hf := h.left
  unfold beginA
  split
  · exact ⟨h.ok, h.used, h.fits, h.room, by simp only; omega, by simp only; omega, h.left, h.keep, h.names⟩
  · split
    · exact ⟨h.ok, h.used, h.fits, h.room, by simp only; omega, by simp only; omega, by simp only; omega, h.keep, h.names⟩
    · exact crashA_ok ⟨h.ok, h.used, h.fits, h.room, by simp only; omega, by simp only; omega, ⟨by simp, by simp⟩, by simp, h.names⟩

theorem crashA_len (ks : List Bool) (l : List Ab) (s : Ds) : (crashA ks l s).1.length = l.length := by
  unfold crashA
  split
  · rfl
  · exact torn_length ks l 0

theorem beginA_ops (l : List Ab) (s : Ds) : (beginA l s).2.ops = s.ops + 1 := by
  unfold beginA crashA
  split
  · rfl
  · split
    · rfl
    · split <;> rfl

theorem ab_len (fs : List Fl) : (fs.map Fl.ab).length = fs.length := by simp

theorem names24 {fs : List Fl} {s : Ds} (h : okA (fs.map Fl.ab) s) : ∀ f ∈ fs, f.name.length ≤ 24 := fun f hf => by
  have := h.names f.ab (List.mem_map.2 ⟨f, hf, rfl⟩)
  unfold mayB at this
  simp only [Fl.ab, Bool.and_eq_true] at this
  exact of_decide_eq_true this.2

theorem feet_sub_nil {p bm : Nat} {kv : Value} {fs : List Fl} : ∀ x ∈ feet p bm (.slice none 0 0) fs, x ∈ feet p bm kv fs := by
  intro x hx
  simp only [feet, own, Value.ownBlock, Option.toList_none, List.nil_append, List.mem_cons, List.mem_append] at hx ⊢
  rcases hx with hx | hx | hx
  · exact .inl hx
  · exact .inr (.inl hx)
  · exact .inr (.inr (.inr hx))

section
variable {w : World} {p bm : Nat} {kv : Value} {fs : List Fl} {s : Ds}

/-- What an operation, or a part of it, leaves. -/
def Left (w w' : World) (p bm : Nat) (kv : Value) (fs : List Fl) (kv' : Value) (fs' : List Fl) (s' : Ds) (A : List Ab × Ds) : Prop :=
  DiskAt w' p bm kv' fs' s' ∧ (fs'.map Fl.ab, s') = A ∧ Kept (feet p bm kv fs) w w' ∧ Newly w (feet p bm kv fs) (feet p bm kv' fs')

/-- Crash, of whatever disk. -/
theorem crash_all (h : DiskAt w p bm kv fs s) (ho : okA (fs.map Fl.ab) s) (hn : s.ops ≤ 1048576) (u : Value) (ks : List Bool) (hu : IsK w u ks) (hux : ks ≠ [] → ∀ x ∈ own u, x ∉ feet p bm kv fs) (hkl : ks.length ≤ 1099511627776) :
    Calls Try.prog 35 #[.pointer (some ⟨p, 0, none⟩), u] w fun e w' => e = .returned (.tuple #[]) ∧ ∃ kv' fs' s', Left w w' p bm kv fs kv' fs' s' (crashA ks (fs.map Fl.ab) s) := by
  by_cases hd : s.down = true
  · refine (crash_down h hd u ks hu).mono ?_
    rintro e w' ⟨rfl, b⟩
    refine ⟨rfl, kv, fs, s, h.below b, ?_, Kept.of_below b, Newly.refl _ _⟩
    simp [crashA, hd]
  · have hd2 : s.down = false := by simpa using hd
    have h1 := ho.len
    have h2 := ho.used
    have h3 := ho.fits
    have h4 := ho.room
    rw [ab_len] at h1
    refine (crash_any h hd2 u ks hu hux hkl ho.ok (by omega) (by omega) (names24 ho)).mono ?_
    rintro e w' ⟨rfl, fs', d, e2, k, n⟩
    refine ⟨rfl, _, fs', _, d, ?_, k, n⟩
    simp [crashA, hd2, e2]

set_option maxRecDepth 100000 in
set_option maxHeartbeats 4000000 in
theorem approach_any (h : DiskAt w p bm kv fs s) (ho : okA (fs.map Fl.ab) s) (hn : s.ops ≤ 1048576) :
    Calls Try.prog 64 #[.pointer (some ⟨p, 0, none⟩)] w fun e w' => e = .returned (.tuple #[]) ∧ ∃ kv' fs' s', Left w w' p bm kv fs kv' fs' s'
      (if s.left = 0 then (fs.map Fl.ab, s) else if 1 < s.left then (fs.map Fl.ab, { s with left := s.left - 1 }) else crashA s.keep (fs.map Fl.ab) { s with left := 0, keep := [] }) := by
  obtain ⟨_, _, _, _, _, c5, c6, c7⟩ := h.cellAt
  have hl := ho.left
  have HO := hide ho
  have HH := hide h
  by_cases h0 : s.left = 0
  · rw [h0] at c5
    simp only [h0, if_true]
    clear h ho hl
    go_enter Try.func64, Try.ntmps64
    go_wp2
    first | go_end0 | refine bodyPost_ret (results_none rfl _ _ _) rfl ?_
    exact ⟨rfl, kv, fs, s, HH.out, rfl, Kept.refl _ _, Newly.refl _ _⟩
  · obtain ⟨n, hnn⟩ : ∃ n, n = s.left := ⟨_, rfl⟩
    have d1 : DiskAt (w.setCell ⟨p, 5, none⟩ (.int .i64 (n - 1))) p bm kv fs { s with left := n - 1 } := by
      refine h.put0 ((Kept.refl _ w).setCell (p := ⟨p, 5, none⟩) (.inl (by simp)) _) ?_ rfl
      have e := heap_setCell h.cells 5 (.int .i64 (n - 1))
      simpa [diskCells] using e
    have k1 : Kept [p] w (w.setCell ⟨p, 5, none⟩ (.int .i64 (n - 1))) := (Kept.refl _ w).setCell (p := ⟨p, 5, none⟩) (.inl (by simp)) _
    have hn0 : ¬ n = 0 := by omega
    rw [← hnn] at c5 hl
    rw [← hnn, if_neg hn0]
    have D1 := hide d1
    have K1 := hide k1
    have HNN := hide hnn
    obtain ⟨ka, kc, rfl⟩ := keepForm h.keep
    by_cases h1 : 1 < n
    · rw [if_pos h1]
      have hn1 : ¬ n - 1 ≤ 0 := by omega
      have hn2 : 0 < n - 1 := by omega
      clear h ho d1 k1 hnn h0
      go_enter Try.func64, Try.ntmps64
      go_wp2
      first | go_end0 | refine bodyPost_ret (results_none rfl _ _ _) rfl ?_
      exact ⟨rfl, _, fs, _, D1.out, rfl, K1.out.mono (by simp [feet]), Newly.refl _ _⟩
    · have hn1 : n = 1 := by omega
      rw [if_neg h1]
      subst hn1
      have AR := hide (arm_no d1 0 (by omega) (.slice none 0 0))
      have g6 := d1.cellAt.2.2.2.2.2.2.1
      have CR := hide (fun (w2 : World) (d2 : DiskAt w2 p bm (.slice none 0 0) fs { s with left := 0, keep := [] }) (k2 : Kept [p] (w.setCell ⟨p, 5, none⟩ (.int .i64 (1 - 1))) w2) =>
        crash_all d2 ⟨ho.ok, ho.used, ho.fits, ho.room, ho.ops, ho.len, ⟨by simp, by simp⟩, by simp, ho.names⟩ hn (.slice ka s.keep.length kc) s.keep
          (RowK.isK (d1.keep.kept k2 (fun x hx e => by
            have hnd := d1.apart
            unfold feet at hnd
            rw [List.nodup_cons] at hnd
            simp at e
            subst e
            exact hnd.1 (by simp only [List.mem_cons, List.mem_append]; exact .inr (.inl hx)))))
          (fun _ x hx e => by
            have hnd := d1.apart
            unfold feet at hnd e
            rw [List.nodup_cons, List.nodup_cons, List.nodup_append] at hnd
            simp only [own, Value.ownBlock, Option.toList_none, List.nil_append, List.mem_cons] at e
            rcases e with rfl | rfl | e
            · exact hnd.1 (by simp only [List.mem_cons, List.mem_append]; exact .inr (.inl hx))
            · exact hnd.2.1 (List.mem_append.2 (.inl hx))
            · exact hnd.2.2.2.2 x hx x e rfl) ho.keep)
      simp only [Int.sub_self] at AR g6 CR
      clear h ho d1 k1 hnn h0 h1 hn0
      go_enter Try.func64, Try.ntmps64
      go_wp2_with (first
        | (go_at_call 38; refine AR.out.mono ?_; rintro e w2 ⟨rfl, d2, k2⟩; have D2 := hide d2; have K2 := hide k2; clear d2 k2)
        | (go_at_call 35; refine (CR.out w2 D2.out K2.out).mono ?_; rintro e w3 ⟨rfl, kv3, fs3, s3, L3⟩; have HL3 := hide L3; clear L3))
      go_end0
      obtain ⟨q1, q2, q3, q4⟩ := HL3.out
      have hs2 : ∀ x ∈ feet p bm (.slice none 0 0) fs, x ∈ feet p bm (.slice ka s.keep.length kc) fs := feet_sub_nil
      have k12 : Kept (feet p bm (.slice ka s.keep.length kc) fs) w w2 := (K1.out.mono (fp' := feet p bm (.slice ka s.keep.length kc) fs) (by simp [feet])).trans K2.out (Newly.of_sub (by simp [feet]))
      exact ⟨rfl, kv3, fs3, s3, q1, q2, k12.trans q3 (Newly.of_sub hs2), (Newly.of_sub hs2 : Newly w _ _).trans q4 k12.size⟩

set_option maxRecDepth 100000 in
set_option maxHeartbeats 4000000 in
theorem begin_any (h : DiskAt w p bm kv fs s) (ho : okA (fs.map Fl.ab) s) (hn : s.ops ≤ 1000000) :
    Calls Try.prog 45 #[.pointer (some ⟨p, 0, none⟩)] w fun e w' => e = .returned (.int .i64 (if (beginA (fs.map Fl.ab) s).2.down then 7 else 0)) ∧ ∃ kv' fs' s', Left w w' p bm kv fs kv' fs' s' (beginA (fs.map Fl.ab) s) := by
  obtain ⟨_, _, _, c3, _, _, _, c7⟩ := h.cellAt
  have k1 : Kept [p] w (w.setCell ⟨p, 3, none⟩ (.int .i64 (s.ops + 1))) := (Kept.refl _ w).setCell (p := ⟨p, 3, none⟩) (.inl (by simp)) _
  have d1 : DiskAt (w.setCell ⟨p, 3, none⟩ (.int .i64 (s.ops + 1))) p bm kv fs { s with ops := s.ops + 1 } := by
    refine h.put0 k1 ?_ rfl
    have e := heap_setCell h.cells 3 (.int .i64 (s.ops + 1))
    simpa [diskCells] using e
  have h0 := ho.ops
  have hl := ho.len
  have AP := hide (approach_any d1 ⟨ho.ok, ho.used, ho.fits, ho.room, by simp only; omega, by simp only; omega, ho.left, ho.keep, ho.names⟩ (by simp only; omega))
  have e1 : beginA (fs.map Fl.ab) s = (if s.left = 0 then (fs.map Fl.ab, { s with ops := s.ops + 1 }) else if 1 < s.left then (fs.map Fl.ab, { s with ops := s.ops + 1, left := s.left - 1 }) else crashA s.keep (fs.map Fl.ab) { s with ops := s.ops + 1, left := 0, keep := [] }) := rfl
  simp only at AP
  rw [← e1] at AP
  clear e1
  generalize beginA (fs.map Fl.ab) s = A at AP ⊢
  have AD := hide (fun W => add_any p 3 s.ops 1 (s.ops + 1) W)
  have hw : Hid (IntKind.i64.wrap (s.ops + 1) = s.ops + 1) := i64_small _ (by omega) (by omega)
  have K1 := hide k1
  clear h ho k1 d1 hl
  by_cases hd : A.2.down = true
  · rw [hd]
    go_enter Try.func45, Try.ntmps45
    go_wp2_with (first
      | (go_at_call 63; refine (AD.out _ c3 (c7 3) hw.out).mono ?_; rintro e w1 ⟨rfl, rfl⟩)
      | (go_at_call 64; refine AP.out.mono ?_; rintro e w2 ⟨rfl, kv2, fs2, s2, L2⟩; have d4 := L2.1.cellAt.2.2.2.2.1; have e2 : s2.down = true := (by have := congrArg (fun x => x.2.down) L2.2.1; simp only at this; rw [this, hd]); rw [e2] at d4; have HL2 := hide L2; clear L2 e2))
    go_ret
    obtain ⟨q1, q2, q3, q4⟩ := HL2.out
    exact ⟨rfl, kv2, fs2, s2, q1, q2, (K1.out.mono (fp' := feet p bm kv fs) (by simp [feet])).trans q3 (Newly.refl _ _), (Newly.refl _ _).trans q4 K1.out.size⟩
  · have hd2 : A.2.down = false := by simpa using hd
    rw [hd2]
    clear hd
    go_enter Try.func45, Try.ntmps45
    go_wp2_with (first
      | (go_at_call 63; refine (AD.out _ c3 (c7 3) hw.out).mono ?_; rintro e w1 ⟨rfl, rfl⟩)
      | (go_at_call 64; refine AP.out.mono ?_; rintro e w2 ⟨rfl, kv2, fs2, s2, L2⟩; have d4 := L2.1.cellAt.2.2.2.2.1; have e2 : s2.down = false := (by have := congrArg (fun x => x.2.down) L2.2.1; simp only at this; rw [this, hd2]); rw [e2] at d4; have HL2 := hide L2; clear L2 e2))
    go_ret
    obtain ⟨q1, q2, q3, q4⟩ := HL2.out
    exact ⟨rfl, kv2, fs2, s2, q1, q2, (K1.out.mono (fp' := feet p bm kv fs) (by simp [feet])).trans q3 (Newly.refl _ _), (Newly.refl _ _).trans q4 K1.out.size⟩

end

end Go.Proofs.Ytahhokhhgamelaa

namespace Go.Proofs.Ytahhokhhgamelaa
open Go.RowKit Go.Maps Go.Sort Go.Shelf

theorem look_runB {w : World} {bm n : Nat} {D : DataW Unit} {fs : List Fl} (hown : w.ownsMap Try.prog 9 ptrE bm n D) (hD : MapIs D fs) (nm : ByteArray) (hn : nm.size ≤ maxLen) :
    (Instr.lookup 65 (.map (some bm)) (.string nm) false).run Try.prog w = .ok (ptrOf (look fs nm.data.toList)) w := by
  have e := look_run hown hD nm.data.toList (by rw [Array.length_toList]; exact hn)
  exact e

theorem DiskAt.look {w : World} {p bm : Nat} {kv : Value} {fs : List Fl} {s : Ds} (h : DiskAt w p bm kv fs s) (nm : ByteArray) (hn : nm.size ≤ maxLen) :
    (Instr.lookup 65 (.map (some bm)) (.string nm) false).run Try.prog w = .ok (ptrOf (look fs nm.data.toList)) w := by
  obtain ⟨D, ho, hD⟩ := h.map
  exact look_runB ho hD nm hn

/-- What find answers. -/
def findV (s : Ds) (o : Option Fl) : Value := if s.down then .tuple #[.pointer none, .int .i64 7] else match o with | none => .tuple #[.pointer none, .int .i64 4] | some f => .tuple #[.pointer (some ⟨f.blk, 0, none⟩), .int .i64 0]

set_option maxRecDepth 100000 in
set_option maxHeartbeats 4000000 in
theorem find_any {w : World} {p bm : Nat} {kv : Value} {fs : List Fl} {s : Ds} (h : DiskAt w p bm kv fs s) (ho : okA (fs.map Fl.ab) s) (hn : s.ops ≤ 1000000) (nm : ByteArray) (hnm : nm.size ≤ maxLen) :
    Calls Try.prog 51 #[.pointer (some ⟨p, 0, none⟩), .string nm] w fun e w' => ∃ kv' fs' s', e = .returned (findV s' (look fs' nm.data.toList)) ∧ Left w w' p bm kv fs kv' fs' s' (beginA (fs.map Fl.ab) s) := by
  have BG := hide (begin_any h ho hn)
  generalize beginA (fs.map Fl.ab) s = A at BG ⊢
  have HNM := hide hnm
  clear h ho hnm
  by_cases hd : A.2.down = true
  · rw [hd] at BG
    go_enter Try.func51, Try.ntmps51
    go_wp2_with (go_at_call 45; refine BG.out.mono ?_; rintro e w1 ⟨rfl, kv1, fs1, s1, L1⟩; have HL1 := hide L1; clear L1)
    go_ret2
    have e2 : s1.down = true := by
      have := congrArg (fun x => x.2.down) HL1.out.2.1
      simp only at this
      rw [this, hd]
    exact ⟨kv1, fs1, s1, by simp [findV, e2], HL1.out⟩
  · have hd2 : A.2.down = false := by simpa using hd
    rw [hd2] at BG
    clear hd
    go_enter Try.func51, Try.ntmps51
    go_wp2_with (go_at_call 45; refine BG.out.mono ?_; rintro e w1 ⟨rfl, kv1, fs1, s1, L1⟩; have c0 := L1.1.cellAt.1; have LK := L1.1.look nm HNM.out; unfold ptrOf at LK; obtain ⟨o, hoo⟩ : ∃ o, o = look fs1 nm.data.toList := ⟨_, rfl⟩; rw [← hoo] at LK; have HOO := hide hoo; have HL1 := hide L1; clear L1 hoo)
    all_goals
      have e2 : s1.down = false := by
        have := congrArg (fun x => x.2.down) HL1.out.2.1
        simp only at this
        rw [this, hd2]
      go_ret2
      refine ⟨kv1, fs1, s1, ?_, HL1.out⟩
      rw [← HOO.out]
      cases o <;> simp_all [findV]

end Go.Proofs.Ytahhokhhgamelaa

namespace Go.Proofs.Ytahhokhhgamelaa
open Go.RowKit Go.Maps Go.Sort Go.Shelf

/-- A slice from a place on. -/
theorem slice_from (na : Option Addr) (L cap a : Nat) (ha : a ≤ L) (W : World) :
    (Instr.slice 28 (.slice na L cap) (some (.int .i64 (a : Int))) none none).run Try.prog W = .ok (.slice (if cap = a then na else na.map (·.add a)) (L - a) (cap - a)) W := by
  obtain ⟨i0, hi, hz0, hz1, hz2⟩ := info_parts Try.infoU8
  simp [Instr.slice, Instr.sliceBounds, Instr.sliceBound, asIntOf, run_underlying Try.underlying28, sizeOf, typeInfo, hi, hz1, ha]

theorem IsB.from {w : World} {na : Option Addr} {L cap : Nat} {bs : List Int} (h : IsB w (.slice na L cap) bs) (a : Nat) (ha : a ≤ L) : IsB w (.slice (if cap = a then na else na.map (·.add a)) (L - a) (cap - a)) (bs.drop a) := by
  obtain ⟨x, c, he, h1, h2, h3, h4⟩ := h
  simp only [Value.slice.injEq] at he
  obtain ⟨rfl, rfl, rfl⟩ := he
  refine ⟨(if cap = a then na else na.map (·.add a)), cap - a, by rw [List.length_drop], by rw [List.length_drop]; omega, fun e => ?_, fun y hy j hj => ?_, fun z hz => h4 z (List.mem_of_mem_drop hz)⟩
  · cases na with
    | none =>
      obtain ⟨rfl, rfl⟩ := h2 rfl
      simp
    | some na => split at e <;> simp at e
  · simp at hj
    cases na with
    | none => rw [(h2 rfl).1] at hj; simp at hj
    | some na =>
      rw [if_neg (by omega)] at hy
      simp only [Option.map_some, Option.some.injEq] at hy
      subst hy
      have := h3 na rfl (a + j) (by omega)
      rw [List.getElem?_drop, ← this, Addr.add_add]

/-- cs laid over now from a on. -/
def putA (now : List Int) (a : Nat) (cs : List Int) : List Int := now.take a ++ (cs ++ now.drop (a + cs.length))

theorem putA_length (now : List Int) (a : Nat) (cs : List Int) (h : a ≤ now.length) : (putA now a cs).length = max now.length (a + cs.length) := by
  simp [putA]
  omega

theorem putA_eq (now : List Int) (a : Nat) (cs : List Int) (h : a ≤ now.length) : now.take a ++ (cs.take (now.length - a) ++ now.drop (a + cs.length)) ++ cs.drop (min cs.length (now.length - a)) = putA now a cs := by
  unfold putA
  by_cases hc : cs.length ≤ now.length - a
  · have e : min cs.length (now.length - a) = cs.length := by omega
    rw [e, List.drop_length, List.append_nil, List.take_of_length_le hc]
  · have e : min cs.length (now.length - a) = now.length - a := by omega
    have e2 : now.drop (a + cs.length) = [] := List.drop_of_length_le (by omega)
    rw [e, e2, List.append_nil, List.append_nil, List.append_assoc, List.take_append_drop]

section
variable {ops : Array Oper} {rest : List Oper} {o : Oper} {a : Act} {Q : Exit → Act → World → Prop}

theorem wp_copyM (w : World) (hgd : o.guard = none) (d s : Operand) (ho : o.op = .call { callee := .builtin .copy, args := #[d, s], argTypes := #[28, 28] })
    (v : Value) (bs : List Int) (hrow : RowB w v bs) (n : Nat) (hn : n ≤ bs.length) (u : Value) (cs : List Int) (hu : IsB w u cs) (dp : Option Addr) (dl dc : Nat) (hd : a.eval d = .slice dp dl dc) (hdl : dl = bs.length - n)
    (hdp : n < bs.length → ∀ g, v.ownBlock = some g → dp = some ⟨g, n, none⟩) (hs : a.eval s = u) (m : Nat) (hm : m = min cs.length (bs.length - n)) (R : List Int) (hR : R = bs.take n ++ (cs.take (bs.length - n) ++ bs.drop (n + cs.length)))
    (h : ∀ w', RowB w' v R → Kept (own v) w w' → wpList Try.prog ops Q rest (a.put o.dst (.int .i64 (m : Int))) w') :
    wpList Try.prog ops Q (o :: rest) a w := by
  subst hm
  subst hR
  exact wp_copyR w hgd d s ho v bs hrow n hn u cs hu dp dl dc hd hdl hdp hs h
end

/-- How many sectors more. -/
def moreA (now : List Int) (a : Nat) (cs : List Int) : Int := sec (max now.length (a + cs.length)) - sec now.length

section
variable {w : World} {p bm : Nat} {kv : Value} {ds rs : List Fl} {f : Fl} {s : Ds}

set_option maxRecDepth 100000 in
set_option maxHeartbeats 2000000 in
/-- A place that is none. -/
theorem write_arg (hf : FileAt w f) (at_ : Int) (h64 : -9223372036854775808 ≤ at_ ∧ at_ ≤ 9223372036854775807) (hat : at_ < 0 ∨ (f.now.length : Int) < at_) (u : Value) :
    Calls Try.prog 52 #[.pointer (some ⟨p, 0, none⟩), .pointer (some ⟨f.blk, 0, none⟩), .int .i64 at_, u] w fun e w' => e = .returned (.int .i64 1) ∧ w' = w := by
  have c0 := cell_of_heap hf.cells 0
  simp at c0
  obtain ⟨na, ncap, hvn, _⟩ := hf.rnow.isB.form
  rw [hvn] at c0
  clear hf hvn
  generalize f.blk = q at c0 ⊢
  generalize f.now.length = L at c0 hat
  by_cases h0 : at_ < 0
  · go_enter Try.func52, Try.ntmps52
    go_wp2
    go_ret
    exact ⟨rfl, rfl⟩
  · have h1 : (L : Int) < at_ := by omega
    clear hat
    go_enter Try.func52, Try.ntmps52
    go_wp2
    go_ret
    exact ⟨rfl, rfl⟩

set_option maxRecDepth 100000 in
set_option maxHeartbeats 4000000 in
/-- No room. -/
theorem write_no (h : DiskAt w p bm kv (ds ++ f :: rs) s) (hl : f.now.length ≤ 1073741824) (a : Nat) (ha : a ≤ f.now.length) (u : Value) (cs : List Int) (hu : IsB w u cs) (hcl : cs.length ≤ 1073741824)
    (hs0 : 0 ≤ s.used ∧ s.used ≤ s.room ∧ s.room ≤ 67108864) (hno : s.room - s.used < moreA f.now a cs) :
    Calls Try.prog 52 #[.pointer (some ⟨p, 0, none⟩), .pointer (some ⟨f.blk, 0, none⟩), .int .i64 (a : Int), u] w fun e w' => e = .returned (.int .i64 6) ∧ Below w.heap.size w w' := by
  have hf := h.files f (by simp)
  have c0 := cell_of_heap hf.cells 0
  simp at c0
  obtain ⟨na, ncap, hvn, _⟩ := hf.rnow.isB.form
  rw [hvn] at c0
  obtain ⟨ua, uc, rfl, _⟩ := hu.form
  obtain ⟨_, d1, d2, _⟩ := h.cellAt
  unfold moreA at hno
  obtain ⟨L, hL⟩ : ∃ L, L = f.now.length := ⟨_, rfl⟩
  obtain ⟨M, hM⟩ : ∃ M, M = max L (a + cs.length) := ⟨_, rfl⟩
  rw [← hL] at c0 hl ha hno
  rw [← hM] at hno
  have hmax : ∀ (ts : Array TypeId) (t : TypeId) (W : World), (Builtin.max_ ts t #[.int .i64 (L : Int), .int .i64 ((a : Int) + (cs.length : Int))]).run Try.prog W = .ok (.int .i64 (M : Int)) W := by
    intro ts t W
    rw [run_max_int2]
    congr 2
    split <;> omega
  have S1 := hide (fun W => sectors_any M (by omega) W)
  have S2 := hide (fun W => sectors_any L (by omega) W)
  have b1 := sec_nonneg M
  have b2 := sec_nonneg L
  have b3 : sec M ≤ 1073741824 := by unfold sec; omega
  have b4 : sec L ≤ 1073741824 := by unfold sec; omega
  generalize sec M = X at S1 hno b1 b3
  generalize sec L = Y at S2 hno b2 b4
  have hlt : (a : Int) ≤ (L : Int) := by omega
  generalize f.blk = q at c0 ⊢
  clear h hf hvn hu hL hM
  go_enter Try.func52, Try.ntmps52
  go_wp2
  go_quiet ((go_at_call 59; first | exact Calls.quiet_of_same (S1.out _) | exact Calls.quiet_of_same (S2.out _)))
  go_wp2
  go_quiet (fail)
  go_wp2
  go_ret
  exact ⟨rfl, rfl, rfl, rfl, Nat.le_refl _, fun _ _ => rfl⟩

set_option maxRecDepth 100000 in
set_option maxHeartbeats 8000000 in
/-- There is room. -/
theorem write_go (h : DiskAt w p bm kv (ds ++ f :: rs) s) (hl : f.now.length ≤ 1073741824) (a : Nat) (ha : a ≤ f.now.length) (u : Value) (cs : List Int) (hu : IsB w u cs) (hcl : cs.length ≤ 1073741824) (hux : cs ≠ [] → ∀ x ∈ own u, x ∉ foot f)
    (hs0 : 0 ≤ s.used ∧ s.used ≤ s.room ∧ s.room ≤ 67108864) (hgo : moreA f.now a cs ≤ s.room - s.used) :
    Calls Try.prog 52 #[.pointer (some ⟨p, 0, none⟩), .pointer (some ⟨f.blk, 0, none⟩), .int .i64 (a : Int), u] w fun e w' => e = .returned (.int .i64 0) ∧ ∃ vn, DiskAt w' p bm kv (ds ++ { f with vn := vn, now := putA f.now a cs } :: rs) { s with used := s.used + moreA f.now a cs } ∧
      Kept (feet p bm kv (ds ++ f :: rs)) w w' ∧ Newly w (foot f) (foot { f with vn := vn, now := putA f.now a cs }) := by
  have hf := h.files f (by simp)
  have hmem : ∀ x ∈ foot f, x ∈ feet p bm kv (ds ++ f :: rs) := fun x hx => (feet_perm p bm kv ds rs f).mem_iff.2 (List.mem_append.2 (.inl hx))
  have hpf : p ∉ foot f := fun e => by
    have hnd := (feet_perm p bm kv ds rs f).nodup_iff.1 h.apart
    rw [List.nodup_append] at hnd
    exact hnd.2.2 p e p (by simp [feet]) rfl
  have hap := hf.apart
  have c0 := cell_of_heap hf.cells 0
  simp at c0
  have hRN := hf.rnow
  obtain ⟨na, ncap, hvn, hnc⟩ := hf.rnow.isB.form
  rw [hvn] at c0 hRN
  have hISN := hRN.isB
  obtain ⟨ua, uc, rfl, hucl⟩ := hu.form
  obtain ⟨_, d1, d2, _⟩ := h.cellAt
  obtain ⟨MR, hMR⟩ : ∃ MR, MR = moreA f.now a cs := ⟨_, rfl⟩
  have hMR2 := hMR
  unfold moreA at hMR2
  obtain ⟨L, hL⟩ : ∃ L, L = f.now.length := ⟨_, rfl⟩
  obtain ⟨M, hM⟩ : ∃ M, M = max L (a + cs.length) := ⟨_, rfl⟩
  rw [← hL] at c0 hl ha hMR2 hnc hRN hISN
  rw [← hM] at hMR2
  rw [← hMR] at hgo ⊢
  have hmax : ∀ (ts : Array TypeId) (t : TypeId) (W : World), (Builtin.max_ ts t #[.int .i64 (L : Int), .int .i64 ((a : Int) + (cs.length : Int))]).run Try.prog W = .ok (.int .i64 (M : Int)) W := by
    intro ts t W
    rw [run_max_int2]
    congr 2
    split <;> omega
  have S1 := hide (fun W => sectors_any M (by omega) W)
  have S2 := hide (fun W => sectors_any L (by omega) W)
  have b1 := sec_nonneg M
  have b2 := sec_nonneg L
  have b3 : sec M ≤ 1073741824 := by unfold sec; omega
  have b4 : sec L ≤ 1073741824 := by unfold sec; omega
  have b5 : sec L ≤ sec M := sec_mono (by omega)
  generalize sec M = X at S1 hMR2 b1 b3 b5
  generalize sec L = Y at S2 hMR2 b2 b4 b5
  have hMR3 : X - Y = MR := hMR2.symm
  have hMR0 : 0 ≤ MR := by omega
  have hMR4 : MR ≤ 67108864 := by omega
  have hsum : IntKind.i64.wrap (s.used + MR) = s.used + MR := i64_small _ (by omega) (by omega)
  have hgo2 : ¬ s.room - s.used < MR := by omega
  have hwr : IntKind.i64.wrap (s.room - s.used) = s.room - s.used := i64_small _ (by omega) (by omega)
  have hlt : (a : Int) ≤ (L : Int) := by omega
  -- the slices that are cut
  obtain ⟨dp, hdp⟩ : ∃ dp, dp = (if ncap = a then na else na.map (·.add a)) := ⟨_, rfl⟩
  have sl1 := slice_from na L ncap a ha
  rw [← hdp] at sl1
  obtain ⟨ov, hov⟩ : ∃ ov, ov = min cs.length (L - a) := ⟨_, rfl⟩
  obtain ⟨bp, hbp⟩ : ∃ bp, bp = (if uc = ov then ua else ua.map (·.add ov)) := ⟨_, rfl⟩
  have sl2 := slice_from ua cs.length uc ov (by omega)
  rw [← hbp] at sl2
  have hub : IsB w (.slice bp (cs.length - ov) (uc - ov)) (cs.drop ov) := by rw [hbp]; exact hu.from ov (by omega)
  have hdp2 : a < f.now.length → ∀ g, (Value.slice na L ncap).ownBlock = some g → dp = some ⟨g, a, none⟩ := by
    intro h1 g hg
    rw [← hL] at h1
    rcases hf.rnow.form with ⟨e1, e2⟩ | ⟨g2, cp2, e1, _⟩
    · rw [hL, e2] at h1
      simp at h1
    · rw [hvn] at e1
      simp only [Value.slice.injEq] at e1
      rw [hdp, if_neg (by omega), e1.1]
      rw [e1.1] at hg
      simp [Value.ownBlock] at hg
      simp [Addr.add_lit, hg]
  obtain ⟨PN, hPN⟩ : ∃ PN, PN = putA f.now a cs := ⟨_, rfl⟩
  obtain ⟨NB, hNB⟩ : ∃ NB, NB = f.now.take a ++ (cs.take (f.now.length - a) ++ f.now.drop (a + cs.length)) := ⟨_, rfl⟩
  have hNBl : NB.length = L := by rw [hNB, hL]; simp; omega
  have hcat : NB ++ cs.drop ov = PN := by rw [hNB, hPN, hov, hL]; exact putA_eq f.now a cs (by omega)
  obtain ⟨q, hq⟩ : ∃ q, q = f.blk := ⟨_, rfl⟩
  have hqp : ¬ q = p := fun e => hpf (by rw [← e, hq]; simp [foot])
  have hqn : q ∉ own (.slice na L ncap) := by
    rw [hq, hL, ← hvn]
    unfold foot at hap
    rw [List.nodup_cons] at hap
    exact fun e => hap.1 (List.mem_append.2 (.inl e))
  have hun : cs.drop ov ≠ [] → ∀ x ∈ own (.slice bp (cs.length - ov) (uc - ov)), x ∉ own (.slice na L ncap) := fun hne x hx e => by
    refine hux (fun e0 => hne (by rw [e0]; simp)) x ?_ (by rw [hL, ← hvn] at e; simp only [foot, List.mem_cons, List.mem_append]; exact .inr (.inl e))
    rw [hbp] at hx
    cases ua with
    | none => split at hx <;> simp [own, Value.ownBlock] at hx
    | some ua =>
      split at hx
      · simpa [own, Value.ownBlock] using hx
      · simp [own, Value.ownBlock, Addr.add] at hx ⊢
        split at hx <;> exact hx
  have hlen2 : NB.length + (cs.drop ov).length ≤ 1099511627776 := by rw [hNBl]; simp; omega
  have hq2 : f.blk = q := hq.symm
  have hpn : p ∉ own (.slice na L ncap) := fun e => hpf (by rw [hL, ← hvn] at e; simp only [foot, List.mem_cons, List.mem_append]; exact .inr (.inl e))
  have HPNN := hide hpn
  have HQL : Hid (q < w.heap.size) := by show q < _; rw [hq]; exact hf.lt _ (by simp [foot])
  have HPL : Hid (p < w.heap.size) := h.lt p (by simp [feet])
  have HQC : Hid (w.heap[q]? = some (.cells #[.slice na L ncap, f.vs] 77 (0, 0))) := by
    show _ = _
    rw [hq, hL, ← hvn]
    exact hf.cells
  have HPC := hide h.cells
  have HF := hide hf
  have HH := hide h
  have HRN := hide hRN
  have HU := hide hu
  have HUB := hide hub
  have HDP2 := hide hdp2
  have HQN := hide hqn
  have HUN := hide hun
  have HVN := hide hvn
  have HPN := hide hPN
  have HNB := hide hNB
  have HCAT := hide hcat
  have HQ := hide hq
  have HL := hide hL
  have HOV := hide hov
  have HLEN := hide hlen2
  have HMEM := hide hmem
  have HNBL := hide hNBl
  have hpl := h.lt p (by simp [feet])
  have haL : a ≤ f.now.length := by omega
  have HAL := hide haL
  rw [hq2] at c0 ⊢
  clear h hf hRN hISN hu hub hdp2 hqn hun hvn hPN hNB hcat hq hL hov hlen2 hmem hNBl hq2 hMR2 hMR hM hdp hbp hap hpf hux haL hpn
  go_enter Try.func52, Try.ntmps52
  go_wp2
  go_quiet ((go_at_call 59; first | exact Calls.quiet_of_same (S1.out _) | exact Calls.quiet_of_same (S2.out _)))
  go_wp2
  go_quiet (fail)
  go_wp2_with (first | (refine wp_copyM _ rfl _ _ rfl (.slice na L ncap) f.now HRN.out a HAL.out (.slice ua cs.length uc) cs HU.out dp (L - a) (ncap - a) rfl (by rw [HL.out]) HDP2.out rfl ov (by rw [← HL.out]; exact HOV.out) NB HNB.out ?_; intro w2 r2 k2; have R2 := hide r2; have K2 : Hid (Kept (own (.slice na L ncap)) w w2) := (⟨k2.os, k2.tape, k2.output, k2.size, k2.block⟩ : Kept _ w w2); clear r2 k2; have e0 := K2.out.cell c0 HQN.out) | go_in)
  go_wp2
  go_region_law (refine step_appendR _ ?_ (.tmp 63) (.tmp 66) ?_ (.slice na L ncap) (.slice bp (cs.length - ov) (uc - ov)) NB (cs.drop ov) ?_ ?_ ?_ ?_ ?_ ?_; rfl; rfl; rfl; exact R2.out; rfl; exact HUB.out.kept K2.out.drew HUN.out; exact HLEN.out; intro v3 w3 r3 k3 n3; rw [HCAT.out] at r3; obtain ⟨va, vc, rfl, hvc⟩ := r3.isB.form; have R3 := hide r3; have N3 := hide n3; have K3 : Hid (Kept (own (.slice na L ncap)) w2 w3) := (⟨k3.os, k3.tape, k3.output, k3.size, k3.block⟩ : Kept _ w2 w3); clear r3 k3 n3; have hq3 := (K3.out.block q (Nat.lt_of_lt_of_le HQL.out K2.out.size) HQN.out).trans ((K2.out.block q HQL.out HQN.out).trans HQC.out); have hp3 := (K3.out.block p (Nat.lt_of_lt_of_le HPL.out K2.out.size) HPNN.out).trans ((K2.out.block p HPL.out HPNN.out).trans HPC.out); have e1 := K3.out.cell e0 HQN.out; have z3 := frozen_of_heap hq3; have z4 := frozen_of_heap hp3; have e2 := K3.out.cell (K2.out.cell d2 HPNN.out) HPNN.out; have HQ3 := hide hq3; have HP3 := hide hp3; clear hq3 hp3)
  all_goals
    have e5 : (w3.setCell ⟨q, 0, none⟩ (.slice va PN.length vc)).cell? ⟨p, 2, none⟩ = some (.int .i64 s.used) := (World.cell?_of_block (Below.heap_setCell w3 _ _ p (fun e => hqp e.symm))).trans e2
    have z5 : (w3.setCell ⟨q, 0, none⟩ (.slice va PN.length vc)).frozen? ⟨p, 2, none⟩ = false := (World.frozen?_of_block (Below.heap_setCell w3 _ _ p (fun e => hqp e.symm))).trans (z4 2)
    go_wp2
    go_ret
    have k23 : Kept (own (.slice na L ncap)) w w3 := K2.out.trans K3.out (Newly.refl _ _)
    have hvo : ∀ x ∈ own (.slice na L ncap), x ∈ foot f := fun x hx => by
      rw [HL.out, ← HVN.out] at hx
      simp only [foot, List.mem_cons, List.mem_append]
      exact .inr (.inl hx)
    have hnap : ∀ x ∈ own (.slice va PN.length vc), x ∈ own (.slice na L ncap) ∨ w.heap.size ≤ x := fun x hx => by
      rcases N3.out x hx with h1 | h1
      · exact .inl h1
      · exact .inr (Nat.le_trans K2.out.size h1)
    have k4 : Kept (foot f) w (w3.setCell ⟨q, 0, none⟩ (.slice va PN.length vc)) := (k23.mono hvo).setCell (p := ⟨q, 0, none⟩) (.inl (by simp [foot, HQ.out])) _
    have hap := HF.out.apart
    unfold foot at hap
    rw [List.nodup_cons, List.nodup_append] at hap
    have hqs : q ∉ own f.vs := fun e => hap.1 (List.mem_append.2 (.inr (by rw [← HQ.out]; exact e)))
    have hqv : q ∉ own (.slice va PN.length vc) := fun e => by
      rcases hnap q e with h1 | h1
      · exact HQN.out h1
      · have := HQL.out
        omega
    have fileN : FileAt (w3.setCell ⟨q, 0, none⟩ (.slice va PN.length vc)) { f with vn := .slice va PN.length vc, now := PN } := by
      have kq : Kept [q] w3 (w3.setCell ⟨q, 0, none⟩ (.slice va PN.length vc)) := (Kept.refl _ w3).setCell (p := ⟨q, 0, none⟩) (.inl (by simp)) _
      refine ⟨?_, R3.out.kept kq (fun x hx => by simp; rintro rfl; exact hqv hx), ?_, ?_⟩
      · have e := heap_setCell HQ3.out 0 (.slice va PN.length vc)
        simp only
        rw [← HQ.out]
        simpa using e
      · exact (HF.out.rsyn.kept k23 (fun x hx e => by
          rw [HL.out, ← HVN.out] at e
          exact hap.2.2.2 x e x hx rfl)).kept kq (fun x hx => by simp; rintro rfl; exact hqs hx)
      · show (f.blk :: (own (.slice va PN.length vc) ++ own f.vs)).Nodup
        rw [List.nodup_cons, List.nodup_append]
        refine ⟨fun e => ?_, by cases va <;> simp [own, Value.ownBlock], hap.2.2.1, fun x hx y hy e => ?_⟩
        · rcases List.mem_append.1 e with e | e
          · exact hqv (by rw [HQ.out]; exact e)
          · exact hqs (by rw [HQ.out]; exact e)
        · subst e
          rcases hnap x hx with h1 | h1
          · rw [HL.out, ← HVN.out] at h1
            exact hap.2.2.2 x h1 x hy rfl
          · have := HF.out.rsyn.lt x hy
            omega
    have newN : Newly w (foot f) (foot { f with vn := .slice va PN.length vc, now := PN }) := fun x hx => by
      simp only [foot, List.mem_cons, List.mem_append] at hx ⊢
      rcases hx with hx | hx | hx
      · exact .inl (.inl hx)
      · rcases hnap x hx with h1 | h1
        · rw [HL.out, ← HVN.out] at h1
          exact .inl (.inr (.inl h1))
        · exact .inr h1
      · exact .inl (.inr (.inr hx))
    have dN := HH.out.file (f' := { f with vn := .slice va PN.length vc, now := PN }) rfl rfl k4 (fun x hx => .inl hx) fileN newN
    rw [← HQ.out] at dN newN
    rw [← HPN.out]
    refine ⟨rfl, .slice va PN.length vc, dN.put0 (w' := _) ?_ ?_ rfl, ?_, newN⟩
    · exact (Kept.refl [p] (w3.setCell ⟨q, 0, none⟩ (.slice va PN.length vc))).setCell (p := ⟨p, 2, none⟩) (.inl (by simp)) _
    · have e := heap_setCell dN.cells 2 (.int .i64 (s.used + MR))
      simp [diskCells] at e
      exact e
    · exact (k4.mono HMEM.out).setCell (p := ⟨p, 2, none⟩) (.inl (by simp [feet])) _

end

end Go.Proofs.Ytahhokhhgamelaa

namespace Go.Proofs.Ytahhokhhgamelaa
open Go.RowKit Go.Maps Go.Sort Go.Shelf

/-- The file of a name, as it is told. -/
def lookA (l : List Ab) (n : List UInt8) : Option Ab := l.find? (fun x => x.1 == n)

theorem look_ab (fs : List Fl) (n : List UInt8) : lookA (fs.map Fl.ab) n = (look fs n).map Fl.ab := by
  unfold lookA look
  rw [List.find?_map]
  rfl

/-- An operation on a file of that name: what it answers if the disk is down, or there is none. -/
def errA (A : List Ab × Ds) (n : List UInt8) : Option Int := if A.2.down then some 7 else match lookA A.1 n with | none => some 4 | some _ => none

theorem errA_ne {A : List Ab × Ds} {n : List UInt8} {k : Int} (h : errA A n = some k) : k = 7 ∨ k = 4 := by
  unfold errA at h
  split at h
  · simp at h; omega
  · split at h
    · simp at h; omega
    · simp at h

/-- A file in the place of the one of its name. -/
def setA (l : List Ab) (x : Ab) : List Ab := l.map (fun y => if y.1 == x.1 then x else y)

theorem setA_split {a b : List Ab} {x y : Ab} (h : (a ++ x :: b).Pairwise (fun f g => f.1 < g.1)) (hn : y.1 = x.1) : setA (a ++ x :: b) y = a ++ y :: b := by
  rw [List.pairwise_append, List.pairwise_cons] at h
  have e1 : a.map (fun z => if z.1 == y.1 then y else z) = a := by
    have : ∀ z ∈ a, (if z.1 == y.1 then y else z) = z := fun z hz => by
      have := lt_ne (h.2.2 z hz x (by simp))
      rw [hn, if_neg (by simpa using this)]
    exact (List.map_congr_left this).trans (List.map_id a)
  have e2 : b.map (fun z => if z.1 == y.1 then y else z) = b := by
    have : ∀ z ∈ b, (if z.1 == y.1 then y else z) = z := fun z hz => by
      have := lt_ne (h.2.1.1 z hz)
      rw [hn, if_neg (by simpa using Ne.symm this)]
    exact (List.map_congr_left this).trans (List.map_id b)
  unfold setA
  rw [List.map_append, List.map_cons, e1, e2, if_pos (by simp [hn])]

/-- What write answers, and leaves. -/
def writeA (l : List Ab) (s : Ds) (x : Ab) (at_ : Int) (cs : List Int) : Int × (List Ab × Ds) :=
  if at_ < 0 ∨ (x.2.1.length : Int) < at_ then (1, (l, s))
  else if s.room - s.used < moreA x.2.1 at_.toNat cs then (6, (l, s))
  else (0, (setA l (x.1, putA x.2.1 at_.toNat cs, x.2.2), { s with used := s.used + moreA x.2.1 at_.toNat cs }))

theorem sortedA {fs : List Fl} (h : fs.Pairwise (fun f g => f.name < g.name)) : (fs.map Fl.ab).Pairwise (fun f g => f.1 < g.1) := List.pairwise_map.2 h

theorem lookA_mem {l : List Ab} {n : List UInt8} {x : Ab} (h : lookA l n = some x) : x ∈ l ∧ x.1 = n := by
  unfold lookA at h
  exact ⟨List.mem_of_find?_eq_some h, by simpa using List.find?_some h⟩

theorem okA_set {a b : List Ab} {x y : Ab} {s s' : Ds} (h : okA (a ++ x :: b) s) (hn : y.1 = x.1) (hy : y.2.2.length ≤ y.2.1.length) (hu : s'.used = s.used - sec x.2.1.length + sec y.2.1.length) (hf : s'.used ≤ s'.room)
    (hr : s'.room = s.room) (ho : s'.ops = s.ops) (hl : s'.left = s.left) (hk : s'.keep = s.keep) : okA (a ++ y :: b) s' := by
  have h1 := h.used
  rw [usedB_append, usedB_cons] at h1
  refine ⟨fun z hz => ?_, ?_, hf, by rw [hr]; exact h.room, by rw [ho]; exact h.ops, ?_, by rw [hl]; exact h.left, by rw [hk]; exact h.keep, fun z hz => ?_⟩
  · rcases List.mem_append.1 hz with hz | hz
    · exact h.ok z (by simp [hz])
    · rcases List.mem_cons.1 hz with rfl | hz
      · exact hy
      · exact h.ok z (by simp [hz])
  · rw [usedB_append, usedB_cons]
    omega
  · rw [ho]
    have := h.len
    simpa using this
  · rcases List.mem_append.1 hz with hz | hz
    · exact h.names z (by simp [hz])
    · rcases List.mem_cons.1 hz with rfl | hz
      · rw [hn]
        exact h.names x (by simp)
      · exact h.names z (by simp [hz])

theorem moreA_nonneg (now : List Int) (a : Nat) (cs : List Int) : 0 ≤ moreA now a cs := by
  unfold moreA
  have := sec_mono (m := now.length) (n := max now.length (a + cs.length)) (by omega)
  omega

/-- Files and what is told of them, taken apart at a name. -/
theorem split_look {l : List Ab} {n : List UInt8} {x : Ab} (h : lookA l n = some x) : ∃ a b, l = a ++ x :: b := List.append_of_mem (lookA_mem h).1

theorem writeA_ok {l : List Ab} {s : Ds} (h : okA l s) (hs : l.Pairwise (fun f g => f.1 < g.1)) {n : List UInt8} {x : Ab} (hx : lookA l n = some x) (at_ : Int) (cs : List Int) : okA (writeA l s x at_ cs).2.1 (writeA l s x at_ cs).2.2 := by
  unfold writeA
  split
  · exact h
  · rename_i h1
    split
    · exact h
    · rename_i h2
      obtain ⟨a, b, rfl⟩ := split_look hx
      have e := setA_split (y := (x.1, putA x.2.1 at_.toNat cs, x.2.2)) hs rfl
      simp only
      rw [e]
      have hl := putA_length x.2.1 at_.toNat cs (by omega)
      have hok := h.ok x (by simp)
      have hm := moreA_nonneg x.2.1 at_.toNat cs
      refine okA_set h rfl ?_ ?_ ?_ rfl rfl rfl rfl
      · simp only [hl]
        omega
      · simp only [hl, moreA]
        omega
      · simp only
        omega

section
variable {w : World} {p bm : Nat} {kv : Value} {fs : List Fl} {s : Ds}

theorem file_len {f : Fl} (ho : okA (fs.map Fl.ab) s) (hf : f ∈ fs) : f.now.length ≤ 1073741824 ∧ f.syn.length ≤ f.now.length := by
  have h1 := usedB_mem (l := fs.map Fl.ab) (x := f.ab) (List.mem_map.2 ⟨f, hf, rfl⟩)
  have h2 := ho.used
  have h3 := ho.fits
  have h4 := ho.room
  have h5 := sec_le _ _ (Int.le_trans h1 (by omega : usedB (fs.map Fl.ab) ≤ 67108864))
  refine ⟨?_, ho.ok f.ab (List.mem_map.2 ⟨f, hf, rfl⟩)⟩
  simp only [Fl.ab] at h5
  omega

theorem write_any (h : DiskAt w p bm kv fs s) (ho : okA (fs.map Fl.ab) s) {n : List UInt8} {f : Fl} (hf : look fs n = some f) (at_ : Int) (h64 : -9223372036854775808 ≤ at_ ∧ at_ ≤ 9223372036854775807) (u : Value) (cs : List Int) (hu : IsB w u cs) (hcl : cs.length ≤ 1073741824)
    (hux : cs ≠ [] → ∀ x ∈ own u, x ∉ feet p bm kv fs) :
    Calls Try.prog 52 #[.pointer (some ⟨p, 0, none⟩), .pointer (some ⟨f.blk, 0, none⟩), .int .i64 at_, u] w fun e w' => e = .returned (.int .i64 (writeA (fs.map Fl.ab) s f.ab at_ cs).1) ∧ ∃ fs' s', Left w w' p bm kv fs kv fs' s' (writeA (fs.map Fl.ab) s f.ab at_ cs).2 := by
  have hfm := (look_name hf).1
  have hfl := file_len ho hfm
  by_cases h1 : at_ < 0 ∨ (f.now.length : Int) < at_
  · refine (write_arg (h.files f hfm) at_ h64 h1 u).mono ?_
    rintro e w' ⟨rfl, rfl⟩
    have e1 : writeA (fs.map Fl.ab) s f.ab at_ cs = (1, (fs.map Fl.ab, s)) := by
      exact if_pos h1
    rw [e1]
    exact ⟨rfl, fs, s, h, rfl, Kept.refl _ _, Newly.refl _ _⟩
  · obtain ⟨a, rfl⟩ : ∃ a : Nat, at_ = (a : Int) := ⟨at_.toNat, by omega⟩
    have ha : a ≤ f.now.length := by omega
    obtain ⟨ds, rs, rfl⟩ := List.append_of_mem hfm
    have hs0 : 0 ≤ s.used ∧ s.used ≤ s.room ∧ s.room ≤ 67108864 := ⟨by rw [ho.used]; exact usedB_nonneg _, ho.fits, ho.room⟩
    by_cases h2 : s.room - s.used < moreA f.now a cs
    · refine (write_no h hfl.1 a ha u cs hu hcl hs0 h2).mono ?_
      rintro e w' ⟨rfl, b⟩
      have e1 : writeA ((ds ++ f :: rs).map Fl.ab) s f.ab (a : Int) cs = (6, ((ds ++ f :: rs).map Fl.ab, s)) := by
        exact (if_neg h1).trans (if_pos h2)
      rw [e1]
      exact ⟨rfl, _, s, h.below b, rfl, Kept.of_below b, Newly.refl _ _⟩
    · refine (write_go h hfl.1 a ha u cs hu hcl (fun hne x hx e => hux hne x hx ((feet_perm p bm kv ds rs f).mem_iff.2 (List.mem_append.2 (.inl e)))) hs0 (by omega)).mono ?_
      rintro e w' ⟨rfl, vn, d, k, nw⟩
      have e1 : writeA ((ds ++ f :: rs).map Fl.ab) s f.ab (a : Int) cs = (0, (setA ((ds ++ f :: rs).map Fl.ab) (f.name, putA f.now a cs, f.syn), { s with used := s.used + moreA f.now a cs })) := by
        exact (if_neg h1).trans (if_neg h2)
      rw [e1]
      refine ⟨rfl, _, _, d, ?_, k, feet_file nw rfl⟩
      have e2 := setA_split (a := ds.map Fl.ab) (b := rs.map Fl.ab) (x := f.ab) (y := (f.name, putA f.now a cs, f.syn)) (by have := sortedA h.sorted; simpa using this) rfl
      simp only [List.map_append, List.map_cons]
      rw [e2]
      rfl
end

/-- A disk, by its blocks. -/
def Dk (w : World) (fp : List Nat) (p : Nat) (l : List Ab) (s : Ds) : Prop := ∃ bm kv fs, DiskAt w p bm kv fs s ∧ fs.map Fl.ab = l ∧ fp = feet p bm kv fs ∧ okA l s

/-- What an operation leaves. -/
def Outc (w w' : World) (fp : List Nat) (p : Nat) (A : List Ab × Ds) : Prop := ∃ fp', Dk w' fp' p A.1 A.2 ∧ Kept fp w w' ∧ Newly w fp fp'

theorem Left.outc {w w' : World} {p bm : Nat} {kv kv' : Value} {fs fs' : List Fl} {s' : Ds} {A : List Ab × Ds} (h : Left w w' p bm kv fs kv' fs' s' A) (ho : okA A.1 A.2) : Outc w w' (feet p bm kv fs) p A := by
  obtain ⟨h1, rfl, h3, h4⟩ := h
  exact ⟨_, ⟨bm, kv', fs', h1, rfl, rfl, ho⟩, h3, h4⟩

theorem Left.trans {w w1 w2 : World} {p bm : Nat} {kv kv1 kv2 : Value} {fs fs1 fs2 : List Fl} {s1 s2 : Ds} {A B : List Ab × Ds} (h : Left w w1 p bm kv fs kv1 fs1 s1 A) (k : Left w1 w2 p bm kv1 fs1 kv2 fs2 s2 B) : Left w w2 p bm kv fs kv2 fs2 s2 B :=
  ⟨k.1, k.2.1, h.2.2.1.trans k.2.2.1 h.2.2.2, h.2.2.2.trans k.2.2.2 h.2.2.1.size⟩

section
variable {w : World} {p bm : Nat} {kv : Value} {fs : List Fl} {s : Ds}

theorem find_err (h : DiskAt w p bm kv fs s) (ho : okA (fs.map Fl.ab) s) (hn : s.ops ≤ 1000000) (nm : ByteArray) (hnm : nm.size ≤ maxLen) {k : Int} (he : errA (beginA (fs.map Fl.ab) s) nm.data.toList = some k) :
    Calls Try.prog 51 #[.pointer (some ⟨p, 0, none⟩), .string nm] w fun e w' => e = .returned (.tuple #[.pointer none, .int .i64 k]) ∧ ∃ kv' fs' s', Left w w' p bm kv fs kv' fs' s' (beginA (fs.map Fl.ab) s) := by
  refine (find_any h ho hn nm hnm).mono ?_
  rintro e w' ⟨kv', fs', s', rfl, L⟩
  refine ⟨?_, kv', fs', s', L⟩
  have e1 := L.2.1
  rw [← e1] at he
  unfold errA at he
  unfold findV
  cases hd : s'.down with
  | true => simp [hd] at he; simp [← he]
  | false =>
    simp only [hd, look_ab] at he ⊢
    cases hl : look fs' nm.data.toList with
    | none => simp [hl] at he; simp [← he]
    | some f => simp [hl] at he

theorem find_ok (h : DiskAt w p bm kv fs s) (ho : okA (fs.map Fl.ab) s) (hn : s.ops ≤ 1000000) (nm : ByteArray) (hnm : nm.size ≤ maxLen) {x : Ab} (he : errA (beginA (fs.map Fl.ab) s) nm.data.toList = none) (hx : lookA (beginA (fs.map Fl.ab) s).1 nm.data.toList = some x) :
    Calls Try.prog 51 #[.pointer (some ⟨p, 0, none⟩), .string nm] w fun e w' => ∃ kv' fs' s' f, e = .returned (.tuple #[.pointer (some ⟨f.blk, 0, none⟩), .int .i64 0]) ∧ look fs' nm.data.toList = some f ∧ f.ab = x ∧ Left w w' p bm kv fs kv' fs' s' (beginA (fs.map Fl.ab) s) := by
  refine (find_any h ho hn nm hnm).mono ?_
  rintro e w' ⟨kv', fs', s', rfl, L⟩
  have e1 := L.2.1
  rw [← e1] at he hx
  rw [look_ab] at hx
  cases hl : look fs' nm.data.toList with
  | none => simp [hl] at hx
  | some f =>
    refine ⟨kv', fs', s', f, ?_, hl, by simpa [hl] using hx, L⟩
    unfold errA at he
    unfold findV
    cases hd : s'.down with
    | true => simp [hd] at he
    | false => simp

theorem errA_none {A : List Ab × Ds} {n : List UInt8} (h : errA A n = none) : ∃ x, lookA A.1 n = some x := by
  unfold errA at h
  split at h
  · simp at h
  · split at h
    · simp at h
    · rename_i x hx
      exact ⟨x, hx⟩
end

end Go.Proofs.Ytahhokhhgamelaa
