/-
  A disk in memory, written in one part: the others stay. A lemma file: no statement of the seat is proved here.
-/
import Derived.Test.YtbhjdcoehgajcaaDTear
namespace Go.Proofs.Ytbhjdcoehgajcaa
open Go.RowKit Go.Maps Go.Sort Go.Shelf

section
variable {w w' : World} {p bm : Nat} {kv : Value} {fs ds rs : List Fl} {f : Fl} {s : Ds}

theorem DiskAt.lt (h : DiskAt w p bm kv fs s) : ∀ x ∈ feet p bm kv fs, x < w.heap.size := by
  intro x hx
  simp only [feet, List.mem_cons, List.mem_append, List.mem_flatMap] at hx
  rcases hx with rfl | rfl | hx | ⟨f, hf, hx⟩
  · exact (Array.getElem?_eq_some_iff.1 h.cells).1
  · obtain ⟨D, ho, _⟩ := h.map
    exact ho.lt
  · exact h.keep.lt x hx
  · exact (h.files f hf).lt x hx

theorem ownsMap_kept {fp : List Nat} {b n : Nat} {D : DataW Unit} (h : w.ownsMap Try.prog 9 ptrE b n D) (hk : Kept fp w w') (hb : b ∉ fp) : w'.ownsMap Try.prog 9 ptrE b n D := by
  have hlt := h.lt
  obtain ⟨es, clock, he, r⟩ := h
  exact ⟨es, clock, (hk.block b hlt hb).trans he, r⟩

/-- Where other blocks are written, the disk stays. -/
theorem DiskAt.kept {fp : List Nat} (h : DiskAt w p bm kv fs s) (hk : Kept fp w w') (hf : ∀ x ∈ feet p bm kv fs, x ∉ fp) : DiskAt w' p bm kv fs s := by
  refine ⟨(hk.block p (h.lt p (by simp [feet])) (hf p (by simp [feet]))).trans h.cells, ?_, fun f hm => (h.files f hm).kept hk (fun x hx => hf x ?_), h.keep.kept hk (fun x hx => hf x ?_), h.apart, h.sorted⟩
  · obtain ⟨D, ho, hD⟩ := h.map
    exact ⟨D, ownsMap_kept ho hk (hf bm (by simp [feet])), hD⟩
  · simp only [feet, List.mem_cons, List.mem_append, List.mem_flatMap]
    exact .inr (.inr (.inr ⟨f, hm, hx⟩))
  · simp only [feet, List.mem_cons, List.mem_append]
    exact .inr (.inr (.inl hx))

theorem DiskAt.below (h : DiskAt w p bm kv fs s) (hb : Below w.heap.size w w') : DiskAt w' p bm kv fs s := h.kept (Kept.of_below (fp := []) hb) (by simp)

/-- Where the disk's own block is written. -/
theorem DiskAt.put {s' : Ds} {kv' : Value} (h : DiskAt w p bm kv fs s) (hk : Kept [p] w w') (hc : w'.heap[p]? = some (.cells (diskCells bm kv' s') 80 (0, 0))) (hkeep : RowK w' kv' s'.keep) (hap : (feet p bm kv' fs).Nodup) : DiskAt w' p bm kv' fs s' := by
  have hnd := h.apart
  unfold feet at hnd
  rw [List.nodup_cons, List.nodup_cons] at hnd
  have hmem : ∀ x, x ∈ bm :: (own kv ++ fs.flatMap foot) → x ∉ [p] := fun x hx e => by
    simp at e
    subst e
    exact hnd.1 hx
  refine ⟨hc, ?_, fun f hm => (h.files f hm).kept hk (fun x hx => hmem x ?_), hkeep, hap, h.sorted⟩
  · obtain ⟨D, ho, hD⟩ := h.map
    exact ⟨D, ownsMap_kept ho hk (hmem bm (by simp)), hD⟩
  · simp only [List.mem_cons, List.mem_append, List.mem_flatMap]
    exact .inr (.inr ⟨f, hm, hx⟩)

/-- .. but not the slice of truths. -/
theorem DiskAt.put0 {s' : Ds} (h : DiskAt w p bm kv fs s) (hk : Kept [p] w w') (hc : w'.heap[p]? = some (.cells (diskCells bm kv s') 80 (0, 0))) (hs : s'.keep = s.keep) : DiskAt w' p bm kv fs s' := by
  refine h.put hk hc ?_ h.apart
  rw [hs]
  refine h.keep.kept hk (fun x hx e => ?_)
  have hnd := h.apart
  unfold feet at hnd
  rw [List.nodup_cons] at hnd
  simp at e
  subst e
  exact hnd.1 (by simp only [List.mem_cons, List.mem_append]; exact .inr (.inl hx))

theorem MapIs.congr {D : DataW Unit} {fs gs : List Fl} (h : MapIs D fs) (he : fs.map (fun f => (f.name, f.blk)) = gs.map (fun f => (f.name, f.blk))) : MapIs D gs := by
  have hl : ∀ n, (look gs n).map (fun f => f.blk) = (look fs n).map (fun f => f.blk) := by
    intro n
    clear h
    induction fs generalizing gs with
    | nil => cases gs with
      | nil => rfl
      | cons g gs => simp at he
    | cons f fs ih => cases gs with
      | nil => simp at he
      | cons g gs =>
        simp only [List.map_cons, List.cons.injEq, Prod.mk.injEq] at he
        unfold look
        rw [List.find?_cons, List.find?_cons, he.1.1]
        cases (g.name == n) with
        | true => simp [he.1.2]
        | false => exact ih he.2
  refine ⟨fun n => ?_, fun n => ?_, ?_⟩
  · rw [h.at_ n]
    have := hl n
    cases h1 : look gs n <;> cases h2 : look fs n <;> simp [h1, h2] at this ⊢
    omega
  · rw [h.has n]
    have := hl n
    cases h1 : look gs n <;> cases h2 : look fs n <;> simp [h1, h2] at this ⊢
  · rw [h.size]
    simpa using congrArg List.length he

theorem feet_perm (p bm : Nat) (kv : Value) (ds rs : List Fl) (f : Fl) : (feet p bm kv (ds ++ f :: rs)).Perm (foot f ++ feet p bm kv (ds ++ rs)) := by
  unfold feet
  simp only [List.flatMap_append, List.flatMap_cons]
  have h1 : (own kv ++ (ds.flatMap foot ++ (foot f ++ rs.flatMap foot))).Perm (foot f ++ (own kv ++ (ds.flatMap foot ++ rs.flatMap foot))) := by
    have e1 : own kv ++ (ds.flatMap foot ++ (foot f ++ rs.flatMap foot)) = (own kv ++ ds.flatMap foot) ++ (foot f ++ rs.flatMap foot) := by simp
    have e2 : foot f ++ (own kv ++ (ds.flatMap foot ++ rs.flatMap foot)) = (foot f ++ (own kv ++ ds.flatMap foot)) ++ rs.flatMap foot := by simp
    rw [e1, e2, ← List.append_assoc]
    exact List.perm_append_comm.append_right _
  have h2 : (foot f ++ p :: bm :: (own kv ++ (ds.flatMap foot ++ rs.flatMap foot))).Perm (p :: bm :: (foot f ++ (own kv ++ (ds.flatMap foot ++ rs.flatMap foot)))) :=
    List.perm_middle.trans (List.perm_middle.cons p)
  exact ((h1.cons bm).cons p).trans h2.symm

/-- Where one file is written: its block, and rows of its own, old or new. -/
theorem DiskAt.file {fp : List Nat} {f' : Fl} (h : DiskAt w p bm kv (ds ++ f :: rs) s) (hn : f'.name = f.name) (hb : f'.blk = f.blk) (hk : Kept fp w w') (hfp : ∀ x ∈ fp, x ∈ foot f ∨ x ∉ feet p bm kv (ds ++ f :: rs)) (hf' : FileAt w' f')
    (hnew : Newly w (foot f) (foot f')) : DiskAt w' p bm kv (ds ++ f' :: rs) s := by
  have hnd := (feet_perm p bm kv ds rs f).nodup_iff.1 h.apart
  rw [List.nodup_append] at hnd
  obtain ⟨_, hnd2, hdis⟩ := hnd
  have hin : ∀ x, x ∈ feet p bm kv (ds ++ rs) → x ∈ feet p bm kv (ds ++ f :: rs) := fun x hx => (feet_perm p bm kv ds rs f).mem_iff.2 (List.mem_append.2 (.inr hx))
  have hout : ∀ x, x ∈ feet p bm kv (ds ++ rs) → x ∉ fp := fun x hx e => by
    rcases hfp x e with h1 | h1
    · exact hdis x h1 x hx rfl
    · exact h1 (hin x hx)
  have hfile : ∀ g, g ∈ ds ++ rs → ∀ x ∈ foot g, x ∈ feet p bm kv (ds ++ rs) := fun g hg x hx => by
    simp only [feet, List.mem_cons, List.mem_append, List.mem_flatMap]
    exact .inr (.inr (.inr ⟨g, List.mem_append.1 hg, hx⟩))
  refine ⟨(hk.block p (h.lt p (by simp [feet])) (hout p (by simp [feet]))).trans h.cells, ?_, ?_, h.keep.kept hk (fun x hx => hout x ?_), ?_, ?_⟩
  · obtain ⟨D, ho, hD⟩ := h.map
    refine ⟨D, ?_, hD.congr (by simp [hn, hb])⟩
    have := ownsMap_kept ho hk (hout bm (by simp [feet]))
    simpa using this
  · intro g hg
    rcases List.mem_append.1 hg with hg | hg
    · exact (h.files g (by simp [hg])).kept hk (fun x hx => hout x (hfile g (by simp [hg]) x hx))
    · rcases List.mem_cons.1 hg with rfl | hg
      · exact hf'
      · exact (h.files g (by simp [hg])).kept hk (fun x hx => hout x (hfile g (by simp [hg]) x hx))
  · simp only [feet, List.mem_cons, List.mem_append]
    exact .inr (.inr (.inl hx))
  · refine (feet_perm p bm kv ds rs f').nodup_iff.2 ?_
    rw [List.nodup_append]
    refine ⟨hf'.apart, hnd2, fun x hx y hy e => ?_⟩
    subst e
    rcases hnew x hx with h1 | h1
    · exact hdis x h1 x hy rfl
    · have := h.lt x (hin x hy)
      omega
  · have := h.sorted
    rw [List.pairwise_append, List.pairwise_cons] at this ⊢
    simp only [List.mem_cons] at this ⊢
    rw [hn]
    refine ⟨this.1, this.2.1, fun a ha b hb => ?_⟩
    rcases hb with rfl | hb
    · rw [hn]
      exact this.2.2 a ha f (.inl rfl)
    · exact this.2.2 a ha b (.inr hb)

/-- The blocks behind it. -/
theorem feet_file {fp' : List Nat} {f' : Fl} (hnew : Newly w (foot f) (foot f')) (hfp : fp' = feet p bm kv (ds ++ f' :: rs)) : Newly w (feet p bm kv (ds ++ f :: rs)) fp' := by
  subst hfp
  intro x hx
  rcases List.mem_append.1 ((feet_perm p bm kv ds rs f').mem_iff.1 hx) with h1 | h1
  · rcases hnew x h1 with h2 | h2
    · exact .inl ((feet_perm p bm kv ds rs f).mem_iff.2 (List.mem_append.2 (.inl h2)))
    · exact .inr h2
  · exact .inl ((feet_perm p bm kv ds rs f).mem_iff.2 (List.mem_append.2 (.inr h1)))

end

end Go.Proofs.Ytbhjdcoehgajcaa
