/-
  What drop and Remove do. A lemma file: no statement of the seat is proved here.
-/
import Derived.Test.YtbhjdcoehgajcaaDErr
namespace Go.Proofs.Ytbhjdcoehgajcaa
open Go.RowKit Go.Maps Go.Sort Go.Shelf

theorem look_del {ds rs : List Fl} {f : Fl} (hs : (ds ++ f :: rs).Pairwise (fun f g => f.name < g.name)) (n : List UInt8) : look (ds ++ rs) n = if f.name = n then none else look (ds ++ f :: rs) n := by
  rw [List.pairwise_append, List.pairwise_cons] at hs
  unfold look
  rw [List.find?_append, List.find?_append, List.find?_cons]
  by_cases h : f.name = n
  · subst h
    rw [if_pos rfl]
    have e1 : ds.find? (fun g => g.name == f.name) = none := List.find?_eq_none.2 fun g hg => by simpa using lt_ne (hs.2.2 g hg f (by simp))
    have e2 : rs.find? (fun g => g.name == f.name) = none := List.find?_eq_none.2 fun g hg => by simpa using Ne.symm (lt_ne (hs.2.1.1 g hg))
    rw [e1, e2]
    rfl
  · have e : (f.name == n) = false := by simpa using h
    rw [e, if_neg h]

theorem MapIs.del {D : DataW Unit} {ds rs : List Fl} {f : Fl} (h : MapIs D (ds ++ f :: rs)) (ht : Tidy D) (hs : (ds ++ f :: rs).Pairwise (fun f g => f.name < g.name)) : MapIs (D.del (.string f.name)) (ds ++ rs) := by
  have hlk : look (ds ++ f :: rs) f.name = some f := look_of_mem hs (by simp)
  refine ⟨fun n => ?_, fun n => ?_, ?_⟩
  · rw [look_del hs n]
    by_cases e : f.name = n
    · subst e
      rw [atKey_del_same, if_pos rfl]
    · rw [atKey_del_other (by simpa using fun e2 => e e2.symm), h.at_ n, if_neg e]
  · rw [look_del hs n]
    by_cases e : f.name = n
    · subst e
      rw [has_del_same, if_pos rfl]
      rfl
    · rw [has_del_other (by simpa using fun e2 => e e2.symm), h.has n, if_neg e]
  · have e := size_del (k := .string f.name) ht
    rw [h.has, hlk, h.size] at e
    simp at e ⊢
    omega

theorem disk_drop {w w1 w2 : World} {p bm : Nat} {kv : Value} {ds rs : List Fl} {f : Fl} {s s' : Ds} (h : DiskAt w p bm kv (ds ++ f :: rs) s) (hk1 : Kept [p] w w1) (hc : w1.heap[p]? = some (.cells (diskCells bm kv s') 80 (0, 0))) (hs : s'.keep = s.keep)
    {D : DataW Unit} (hD : MapIs D (ds ++ f :: rs)) (ht : Tidy D) (hown : w2.ownsMap Try.prog 9 ptrE bm (ds ++ f :: rs).length (D.del (.string f.name))) (hk : Kept [bm] w1 w2) :
    DiskAt w2 p bm kv (ds ++ rs) s' ∧ Kept (feet p bm kv (ds ++ f :: rs)) w w2 ∧ Newly w (feet p bm kv (ds ++ f :: rs)) (feet p bm kv (ds ++ rs)) := by
  have h1 := h.put0 hk1 hc hs
  have hnd := h1.apart
  have hsub : ∀ x ∈ feet p bm kv (ds ++ rs), x ∈ feet p bm kv (ds ++ f :: rs) := fun x hx => (feet_perm p bm kv ds rs f).mem_iff.2 (List.mem_append.2 (.inr hx))
  have hnd2 := (feet_perm p bm kv ds rs f).nodup_iff.1 hnd
  rw [List.nodup_append] at hnd2
  have hnd3 := hnd2.2.1
  have hbm : ∀ x, x ∈ own kv ∨ x ∈ (ds ++ rs).flatMap foot → x ≠ bm := fun x hx e => by
    subst e
    unfold feet at hnd3
    rw [List.nodup_cons, List.nodup_cons] at hnd3
    exact hnd3.2.1 (List.mem_append.2 hx)
  have hpb : p ≠ bm := fun e => by
    subst e
    unfold feet at hnd3
    rw [List.nodup_cons] at hnd3
    exact hnd3.1 (by simp)
  have hmd := hD.del ht h.sorted
  have hsz : Maps.size (D.del (.string f.name)) = (ds ++ rs).length := hmd.size
  refine ⟨⟨?_, ⟨_, ?_, hmd⟩, ?_, ?_, hnd3, ?_⟩, ?_, Newly.of_sub hsub⟩
  · exact (hk.block p (h1.lt p (by simp [feet])) (by simpa using hpb)).trans h1.cells
  · obtain ⟨es, clock, hb, F, hle, hD2⟩ := hown
    refine ⟨es, clock, hb, F, ?_, hD2⟩
    rw [← hsz, hD2]
    simp [Maps.size, length_sorted]
  · intro g hg
    have hg2 : g ∈ ds ++ f :: rs := by
      rcases List.mem_append.1 hg with hg | hg
      · simp [hg]
      · simp [hg]
    exact (h1.files g hg2).kept hk (fun x hx => by simpa using hbm x (.inr (List.mem_flatMap.2 ⟨g, hg, hx⟩)))
  · exact h1.keep.kept hk (fun x hx => by simpa using hbm x (.inl hx))
  · have := h.sorted
    rw [List.pairwise_append, List.pairwise_cons] at this
    rw [List.pairwise_append]
    exact ⟨this.1, this.2.1.2, fun a ha b hb => this.2.2 a ha b (by simp [hb])⟩
  · exact (hk1.mono (fp' := feet p bm kv (ds ++ f :: rs)) (by simp [feet])).trans hk (Newly.of_sub (by simp [feet]))

/-- All files but the one of a name. -/
def delA (l : List Ab) (n : List UInt8) : List Ab := l.filter (fun y => !(y.1 == n))

theorem delA_split {a b : List Ab} {x : Ab} (h : (a ++ x :: b).Pairwise (fun f g => f.1 < g.1)) : delA (a ++ x :: b) x.1 = a ++ b := by
  rw [List.pairwise_append, List.pairwise_cons] at h
  unfold delA
  rw [List.filter_append, List.filter_cons, if_neg (by simp)]
  have e1 : a.filter (fun y => !(y.1 == x.1)) = a := List.filter_eq_self.2 fun z hz => by simpa using lt_ne (h.2.2 z hz x (by simp))
  have e2 : b.filter (fun y => !(y.1 == x.1)) = b := List.filter_eq_self.2 fun z hz => by simpa using Ne.symm (lt_ne (h.2.1.1 z hz))
  rw [e1, e2]

/-- What Remove leaves. -/
def removeA (A : List Ab × Ds) (x : Ab) : List Ab × Ds := (delA A.1 x.1, { A.2 with used := A.2.used - sec x.2.1.length })

theorem removeA_ok {a b : List Ab} {x : Ab} {s : Ds} (h : okA (a ++ x :: b) s) : okA (a ++ b) { s with used := s.used - sec x.2.1.length } := by
  have h1 := h.used
  have h2 := h.len
  have h3 := h.fits
  have h4 := sec_nonneg x.2.1.length
  rw [usedB_append, usedB_cons] at h1
  have hm : ∀ y ∈ a ++ b, y ∈ a ++ x :: b := fun y hy => by
    rcases List.mem_append.1 hy with hy | hy
    · simp [hy]
    · simp [hy]
  refine ⟨fun y hy => h.ok y (hm y hy), ?_, ?_, h.room, h.ops, ?_, h.left, h.keep, fun y hy => h.names y (hm y hy)⟩
  · rw [usedB_append]
    simp only
    omega
  · simp only
    omega
  · simp only [List.length_append, List.length_cons] at h2 ⊢
    omega

end Go.Proofs.Ytbhjdcoehgajcaa
