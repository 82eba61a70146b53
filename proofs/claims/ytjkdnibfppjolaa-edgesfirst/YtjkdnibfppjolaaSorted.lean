/-
  What edges.sorted does. A lemma file: no statement of the seat is proved here.
-/
import Derived.Test.YtjkdnibfppjolaaCmp
import Derived.Test.YtjkdnibfppjolaaDec2
namespace Go.Proofs.Ytjkdnibfppjolaa
open Go.RowKit Go.Shelf
open Go.Sort (grow putRowK putRow mapBlock HoldsK get_flatK heap_grow_old)

theorem sortWorld_below (B g n : Nat) (d : Array Ed) (os : Array Obj) (w : World) (hg : B ≤ g) (hB : B ≤ w.heap.size) : Below B w (sortWorldK encE 3 w g 0 n d os) := by
  refine ⟨rfl, rfl, rfl, ?_, fun k hk => ?_⟩
  · simp [sortWorldK, grow, putRowK, putRow, mapBlock, Sort.ahead]
  · unfold sortWorldK
    rw [heap_grow_old _ _ (by simp [putRowK, putRow, mapBlock, Sort.ahead]; omega)]
    simp only [putRowK, putRow, mapBlock, Sort.ahead]
    rw [Array.getElem?_modify, if_neg (by omega)]

theorem OwnE.holds {t B : Nat} {w : World} {g cap : Nat} {es : List Ed} (h : OwnE t B w g cap es) : HoldsK encE 3 w g 0 es.toArray := by
  intro j hj
  have hj' : j < es.length * 3 := by simpa using hj
  refine ⟨?_, h.frozenAt _⟩
  rw [get_flatK _ _ _ j (by simpa using hj')]
  have e := h.cellAt (j / 3) (j % 3) ((encE es[j / 3]!)[j % 3]!) (by omega) (by
    have h3 : j % 3 < (encE es[j / 3]!).length := by rw [encE_length]; omega
    rw [getElem!_pos (encE es[j / 3]!) (j % 3) h3, List.getElem?_eq_getElem h3])
  rw [show j / 3 * 3 + j % 3 = 0 + j by omega] at e
  rw [e]
  simp

theorem holds_isE {w : World} {g : Nat} {es : List Ed} (h : HoldsK encE 3 w g 0 es.toArray) (hok : ∀ e ∈ es, okE e) : IsE w (.slice (some ⟨g, 0, none⟩) es.length es.length) es := by
  refine ⟨_, _, rfl, Nat.le_refl _, by simp, fun x hx j hj i u hu => ?_, hok⟩
  simp only [Option.some.injEq] at hx
  subst hx
  have hi : i < 3 := by have := (List.getElem?_eq_some_iff.1 hu).1; rw [encE_length] at this; exact this
  have := (h (j * 3 + i) (by simp; omega)).1
  rw [get_flatK _ _ _ _ (by simp; omega), show (j * 3 + i) / 3 = j by omega, show (j * 3 + i) % 3 = i by omega] at this
  rw [Addr.add_lit]
  rw [this, show es.toArray[j]! = es[j]! by simp]
  have h3 : i < (encE es[j]!).length := by rw [encE_length]; exact hi
  rw [List.getElem?_eq_getElem h3] at hu
  rw [getElem!_pos (encE es[j]!) i h3]
  exact hu

theorem sortE_length (es : List Ed) : (sortE es).length = es.length := by simp [sortE]
theorem sortE_mem (es : List Ed) (e : Ed) : e ∈ sortE es ↔ e ∈ es := by simp [sortE]

/-- slices.SortFunc, as edges.sorted calls it. -/
theorem sort_any (B g cap : Nat) (es : List Ed) (w : World) (ho : OwnE 50 B w g cap es) (hB : B ≤ w.heap.size) (hl : es.length ≤ 1048576) :
    Calls Try.prog 40 #[.slice (some ⟨g, 0, none⟩) es.length cap, .func (.func 41) #[] #[]] w fun e w' => e = .returned (.tuple #[]) ∧ IsE w' (.slice (some ⟨g, 0, none⟩) es.length es.length) (sortE es) ∧ Below B w w' := by
  have eg : ∀ args w, (callFunc 41 args).run Try.prog w = .ok (.enter 41 args) w := enters_of Try.func41 (by kernel_rfl) rfl
  have hcon := AnyQ.slices_SortFunc_total Try.sortRows 3 Try.isAgg50 Try.sizeOf50 encE (fun _ => rfl) (fun x v hv => by simp [encE] at hv; rcases hv with rfl | rfl | rfl <;> rfl) cmpE swoE 41 #[] g 0 cap es.toArray w eg (cmpLays g 0 _ w) ho.holds ho.base.2 (by simp; omega) totE
  simp only [List.size_toArray] at hcon
  change Calls Try.prog 40 _ _ _ at hcon
  refine hcon.mono ?_
  rintro e w' ⟨rfl, n, os, rfl⟩
  refine ⟨rfl, ?_, sortWorld_below B g n _ os w ho.base.1 hB⟩
  have hH := holdsK_sortWorldK_c encE 3 w g 0 es.toArray (sortE es).toArray n os ho.holds ho.base.2 (by simp [sortE_length])
  have := holds_isE hH (fun e he => ho.2 e ((sortE_mem es e).1 he))
  rw [sortE_length] at this
  exact this

end Go.Proofs.Ytjkdnibfppjolaa
