/-
  slices.SortFunc by runs.order; slices.Clone of records. A lemma file: no statement of the seat is proved here.
-/
import Derived.Shelf.SlSortCmp.NoneTotal
import Derived.Test.YtbppjbdcgcmjiaaShelf
import Derived.Test.YtbppjbdcgcmjiaaQCmp
namespace Go.Proofs.Ytbppjbdcgcmjiaa
open Go.RowKit Go.Shelf Go.Sort

theorem cmpLays (blk off size : Nat) (w : World) : CmpLays Try.prog 31 #[] encR 2 cmpR blk off size w := fun _ _ _ _ x y => order_any x y _

theorem ltE (x y : Rc) : ltOf cmpR x y = ltR x y := by
  unfold ltOf
  rw [Bool.eq_iff_iff, decide_eq_true_eq]
  unfold cmpR
  by_cases h : x.1 = y.1 ∧ x.2 = y.2
  · rw [if_pos h]
    have e : x = y := Prod.ext h.1 h.2
    subst e
    rw [ltR_irr]
    simp
  · rw [if_neg h]
    split <;> simp [*]

theorem swoR : SWO (ltOf cmpR) where
  irrefl x := by rw [ltE]; exact ltR_irr x
  trans x y z h1 h2 := by
    rw [ltE] at *
    exact ltR_trans h1 h2
  ntrans x y z h1 h2 := by
    rw [ltE] at *
    exact nlt_trans h2 h1

theorem totR (x y : Rc) (h1 : ltOf cmpR x y = false) (h2 : ltOf cmpR y x = false) : x = y := by
  rw [ltE] at h1 h2
  exact (nlt_antisymm h2 h1).symm

theorem RowR.holds {w : World} {g n cap : Nat} {l : List Rc} (h : RowR w (.slice (some ⟨g, 0, none⟩) n cap) l) : HoldsK encR 2 w g 0 l.toArray := by
  intro j hj
  have hj' : j < l.length * 2 := by simpa using hj
  refine ⟨?_, h.frozenAt _⟩
  rw [get_flatK _ _ _ j (by simpa using hj')]
  have e := h.cellAt (j / 2) (j % 2) ((encR l[j / 2]!)[j % 2]!) (by omega) (by
    have h3 : j % 2 < (encR l[j / 2]!).length := by rw [encR_length]; omega
    rw [getElem!_pos (encR l[j / 2]!) (j % 2) h3, List.getElem?_eq_getElem h3])
  rw [show j / 2 * 2 + j % 2 = 0 + j by omega] at e
  rw [e]
  simp

/-- The records in order. -/
def sortC (l : List Rc) : List Rc := l.mergeSort fun x y => !(ltOf cmpR) y x

theorem sortC_eq (l : List Rc) : sortC l = sortR [] l := by
  refine Rises.unique ?_ (sortR_rises (by simp [Rises]) l) ?_
  · have := List.pairwise_mergeSort (le := fun x y => !(ltOf cmpR) y x) (fun a b c h1 h2 => by
      simp only [ltE, Bool.not_eq_true'] at *
      exact nlt_trans h1 h2) (fun a b => by
      simp only [ltE, Bool.or_eq_true, Bool.not_eq_true']
      cases h : ltR b a with
      | false => exact .inl rfl
      | true => exact .inr (nlt_of_lt h)) l
    unfold Rises sortC
    refine this.imp fun h => ?_
    simpa [ltE] using h
  · refine (List.mergeSort_perm _ _).trans ?_
    simpa using (sortR_perm [] l).symm

theorem sort_any (g cap : Nat) (l : List Rc) (w : World) (h : RowR w (.slice (some ⟨g, 0, none⟩) l.length cap) l) (hl : l.length ≤ 1048576) :
    Calls Try.prog 30 #[.slice (some ⟨g, 0, none⟩) l.length cap, .func (.func 31) #[] #[]] w fun e w' => e = .returned (.tuple #[]) ∧ RowR w' (.slice (some ⟨g, 0, none⟩) l.length cap) (sortR [] l) ∧ Kept [g] w w' := by
  have eg : ∀ args w, (callFunc 31 args).run Try.prog w = .ok (.enter 31 args) w := enters_of Try.func31 (by kernel_rfl) rfl
  have hgl : g < w.heap.size := h.low g (by simp [own, Value.ownBlock])
  have hcon := AnyQ.slices_SortFunc_total Try.sortRecs 2 Try.isAgg44 Try.sizeOf44 encR (fun _ => rfl) (fun x v hv => by simp [encR] at hv; rcases hv with rfl | rfl <;> rfl) cmpR swoR 31 #[] g 0 cap l.toArray w eg (cmpLays g 0 _ w) h.holds hgl (by simp; omega) totR
  simp only [List.size_toArray] at hcon
  change Calls Try.prog 30 _ _ _ at hcon
  refine hcon.mono ?_
  rintro e w' ⟨rfl, n, os, rfl⟩
  have hH := holdsK_sortWorldK_c encR 2 w g 0 l.toArray (sortC l).toArray n os h.holds hgl (by simp [sortC])
  have hkept : Kept [g] w (sortWorldK encR 2 w g 0 n (sortC l).toArray os) := by
    refine ⟨rfl, rfl, rfl, ?_, fun k hk hne => ?_⟩
    · simp [sortWorldK, grow, putRowK, putRow, mapBlock, Sort.ahead]
    · unfold sortWorldK
      rw [heap_grow_old _ _ (by simp [putRowK, putRow, mapBlock, Sort.ahead]; omega)]
      simp only [putRowK, putRow, mapBlock, Sort.ahead]
      rw [Array.getElem?_modify, if_neg (by simp at hne; omega)]
  refine ⟨rfl, ?_, hkept⟩
  rw [← sortC_eq]
  have hl2 : (sortC l).length = l.length := by simp [sortC]
  have hflat : (flatR (sortC l)).length = l.length * 2 := by rw [flatR_length, hl2]
  refine ⟨⟨by rw [flatR_length], ?_⟩, fun e he => h.2 e ((List.mergeSort_perm _ _).subset he)⟩
  rcases h.1.2 with ⟨e, _⟩ | ⟨g', cap', cur, e, hb, hg, hn, hm, hs, ht⟩
  · simp at e
  · simp only [Value.slice.injEq, Option.some.injEq, Addr.mk.injEq, and_true, true_and] at e
    obtain ⟨rfl, rfl⟩ := e
    have hgg : ∃ cur', (sortWorldK encR 2 w g 0 n (sortC l).toArray os).heap[g]? = some (.cells cur' 44 (0, 0)) ∧ cur'.size = cur.size := by
      have e1 : (sortWorldK encR 2 w g 0 n (sortC l).toArray os).heap[g]? = (putRowK encR 2 (Sort.ahead w n) g 0 (sortC l).toArray).heap[g]? := by
        unfold sortWorldK
        exact Go.Sort.heap_grow_old _ _ (by simpa [putRowK, putRow, mapBlock, Sort.ahead] using hgl)
      rw [e1]
      simp only [putRowK, putRow, mapBlock, Sort.ahead]
      rw [Array.getElem?_modify, if_pos rfl, hg]
      exact ⟨_, rfl, by simp [putCells]⟩
    obtain ⟨cur', hg', hs'⟩ := hgg
    refine .inr ⟨g, cap, cur', by rw [hl2], hb, hg', by rw [hl2]; exact hn, hm, by rw [hs']; exact hs, ?_⟩
    rw [hl2]
    apply List.ext_getElem?
    intro j
    by_cases hj : j < l.length * 2
    · rw [List.getElem?_take_of_lt hj]
      have := (hH j (by simp; rw [hl2]; exact hj)).1
      rw [get_flatK _ _ _ _ (by simp; rw [hl2]; exact hj), Nat.zero_add, cell_of_heap hg'] at this
      have hR := flatR_at (sortC l) (j / 2) (j % 2) (by rw [hl2]; omega) (by omega)
      rw [show j / 2 * 2 + j % 2 = j by omega] at hR
      have h3 : j % 2 < (encR (sortC l)[j / 2]!).length := by rw [encR_length]; omega
      have e4 : (sortC l).toArray[j / 2]! = (sortC l)[j / 2]! := by simp
      rw [Array.getElem?_toList, this, hR, e4, List.getElem?_eq_getElem h3, getElem!_pos (encR (sortC l)[j / 2]!) (j % 2) h3]
      rfl
    · rw [List.getElem?_take_eq_none (by omega), List.getElem?_eq_none (by omega)]

end Go.Proofs.Ytbppjbdcgcmjiaa
