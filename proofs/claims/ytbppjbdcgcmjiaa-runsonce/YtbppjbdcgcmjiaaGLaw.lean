/-
  Heaps of heads, by what they have. A lemma file: no statement of the seat is proved here.
-/
import Derived.Test.YtbppjbdcgcmjiaaGPop
namespace Go.Proofs.Ytbppjbdcgcmjiaa.G
open Go.RowKit

/-- The heap in block p, of the blocks fp, has the records of S, which rises. -/
def Hp (w : World) (p : Nat) (fp : List Nat) (S : List Rc) : Prop := ∃ v l, HeapAt w p v l ∧ HeapOf l S ∧ fp = p :: own v

section
variable {w w' : World} {p : Nat} {fp : List Nat} {S : List Rc}

theorem Hp.kept {fq : List Nat} (h : Hp w p fp S) (hk : Kept fq w w') (hf : ∀ x ∈ fp, x ∉ fq) : Hp w' p fp S := by
  obtain ⟨v, l, h1, h2, rfl⟩ := h
  exact ⟨v, l, h1.kept hk (hf p (by simp)) (fun x hx => hf x (by simp [hx])), h2, rfl⟩

theorem Hp.low (h : Hp w p fp S) : ∀ x ∈ fp, x < w.heap.size := by
  obtain ⟨v, l, h1, h2, rfl⟩ := h
  intro x hx
  rcases List.mem_cons.1 hx with rfl | hx
  · exact (Array.getElem?_eq_some_iff.1 h1.cells).1
  · exact h1.row.low x hx

theorem Hp.rises (h : Hp w p fp S) : Rises S := by
  obtain ⟨v, l, h1, h2, rfl⟩ := h
  exact h2.rises

theorem Hp.ok (h : Hp w p fp S) : ∀ e ∈ S, okR e := by
  obtain ⟨v, l, h1, h2, rfl⟩ := h
  exact fun e he => h1.row.2 e (h2.perm.symm.subset he)

theorem Hp.new (w : World) : Hp (w.alloc (.cells #[.slice none 0 0, .slice none 0 0] 58)) w.heap.size [w.heap.size] [] :=
  ⟨.slice none 0 0, [], ⟨heap_alloc_new _ _, RowR.nil _, by simp [own, Value.ownBlock]⟩, HeapOf.nil, by simp [own, Value.ownBlock]⟩

theorem Hp.push (h : Hp w p fp S) (hmax : S.length ≤ 100000) (x1 x2 x3 : Int) (hx : okR (x1, x2, x3)) :
    Calls Try.prog 35 #[.pointer (some ⟨p, 0, none⟩), .agg #[.int .u64 x1, .int .u64 x2, .int .i64 x3]] w fun e w' => e = .returned (.tuple #[]) ∧
      ∃ fp', Hp w' p fp' (insR (x1, x2, x3) S) ∧ Kept fp w w' ∧ Newly w fp fp' := by
  obtain ⟨v, l, h1, h2, rfl⟩ := h
  refine (push_any h1 (by rw [h2.perm.length_eq]; exact hmax) h2.heap x1 x2 x3 hx).mono ?_
  rintro e w' ⟨rfl, v', l', h3, h4, h5, h6, h7⟩
  refine ⟨rfl, p :: own v', ⟨v', l', h3, ⟨h4, ?_, insR_rises _ h2.rises⟩, rfl⟩, h6, ?_⟩
  · refine h5.trans ((List.perm_append_singleton _ _).trans ?_)
    exact (h2.perm.cons _).trans (insR_perm _ _).symm
  · intro x hx
    rcases List.mem_cons.1 hx with rfl | hx
    · exact .inl (by simp)
    · rcases h7 x hx with h | h
      · exact .inl (by simp [h])
      · exact .inr h

theorem Hp.pop_cons {x1 x2 x3 : Int} (h : Hp w p fp ((x1, x2, x3) :: S)) (hmax : S.length ≤ 100000) :
    Calls Try.prog 36 #[.pointer (some ⟨p, 0, none⟩)] w fun e w' => e = .returned (.tuple #[.agg #[.int .u64 x1, .int .u64 x2, .int .i64 x3], .bool true]) ∧
      ∃ fp', Hp w' p fp' S ∧ Kept fp w w' ∧ Newly w fp fp' := by
  obtain ⟨v, l, h1, h2, rfl⟩ := h
  have hl := h2.perm.length_eq
  have hf := h2.first _ _ rfl
  simp only [List.length_cons] at hl
  refine (pop_some h1 (by omega) (by omega) h2.heap).mono ?_
  rintro e w' ⟨rfl, v', l', h3, h4, h5, h6, h7⟩
  rw [hf] at h5 ⊢
  refine ⟨rfl, p :: own v', ⟨v', l', h3, ⟨h4, ?_, (List.pairwise_cons.1 h2.rises).2⟩, rfl⟩, h6, ?_⟩
  · exact List.Perm.cons_inv (h5.trans h2.perm)
  · intro x hx
    rcases List.mem_cons.1 hx with rfl | hx
    · exact .inl (by simp)
    · rcases h7 x hx with h | h
      · exact .inl (by simp [h])
      · exact .inr h

theorem Hp.pop_nil (h : Hp w p fp []) :
    Calls Try.prog 36 #[.pointer (some ⟨p, 0, none⟩)] w fun e w' => e = .returned (.tuple #[.agg #[.int .u64 0, .int .u64 0, .int .i64 0], .bool false]) ∧ Kept [] w w' := by
  obtain ⟨v, l, h1, h2, rfl⟩ := h
  obtain rfl : l = [] := List.perm_nil.1 h2.perm
  exact pop_none h1

theorem Hp.peek_cons {x1 x2 x3 : Int} (h : Hp w p fp ((x1, x2, x3) :: S)) (hmax : S.length ≤ 100000) :
    Calls Try.prog 42 #[.pointer (some ⟨p, 0, none⟩)] w fun e w' => e = .returned (.tuple #[.agg #[.int .u64 x1, .int .u64 x2, .int .i64 x3], .bool true]) ∧ Kept [] w w' := by
  obtain ⟨v, l, h1, h2, rfl⟩ := h
  have hl := h2.perm.length_eq
  have hf := h2.first _ _ rfl
  simp only [List.length_cons] at hl
  have := peek_some h1 (by omega) (by omega)
  rw [hf] at this
  exact this

theorem Hp.peek_nil (h : Hp w p fp []) :
    Calls Try.prog 42 #[.pointer (some ⟨p, 0, none⟩)] w fun e w' => e = .returned (.tuple #[.agg #[.int .u64 0, .int .u64 0, .int .i64 0], .bool false]) ∧ Kept [] w w' := by
  obtain ⟨v, l, h1, h2, rfl⟩ := h
  obtain rfl : l = [] := List.perm_nil.1 h2.perm
  exact peek_none h1

end

end Go.Proofs.Ytbppjbdcgcmjiaa.G
