/-
  Heaps of a law's own, by what they have. A lemma file: no statement of the seat is proved here.
-/
import Derived.Test.YthlhjlmhdhhkaaaHRef
import Derived.Deep.SlicePairs
import Derived.ProofKit
import Derived.OpenShut
namespace Go.Proofs.Ythlhjlmhdhhkaaa
open Go.RowKit Go.ChangeShapes Go.WideShapes Go.ChangeAt

/-- The heap in block p, of the blocks fp, has the records of S, which rises. -/
def Hp (w : World) (p : Nat) (fp : List Nat) (S : List Rc) : Prop := ∃ v l, HeapAt w p v l ∧ HeapOf l S ∧ fp = p :: own v

section
variable {w w' : World} {p : Nat} {fp : List Nat} {S : List Rc}

theorem Hp.kept {fq : List Nat} (h : Hp w p fp S) (hk : Kept fq w w') (hf : ∀ x ∈ fp, x ∉ fq) : Hp w' p fp S := by
  obtain ⟨v, l, h1, h2, rfl⟩ := h
  exact ⟨v, l, h1.kept hk (hf p (by simp)) (fun x hx => hf x (by simp [hx])), h2, rfl⟩

theorem Hp.low (h : Hp w p fp S) : ∀ x ∈ fp, x < w.heap.size := by
  obtain ⟨v, l, h1, h2, rfl⟩ := h
  intro x hx
  rcases List.mem_cons.1 hx with rfl | hx
  · exact (Array.getElem?_eq_some_iff.1 h1.cells).1
  · exact h1.row.low x hx

theorem Hp.rises (h : Hp w p fp S) : Rises S := by
  obtain ⟨v, l, h1, h2, rfl⟩ := h
  exact h2.rises

theorem Hp.ok (h : Hp w p fp S) : ∀ e ∈ S, okR e := by
  obtain ⟨v, l, h1, h2, rfl⟩ := h
  exact fun e he => h1.row.2 e (h2.perm.symm.subset he)

theorem Hp.new (w : World) : Hp (w.alloc (.cells #[.slice none 0 0, .slice none 0 0] 27)) w.heap.size [w.heap.size] [] :=
  ⟨.slice none 0 0, [], ⟨heap_alloc_new _ _, RowR.nil _, by simp [own, Value.ownBlock]⟩, HeapOf.nil, by simp [own, Value.ownBlock]⟩

theorem Hp.push (h : Hp w p fp S) (hmax : S.length ≤ 100000) (x1 x2 : Int) (hx : okR (x1, x2)) :
    Calls Try.prog 10 #[.pointer (some ⟨p, 0, none⟩), .agg #[.int .u64 x1, .int .u64 x2]] w fun e w' => e = .returned (.tuple #[]) ∧
      ∃ fp', Hp w' p fp' (insR (x1, x2) S) ∧ Kept fp w w' ∧ Newly w fp fp' := by
  obtain ⟨v, l, h1, h2, rfl⟩ := h
  refine (push_any h1 (by rw [h2.perm.length_eq]; exact hmax) h2.heap x1 x2 hx).mono ?_
  rintro e w' ⟨rfl, v', l', h3, h4, h5, h6, h7⟩
  refine ⟨rfl, p :: own v', ⟨v', l', h3, ⟨h4, ?_, insR_rises _ h2.rises⟩, rfl⟩, h6, ?_⟩
  · refine h5.trans ((List.perm_append_singleton _ _).trans ?_)
    exact (h2.perm.cons _).trans (insR_perm _ _).symm
  · intro x hx
    rcases List.mem_cons.1 hx with rfl | hx
    · exact .inl (by simp)
    · rcases h7 x hx with h | h
      · exact .inl (by simp [h])
      · exact .inr h

theorem Hp.pop_cons {x1 x2 : Int} (h : Hp w p fp ((x1, x2) :: S)) (hmax : S.length ≤ 100000) :
    Calls Try.prog 9 #[.pointer (some ⟨p, 0, none⟩)] w fun e w' => e = .returned (.tuple #[.agg #[.int .u64 x1, .int .u64 x2], .bool true]) ∧
      ∃ fp', Hp w' p fp' S ∧ Kept fp w w' ∧ Newly w fp fp' := by
  obtain ⟨v, l, h1, h2, rfl⟩ := h
  have hl := h2.perm.length_eq
  have hf := h2.first _ _ rfl
  simp only [List.length_cons] at hl
  refine (pop_some h1 (by omega) (by omega) h2.heap).mono ?_
  rintro e w' ⟨rfl, v', l', h3, h4, h5, h6, h7⟩
  rw [hf] at h5 ⊢
  refine ⟨rfl, p :: own v', ⟨v', l', h3, ⟨h4, ?_, (List.pairwise_cons.1 h2.rises).2⟩, rfl⟩, h6, ?_⟩
  · exact List.Perm.cons_inv (h5.trans h2.perm)
  · intro x hx
    rcases List.mem_cons.1 hx with rfl | hx
    · exact .inl (by simp)
    · rcases h7 x hx with h | h
      · exact .inl (by simp [h])
      · exact .inr h

theorem Hp.pop_nil (h : Hp w p fp []) :
    Calls Try.prog 9 #[.pointer (some ⟨p, 0, none⟩)] w fun e w' => e = .returned (.tuple #[.agg #[.int .u64 0, .int .u64 0], .bool false]) ∧ Kept [] w w' := by
  obtain ⟨v, l, h1, h2, rfl⟩ := h
  obtain rfl : l = [] := List.perm_nil.1 h2.perm
  exact pop_none h1

theorem Hp.peek_cons {x1 x2 : Int} (h : Hp w p fp ((x1, x2) :: S)) (hmax : S.length ≤ 100000) :
    Calls Try.prog 12 #[.pointer (some ⟨p, 0, none⟩)] w fun e w' => e = .returned (.tuple #[.agg #[.int .u64 x1, .int .u64 x2], .bool true]) ∧ Kept [] w w' := by
  obtain ⟨v, l, h1, h2, rfl⟩ := h
  have hl := h2.perm.length_eq
  have hf := h2.first _ _ rfl
  simp only [List.length_cons] at hl
  have := peek_some h1 (by omega) (by omega)
  rw [hf] at this
  exact this

theorem Hp.peek_nil (h : Hp w p fp []) :
    Calls Try.prog 12 #[.pointer (some ⟨p, 0, none⟩)] w fun e w' => e = .returned (.tuple #[.agg #[.int .u64 0, .int .u64 0], .bool false]) ∧ Kept [] w w' := by
  obtain ⟨v, l, h1, h2, rfl⟩ := h
  obtain rfl : l = [] := List.perm_nil.1 h2.perm
  exact peek_none h1

theorem Hp.len (h : Hp w p fp S) (hmax : S.length ≤ 100000) :
    Calls Try.prog 13 #[.pointer (some ⟨p, 0, none⟩)] w fun e w' => e = .returned (.int .i64 S.length) ∧ Kept [] w w' := by
  obtain ⟨v, l, h1, h2, rfl⟩ := h
  have hl := h2.perm.length_eq
  have := len_any h1 (by omega)
  rw [hl] at this
  exact this
end

/-- Records in boxes of their own. -/
abbrev Bx := List (Nat × Rc)
/-- They hold what is said. -/
def Boxes (w : World) (hs : Bx) : Prop := ∀ e ∈ hs, w.heap[e.1]? = some (.cells #[.int .u64 e.2.1, .int .u64 e.2.2] 30 (0, 0))

/-- A heap of a law's own, the blocks fq of another one, a row of records and boxes beside them. -/
structure Hz (w0 w : World) (fp fq : List Nat) (hs : Bx) (p : Nat) (S : List Rc) (ov : Value) (R : List Rc) : Prop where
  heap : Hp w p fp S
  row : IsR w ov R
  below : Below w0.heap.size w0 w
  new : ∀ b ∈ fp, w0.heap.size ≤ b
  newq : ∀ b ∈ fq, w0.heap.size ≤ b
  lowq : ∀ b ∈ fq, b < w.heap.size
  apart : ∀ b ∈ fq, b ∉ fp
  lowR : ∀ b ∈ own ov, b < w.heap.size
  apartP : ∀ b ∈ own ov, b ∉ fp
  apartQ : ∀ b ∈ own ov, b ∉ fq
  box : Boxes w hs
  boxP : ∀ e ∈ hs, e.1 ∉ fp
  boxQ : ∀ e ∈ hs, e.1 ∉ fq

section
variable {w0 w w' : World} {p : Nat} {fp fq : List Nat} {S R : List Rc} {ov : Value} {hs : Bx}

theorem Boxes.low (h : Boxes w hs) : ∀ e ∈ hs, e.1 < w.heap.size := fun e he => (Array.getElem?_eq_some_iff.1 (h e he)).1

/-- What an operation of the heap leaves. -/
theorem Hz.next (h : Hz w0 w fp fq hs p S ov R) {fp' : List Nat} {S' : List Rc} (h' : Hp w' p fp' S') (hk : Kept fp w w') (hn : Newly w fp fp') : Hz w0 w' fp' fq hs p S' ov R := by
  refine ⟨h', h.row.kept hk h.apartP, h.below.trans (hk.below h.below.size h.new), fun b hb => ?_, h.newq, fun b hb => Nat.lt_of_lt_of_le (h.lowq b hb) hk.size, fun b hb hb' => ?_, fun b hb => Nat.lt_of_lt_of_le (h.lowR b hb) hk.size, fun b hb hb' => ?_, h.apartQ, fun e he => hk.heap (h.box e he) (h.boxP e he), fun e he hb' => ?_, h.boxQ⟩
  · rcases hn b hb with h1 | h1
    · exact h.new b h1
    · have := h.below.size
      omega
  · rcases hn b hb' with h1 | h1
    · exact h.apart b hb h1
    · have := h.lowq b hb
      omega
  · rcases hn b hb' with h1 | h1
    · exact h.apartP b hb h1
    · have := h.lowR b hb
      omega
  · rcases hn e.1 hb' with h1 | h1
    · exact h.boxP e he h1
    · have := h.box.low e he
      omega

theorem Hz.stay (h : Hz w0 w fp fq hs p S ov R) (hk : Kept [] w w') : Hz w0 w' fp fq hs p S ov R :=
  h.next (h.heap.kept hk (fun _ _ => by simp)) (hk.mono (by simp)) (Newly.refl _ _)

/-- Another row beside the heap. -/
theorem Hz.other (h : Hz w0 w fp fq hs p S ov R) {ov' : Value} {R' : List Rc} (hr : IsR w ov' R') (hl : ∀ b ∈ own ov', b < w.heap.size) (h1 : ∀ b ∈ own ov', b ∉ fp) (h2 : ∀ b ∈ own ov', b ∉ fq) : Hz w0 w fp fq hs p S ov' R' :=
  ⟨h.heap, hr, h.below, h.new, h.newq, h.lowq, h.apart, hl, h1, h2, h.box, h.boxP, h.boxQ⟩

/-- A record is laid in a box. -/
theorem Hz.boxed (h : Hz w0 w fp fq hs p S ov R) (x1 x2 : Int) : Hz w0 (w.alloc (.cells #[.int .u64 x1, .int .u64 x2] 30)) fp fq ((w.heap.size, (x1, x2)) :: hs) p S ov R := by
  have h' := h.stay ((Kept.refl [] w).alloc (.cells #[.int .u64 x1, .int .u64 x2] 30))
  refine ⟨h'.heap, h'.row, h'.below, h'.new, h'.newq, h'.lowq, h'.apart, h'.lowR, h'.apartP, h'.apartQ, ?_, ?_, ?_⟩
  · intro e he
    rcases List.mem_cons.1 he with rfl | he
    · exact heap_alloc_new _ _
    · exact h'.box e he
  · intro e he hb
    rcases List.mem_cons.1 he with rfl | he
    · exact Nat.lt_irrefl _ (h.heap.low _ hb)
    · exact h'.boxP e he hb
  · intro e he hb
    rcases List.mem_cons.1 he with rfl | he
    · exact Nat.lt_irrefl _ (h.lowq _ hb)
    · exact h'.boxQ e he hb

theorem Hz.fewer (h : Hz w0 w fp fq hs p S ov R) {hs' : Bx} (hf : ∀ e ∈ hs', e ∈ hs) : Hz w0 w fp fq hs' p S ov R :=
  ⟨h.heap, h.row, h.below, h.new, h.newq, h.lowq, h.apart, h.lowR, h.apartP, h.apartQ, fun e he => h.box e (hf e he), fun e he => h.boxP e (hf e he), fun e he => h.boxQ e (hf e he)⟩

theorem Hz.put (h : Hz w0 w fp fq hs p S ov R) (hr : Rises R) (hmax : R.length ≤ 100000) (x1 x2 : Int) (hx : okR (x1, x2)) :
    Calls Try.prog 11 #[ov, .agg #[.int .u64 x1, .int .u64 x2]] w fun e w' => ∃ ov', e = .returned ov' ∧ Hz w0 w' fp fq hs p S ov' (insR (x1, x2) R) ∧ Kept [] w w' := by
  refine (refPut_any h.row hr hmax x1 x2 hx).mono ?_
  rintro e w' ⟨v', rfl, r', b', n'⟩
  have k' : Kept [] w w' := Kept.of_below b'
  refine ⟨v', rfl, (h.stay k').other r'.isR r'.low (fun b hb hb' => ?_) (fun b hb hb' => ?_), k'⟩
  · have := n' b hb
    have := h.heap.low b hb'
    omega
  · have := n' b hb
    have := h.lowq b hb'
    omega

/-- The row without its first. -/
theorem IsR.tail {b off n cap : Nat} {x : Rc} {l : List Rc} (h : IsR w (.slice (some ⟨b, off, none⟩) n cap) (x :: l)) : IsR w (.slice (some ⟨b, off + 2, none⟩) (n - 1) (cap - 1)) l := by
  obtain ⟨a, c, e, h1, h2, h3, h4⟩ := h
  simp only [Value.slice.injEq] at e
  obtain ⟨rfl, rfl, rfl⟩ := e
  simp only [List.length_cons] at h1
  refine ⟨some ⟨b, off + 2, none⟩, cap - 1, by simp, by omega, by simp, fun y hy j u hu => ?_, fun e he => h4 e (by simp [he])⟩
  simp only [Option.some.injEq] at hy
  subst hy
  have := h3 _ rfl (2 + j) u (by rw [flatR_cons, List.getElem?_append_right (by rw [encR_length]; omega), encR_length, Nat.add_sub_cancel_left]; exact hu)
  rw [Addr.add_lit] at this ⊢
  rw [← this, Nat.add_assoc]

theorem IsR.opened {v : Value} {l : List Rc} (h : IsR w v l) (h0 : 0 < l.length) : ∃ b off cap, v = .slice (some ⟨b, off, none⟩) l.length cap ∧ l.length ≤ cap ∧
    ∀ j, j < l.length → w.cell? ⟨b, off + j * 2, none⟩ = some (.int .u64 l[j]!.1) ∧ w.cell? ⟨b, off + j * 2 + 1, none⟩ = some (.int .u64 l[j]!.2) := by
  obtain ⟨a, cap, rfl, h1, h2, h3, h4⟩ := h
  cases a with
  | none => rw [(h2 rfl).1] at h0; simp at h0
  | some x =>
    obtain ⟨b, off, spot⟩ := x
    have hc := h3 _ rfl 0 (.int .u64 l[0]!.1) (by have := flatR_at l 0 0 h0 (by omega); simpa [encR] using this)
    have hspot : spot = none := by simpa [Addr.add] using World.cell?_spot hc
    subst hspot
    refine ⟨b, off, cap, rfl, h1, fun j hj => ?_⟩
    have e1 := h3 _ rfl (j * 2 + 0) (.int .u64 l[j]!.1) (by rw [flatR_at l j 0 hj (by omega)]; rfl)
    have e2 := h3 _ rfl (j * 2 + 1) (.int .u64 l[j]!.2) (by rw [flatR_at l j 1 hj (by omega)]; rfl)
    rw [Addr.add_lit] at e1 e2
    exact ⟨e1, e2⟩

theorem IsR.okAt {v : Value} {l : List Rc} (h : IsR w v l) (j : Nat) (hj : j < l.length) : okR l[j]! := by
  obtain ⟨a, cap, rfl, h1, h2, h3, h4⟩ := h
  rw [getElem!_pos l j hj]
  exact h4 _ (List.getElem_mem hj)

theorem IsR.low {v : Value} {l : List Rc} (h : IsR w v l) (h0 : 0 < l.length) : ∀ b ∈ own v, b < w.heap.size := by
  obtain ⟨b, off, cap, rfl, _, hc⟩ := h.opened h0
  intro x hx
  simp [own, Value.ownBlock] at hx
  subst hx
  exact World.block_lt_of_cell? w _ (hc 0 h0).1
end

/-- The slice v holds these truths. -/
def IsK (w : World) (v : Value) (ks : List Bool) : Prop :=
  ∃ (a : Option Addr) (cap : Nat), v = .slice a ks.length cap ∧ ks.length ≤ cap ∧ (a = none → ks = [] ∧ cap = 0) ∧ ∀ x, a = some x → ∀ j, j < ks.length → w.cell? (x.add j) = some (.bool (ks[j]?.getD false))
theorem IsK.nil (w : World) : IsK w (.slice none 0 0) [] := ⟨none, 0, rfl, Nat.le_refl _, fun _ => ⟨rfl, rfl⟩, by simp⟩
theorem IsK.below {w w' : World} {v : Value} {ks : List Bool} (h : IsK w v ks) (hb : Below w.heap.size w w') : IsK w' v ks := by
  obtain ⟨a, cap, rfl, h1, h2, h3⟩ := h
  refine ⟨a, cap, rfl, h1, h2, fun x hx j hj => ?_⟩
  have h := h3 x hx j hj
  rw [World.cell?_of_block (w := w) (hb.block _ (World.block_lt_of_cell? w _ h))]
  exact h

/-- A slice of records that came in. -/
theorem recsIn {H : Type} {enc : TypeId × Value → H} {W : World} {base : Nat} {spare : Nat → Bool} {held : Bool} {fuel : Nat} {cs : List Value} {x : DataW H × List MemPlace}
    (h : DataW.trod enc Try.prog W base spare held fuel 22 cs = some x) : ∃ a len cap es, cs = [.slice a len cap] ∧ IsR W (.slice a len cap) es ∧ es.length = len ∧ len ≤ maxLen := by
  rcases Go.Deep.open_slice_pairs Try.underlying22 Try.underlying30 (by kernel_rfl) rfl rfl (by kernel_rfl) (by kernel_rfl) h with ⟨rfl, _⟩ | ⟨a, len, cap, m, n, V0, V1, D0, D1, P0, P1, rfl, hb, hl, hm, hmm, _, hx⟩
  · exact ⟨none, 0, 0, [], rfl, ⟨none, 0, rfl, Nat.le_refl _, fun _ => ⟨rfl, rfl⟩, by simp, by simp⟩, rfl, by unfold maxLen; omega⟩
  · have hlm : len ≤ m := by rw [hmm]; split <;> omega
    obtain ⟨E, hE⟩ := Go.Deep.choose_lt (α := Rc) (n := len) (p := fun i e => W.cell? (a.add (i * 2)) = some (.int .u64 e.1) ∧ W.cell? (a.add (i * 2 + 1)) = some (.int .u64 e.2) ∧ okR e) (fun i hi => by
      obtain ⟨h1, h2, h3, h4⟩ := hx i (by omega)
      obtain ⟨z, e0, _, wz⟩ := DataW.trod_int Try.underlying28 h3
      obtain ⟨s, e1, _, ws⟩ := DataW.trod_int Try.underlying28 h4
      simp only [List.cons.injEq, and_true] at e0 e1
      rw [e0] at h1
      rw [e1] at h2
      have b1 := bounds_u64 wz
      have b2 := bounds_u64 ws
      exact ⟨(z, s), h1, h2, ⟨by omega, by omega⟩⟩)
    have hlen : ((List.range len).map E).length = len := by simp
    refine ⟨some a, len, cap, (List.range len).map E, rfl, ⟨some a, cap, by rw [hlen], by rw [hlen]; exact hl, by simp, fun x hx j u hu => ?_, fun e he => ?_⟩, hlen, by omega⟩
    · simp only [Option.some.injEq] at hx
      subst hx
      have hj : j < len * 2 := by have := (List.getElem?_eq_some_iff.1 hu).1; rw [flatR_length, hlen] at this; exact this
      have e := flatR_at ((List.range len).map E) (j / 2) (j % 2) (by rw [hlen]; omega) (by omega)
      rw [show j / 2 * 2 + j % 2 = j by omega, hu] at e
      have e1 : ((List.range len).map E)[j / 2]! = E (j / 2) := by rw [getElem!_pos _ (j / 2) (by rw [hlen]; omega)]; simp
      rw [e1] at e
      obtain ⟨q1, q2, _⟩ := hE (j / 2) (by omega)
      rcases (by omega : j % 2 = 0 ∨ j % 2 = 1) with h0 | h0
      · rw [h0] at e
        rw [show j / 2 * 2 = j by omega] at q1
        simp [encR] at e
        rw [q1, e]
      · rw [h0] at e
        rw [show j / 2 * 2 + 1 = j by omega] at q2
        simp [encR] at e
        rw [q2, e]
    · simp only [List.mem_map, List.mem_range] at he
      obtain ⟨i, hi, rfl⟩ := he
      exact (hE i hi).2.2

end Go.Proofs.Ythlhjlmhdhhkaaa
