/-
  A heap of a law's own, a row beside it; two heaps; what is shown in any case. A lemma file: no statement of the seat is proved here.
-/
import Derived.Test.YthlhjlmhdhhkaaaHLaw
namespace Go.Proofs.Ythlhjlmhdhhkaaa
open Go.RowKit

/-- One heap, a row beside it. -/
def H1 (w0 w : World) (hs : Bx) (p : Nat) (S : List Rc) (ov : Value) (R : List Rc) : Prop := ∃ fp, Hz w0 w fp [] hs p S ov R
/-- Two heaps, a row beside them. -/
def H2 (w0 w : World) (hs : Bx) (p : Nat) (S : List Rc) (q : Nat) (T : List Rc) (ov : Value) (R : List Rc) : Prop := ∃ fp fq, Hz w0 w fp fq hs p S ov R ∧ Hp w q fq T

section
variable {w0 w w' : World} {p q : Nat} {S T R : List Rc} {ov : Value} {hs : Bx}

theorem H1.below (h : H1 w0 w hs p S ov R) : Below w0.heap.size w0 w := by
  obtain ⟨fp, h⟩ := h
  exact h.below
theorem H1.row (h : H1 w0 w hs p S ov R) : IsR w ov R := by
  obtain ⟨fp, h⟩ := h
  exact h.row
theorem H1.rises (h : H1 w0 w hs p S ov R) : Rises S := by
  obtain ⟨fp, h⟩ := h
  exact h.heap.rises
theorem H1.ok (h : H1 w0 w hs p S ov R) : ∀ e ∈ S, okR e := by
  obtain ⟨fp, h⟩ := h
  exact h.heap.ok
theorem H1.stay (h : H1 w0 w hs p S ov R) (hk : Kept [] w w') : H1 w0 w' hs p S ov R := by
  obtain ⟨fp, h⟩ := h
  exact ⟨fp, h.stay hk⟩
theorem H1.drewN (h : H1 w0 w hs p S ov R) (n : Nat) : H1 w0 (w.drewN n) hs p S ov R := h.stay ((Kept.refl _ _).drewN n)

theorem H1.boxed (h : H1 w0 w hs p S ov R) (x1 x2 : Int) : H1 w0 (w.alloc (.cells #[.int .u64 x1, .int .u64 x2] 30)) ((w.heap.size, (x1, x2)) :: hs) p S ov R := by
  obtain ⟨fp, h⟩ := h
  exact ⟨fp, h.boxed x1 x2⟩
theorem H1.fewer (h : H1 w0 w hs p S ov R) {hs' : Bx} (hf : ∀ e ∈ hs', e ∈ hs) : H1 w0 w hs' p S ov R := by
  obtain ⟨fp, h⟩ := h
  exact ⟨fp, h.fewer hf⟩
/-- The cells of a box. -/
theorem H1.at_ (h : H1 w0 w hs p S ov R) {b : Nat} {x1 x2 : Int} (hb : (b, (x1, x2)) ∈ hs) : w.cell? ⟨b, 0, none⟩ = some (.int .u64 x1) ∧ w.cell? ⟨b, 1, none⟩ = some (.int .u64 x2) := by
  obtain ⟨fp, h⟩ := h
  have e := h.box _ hb
  exact ⟨cell_of_heap e 0, cell_of_heap e 1⟩

/-- A new heap, behind whatever was done ahead of it. -/
theorem H1.new (hb : Below w0.heap.size w0 w) : H1 w0 (w.alloc (.cells #[.slice none 0 0, .slice none 0 0] 27)) [] w.heap.size [] (.slice none 0 0) [] := by
  refine ⟨[w.heap.size], Hp.new w, ⟨none, 0, rfl, Nat.le_refl _, fun _ => ⟨rfl, rfl⟩, by simp, by simp⟩, hb.alloc hb.size _, ?_, by simp, by simp, by simp, by simp [own, Value.ownBlock], by simp [own, Value.ownBlock], by simp [own, Value.ownBlock], by simp [Boxes], by simp, by simp⟩
  intro b hb'
  simp at hb'
  subst hb'
  exact hb.size

theorem H1.push (h : H1 w0 w hs p S ov R) (hmax : S.length ≤ 100000) (x1 x2 : Int) (hx : okR (x1, x2)) :
    Calls Try.prog 10 #[.pointer (some ⟨p, 0, none⟩), .agg #[.int .u64 x1, .int .u64 x2]] w fun e w' => e = .returned (.tuple #[]) ∧ H1 w0 w' hs p (insR (x1, x2) S) ov R := by
  obtain ⟨fp, h⟩ := h
  refine (h.heap.push hmax x1 x2 hx).mono ?_
  rintro e w' ⟨rfl, fp', h1, h2, h3⟩
  exact ⟨rfl, fp', h.next h1 h2 h3⟩

theorem H1.pop_cons {x1 x2 : Int} (h : H1 w0 w hs p ((x1, x2) :: S) ov R) (hmax : S.length ≤ 100000) :
    Calls Try.prog 9 #[.pointer (some ⟨p, 0, none⟩)] w fun e w' => e = .returned (.tuple #[.agg #[.int .u64 x1, .int .u64 x2], .bool true]) ∧ H1 w0 w' hs p S ov R := by
  obtain ⟨fp, h⟩ := h
  refine (h.heap.pop_cons hmax).mono ?_
  rintro e w' ⟨rfl, fp', h1, h2, h3⟩
  exact ⟨rfl, fp', h.next h1 h2 h3⟩

theorem H1.pop_nil (h : H1 w0 w hs p [] ov R) :
    Calls Try.prog 9 #[.pointer (some ⟨p, 0, none⟩)] w fun e w' => e = .returned (.tuple #[.agg #[.int .u64 0, .int .u64 0], .bool false]) ∧ H1 w0 w' hs p [] ov R := by
  have h0 := h
  obtain ⟨fp, h⟩ := h
  refine h.heap.pop_nil.mono ?_
  rintro e w' ⟨rfl, h1⟩
  exact ⟨rfl, h0.stay h1⟩

theorem H1.peek_cons {x1 x2 : Int} (h : H1 w0 w hs p ((x1, x2) :: S) ov R) (hmax : S.length ≤ 100000) :
    Calls Try.prog 12 #[.pointer (some ⟨p, 0, none⟩)] w fun e w' => e = .returned (.tuple #[.agg #[.int .u64 x1, .int .u64 x2], .bool true]) ∧ H1 w0 w' hs p ((x1, x2) :: S) ov R := by
  have h0 := h
  obtain ⟨fp, h⟩ := h
  refine (h.heap.peek_cons hmax).mono ?_
  rintro e w' ⟨rfl, h1⟩
  exact ⟨rfl, h0.stay h1⟩

theorem H1.peek_nil (h : H1 w0 w hs p [] ov R) :
    Calls Try.prog 12 #[.pointer (some ⟨p, 0, none⟩)] w fun e w' => e = .returned (.tuple #[.agg #[.int .u64 0, .int .u64 0], .bool false]) ∧ H1 w0 w' hs p [] ov R := by
  have h0 := h
  obtain ⟨fp, h⟩ := h
  refine h.heap.peek_nil.mono ?_
  rintro e w' ⟨rfl, h1⟩
  exact ⟨rfl, h0.stay h1⟩

theorem H1.len (h : H1 w0 w hs p S ov R) (hmax : S.length ≤ 100000) :
    Calls Try.prog 13 #[.pointer (some ⟨p, 0, none⟩)] w fun e w' => e = .returned (.int .i64 S.length) ∧ H1 w0 w' hs p S ov R := by
  have h0 := h
  obtain ⟨fp, h⟩ := h
  refine (h.heap.len hmax).mono ?_
  rintro e w' ⟨rfl, h1⟩
  exact ⟨rfl, h0.stay h1⟩

theorem H1.lenN (h : H1 w0 w hs p S ov R) (n : Nat) (hn : S.length = n) (hmax : n ≤ 100000) :
    Calls Try.prog 13 #[.pointer (some ⟨p, 0, none⟩)] w fun e w' => e = .returned (.int .i64 n) ∧ H1 w0 w' hs p S ov R := by
  subst hn
  exact h.len hmax

theorem H1.lenQ (h : H1 w0 w hs p S ov R) (n : Nat) (hn : S.length = n) (hmax : n ≤ 100000) (m0 : Nat) :
    Calls Try.prog 13 #[.pointer (some ⟨p, 0, none⟩)] (w.drewN m0) fun e w' => e = .returned (.int .i64 n) ∧ ∃ m, w' = (w.drewN m0).drewN m := by
  obtain ⟨fp, h⟩ := h.drewN m0
  obtain ⟨v, l, h1, h2, rfl⟩ := h.heap
  have hl := h2.perm.length_eq
  have := len_quiet h1 (by omega)
  rw [hl, hn] at this
  exact this

theorem H1.put (h : H1 w0 w hs p S ov R) (hr : Rises R) (hmax : R.length ≤ 100000) (x1 x2 : Int) (hx : okR (x1, x2)) :
    Calls Try.prog 11 #[ov, .agg #[.int .u64 x1, .int .u64 x2]] w fun e w' => ∃ ov', e = .returned ov' ∧ H1 w0 w' hs p S ov' (insR (x1, x2) R) := by
  obtain ⟨fp, h⟩ := h
  refine (h.put hr hmax x1 x2 hx).mono ?_
  rintro e w' ⟨ov', rfl, h1, h2⟩
  exact ⟨ov', rfl, fp, h1⟩

/-- 'own = own[1:]'. -/
theorem H1.tail {b off n cap : Nat} {x : Rc} (h : H1 w0 w hs p S (.slice (some ⟨b, off, none⟩) n cap) (x :: R)) : H1 w0 w hs p S (.slice (some ⟨b, off + 2, none⟩) (n - 1) (cap - 1)) R := by
  obtain ⟨fp, h⟩ := h
  exact ⟨fp, h.other h.row.tail h.lowR h.apartP h.apartQ⟩
theorem H1.tail0 {b off n cap : Nat} {x : Rc} (h : H1 w0 w hs p S (.slice (some ⟨b, off, none⟩) n cap) [x]) : H1 w0 w hs p S (.slice (some ⟨b, off, none⟩) 0 0) [] := by
  obtain ⟨fp, h⟩ := h
  refine ⟨fp, h.other ⟨some ⟨b, off, none⟩, 0, rfl, Nat.le_refl _, by simp, ?_, by simp⟩ h.lowR h.apartP h.apartQ⟩
  intro y hy j u hu
  simp [flatR] at hu

/-- A box is written. -/
theorem Hz.setbox {fp fq : List Nat} {b : Nat} {y : Rc} (h : Hz w0 w fp fq [(b, y)] p S ov R) (hb : b ∉ own ov) (hn : w0.heap.size ≤ b) (x1 x2 : Int) : Hz w0 ((w.setCell ⟨b, 0, none⟩ (.int .u64 x1)).setCell ⟨b, 1, none⟩ (.int .u64 x2)) fp fq [(b, (x1, x2))] p S ov R := by
  have hk : Kept [b] w ((w.setCell ⟨b, 0, none⟩ (.int .u64 x1)).setCell ⟨b, 1, none⟩ (.int .u64 x2)) := ((Kept.refl _ _).setCell (.inl (by simp)) _).setCell (.inl (by simp)) _
  have hp := h.boxP _ (List.mem_singleton.2 rfl)
  have hq := h.boxQ _ (List.mem_singleton.2 rfl)
  refine ⟨h.heap.kept hk (fun x hx e => ?_), h.row.kept hk (fun x hx e => ?_), h.below.trans (hk.below h.below.size (by simpa using hn)), h.new, h.newq, fun x hx => Nat.lt_of_lt_of_le (h.lowq x hx) hk.size, h.apart, fun x hx => Nat.lt_of_lt_of_le (h.lowR x hx) hk.size, h.apartP, h.apartQ, ?_, ?_, ?_⟩
  · simp at e
    exact hp (e ▸ hx)
  · simp at e
    exact hb (e ▸ hx)
  · intro e he
    simp at he
    subst he
    exact heap_setCell (heap_setCell (h.box _ (List.mem_singleton.2 rfl)) 0 _) 1 _
  · intro e he
    simp at he
    subst he
    exact hp
  · intro e he
    simp at he
    subst he
    exact hq

/-! ### Two heaps -/

theorem Hz.swap {fp fq : List Nat} (h : Hz w0 w fp fq hs p S ov R) (h2 : Hp w q fq T) : Hz w0 w fq fp hs q T ov R :=
  ⟨h2, h.row, h.below, h.newq, h.new, h.heap.low, fun b hb hb' => h.apart b hb' hb, h.lowR, h.apartQ, h.apartP, h.box, h.boxQ, h.boxP⟩
theorem H2.swap (h : H2 w0 w hs p S q T ov R) : H2 w0 w hs q T p S ov R := by
  obtain ⟨fp, fq, h1, h2⟩ := h
  exact ⟨fq, fp, h1.swap h2, h1.heap⟩
theorem H2.below (h : H2 w0 w hs p S q T ov R) : Below w0.heap.size w0 w := by
  obtain ⟨fp, fq, h1, h2⟩ := h
  exact h1.below
theorem H2.row (h : H2 w0 w hs p S q T ov R) : IsR w ov R := by
  obtain ⟨fp, fq, h1, h2⟩ := h
  exact h1.row
theorem H2.rises (h : H2 w0 w hs p S q T ov R) : Rises S := by
  obtain ⟨fp, fq, h1, h2⟩ := h
  exact h1.heap.rises
theorem H2.stay (h : H2 w0 w hs p S q T ov R) (hk : Kept [] w w') : H2 w0 w' hs p S q T ov R := by
  obtain ⟨fp, fq, h1, h2⟩ := h
  exact ⟨fp, fq, h1.stay hk, h2.kept hk (fun _ _ => by simp)⟩
theorem H2.drewN (h : H2 w0 w hs p S q T ov R) (n : Nat) : H2 w0 (w.drewN n) hs p S q T ov R := h.stay ((Kept.refl _ _).drewN n)

theorem H2.boxed (h : H2 w0 w hs p S q T ov R) (x1 x2 : Int) : H2 w0 (w.alloc (.cells #[.int .u64 x1, .int .u64 x2] 30)) ((w.heap.size, (x1, x2)) :: hs) p S q T ov R := by
  obtain ⟨fp, fq, h1, h2⟩ := h
  exact ⟨fp, fq, h1.boxed x1 x2, h2.kept ((Kept.refl [] w).alloc _) (fun _ _ => by simp)⟩
theorem H2.fewer (h : H2 w0 w hs p S q T ov R) {hs' : Bx} (hf : ∀ e ∈ hs', e ∈ hs) : H2 w0 w hs' p S q T ov R := by
  obtain ⟨fp, fq, h1, h2⟩ := h
  exact ⟨fp, fq, h1.fewer hf, h2⟩
theorem H2.at_ (h : H2 w0 w hs p S q T ov R) {b : Nat} {x1 x2 : Int} (hb : (b, (x1, x2)) ∈ hs) : w.cell? ⟨b, 0, none⟩ = some (.int .u64 x1) ∧ w.cell? ⟨b, 1, none⟩ = some (.int .u64 x2) := by
  obtain ⟨fp, fq, h, h2⟩ := h
  have e := h.box _ hb
  exact ⟨cell_of_heap e 0, cell_of_heap e 1⟩

theorem H2.setbox {b : Nat} {y : Rc} (h : H2 w0 w [(b, y)] p S q T ov R) (hb : b ∉ own ov) (hn : w0.heap.size ≤ b) (x1 x2 : Int) : H2 w0 ((w.setCell ⟨b, 0, none⟩ (.int .u64 x1)).setCell ⟨b, 1, none⟩ (.int .u64 x2)) [(b, (x1, x2))] p S q T ov R := by
  obtain ⟨fp, fq, h1, h2⟩ := h
  refine ⟨fp, fq, h1.setbox hb hn x1 x2, (h1.swap h2).setbox hb hn x1 x2 |>.heap⟩

theorem H2.frozen {b : Nat} {y : Rc} (h : H2 w0 w hs p S q T ov R) (hb : (b, y) ∈ hs) (j : Nat) : w.frozen? ⟨b, j, none⟩ = false := by
  obtain ⟨fp, fq, h1, h2⟩ := h
  exact frozen_of_heap (h1.box _ hb) j

theorem H2.new (h : H1 w0 w hs p S ov R) : H2 w0 (w.alloc (.cells #[.slice none 0 0, .slice none 0 0] 27)) hs p S w.heap.size [] ov R := by
  obtain ⟨fp, h⟩ := h
  have hq := h.stay ((Kept.refl [] w).alloc (.cells #[.slice none 0 0, .slice none 0 0] 27))
  refine ⟨fp, [w.heap.size], ⟨hq.heap, hq.row, hq.below, hq.new, ?_, ?_, ?_, hq.lowR, hq.apartP, ?_, hq.box, hq.boxP, ?_⟩, Hp.new w⟩
  · intro b hb
    simp at hb
    subst hb
    exact h.below.size
  · intro b hb
    simp at hb
    subst hb
    simp
  · intro b hb hb'
    simp at hb
    subst hb
    exact Nat.lt_irrefl _ (h.heap.low _ hb')
  · intro b hb hb'
    simp at hb'
    subst hb'
    exact Nat.lt_irrefl _ (h.lowR _ hb)
  · intro e he hb'
    simp at hb'
    have := h.box.low e he
    omega

theorem H2.push (h : H2 w0 w hs p S q T ov R) (hmax : S.length ≤ 100000) (x1 x2 : Int) (hx : okR (x1, x2)) :
    Calls Try.prog 10 #[.pointer (some ⟨p, 0, none⟩), .agg #[.int .u64 x1, .int .u64 x2]] w fun e w' => e = .returned (.tuple #[]) ∧ H2 w0 w' hs p (insR (x1, x2) S) q T ov R := by
  obtain ⟨fp, fq, h, hq⟩ := h
  refine (h.heap.push hmax x1 x2 hx).mono ?_
  rintro e w' ⟨rfl, fp', h1, h2, h3⟩
  exact ⟨rfl, fp', fq, h.next h1 h2 h3, hq.kept h2 h.apart⟩

theorem H2.pushB (h : H2 w0 w hs p S q T ov R) (hmax : T.length ≤ 100000) (x1 x2 : Int) (hx : okR (x1, x2)) :
    Calls Try.prog 10 #[.pointer (some ⟨q, 0, none⟩), .agg #[.int .u64 x1, .int .u64 x2]] w fun e w' => e = .returned (.tuple #[]) ∧ H2 w0 w' hs p S q (insR (x1, x2) T) ov R :=
  (h.swap.push hmax x1 x2 hx).mono fun _ _ ⟨h1, h2⟩ => ⟨h1, h2.swap⟩

theorem H2.pop_cons {x1 x2 : Int} (h : H2 w0 w hs p ((x1, x2) :: S) q T ov R) (hmax : S.length ≤ 100000) :
    Calls Try.prog 9 #[.pointer (some ⟨p, 0, none⟩)] w fun e w' => e = .returned (.tuple #[.agg #[.int .u64 x1, .int .u64 x2], .bool true]) ∧ H2 w0 w' hs p S q T ov R := by
  obtain ⟨fp, fq, h, hq⟩ := h
  refine (h.heap.pop_cons hmax).mono ?_
  rintro e w' ⟨rfl, fp', h1, h2, h3⟩
  exact ⟨rfl, fp', fq, h.next h1 h2 h3, hq.kept h2 h.apart⟩

theorem H2.pop_consB {x1 x2 : Int} (h : H2 w0 w hs p S q ((x1, x2) :: T) ov R) (hmax : T.length ≤ 100000) :
    Calls Try.prog 9 #[.pointer (some ⟨q, 0, none⟩)] w fun e w' => e = .returned (.tuple #[.agg #[.int .u64 x1, .int .u64 x2], .bool true]) ∧ H2 w0 w' hs p S q T ov R :=
  (h.swap.pop_cons hmax).mono fun _ _ ⟨h1, h2⟩ => ⟨h1, h2.swap⟩

theorem H2.pop_nil (h : H2 w0 w hs p [] q T ov R) :
    Calls Try.prog 9 #[.pointer (some ⟨p, 0, none⟩)] w fun e w' => e = .returned (.tuple #[.agg #[.int .u64 0, .int .u64 0], .bool false]) ∧ H2 w0 w' hs p [] q T ov R := by
  have h0 := h
  obtain ⟨fp, fq, h, hq⟩ := h
  refine h.heap.pop_nil.mono ?_
  rintro e w' ⟨rfl, h1⟩
  exact ⟨rfl, h0.stay h1⟩

theorem H2.len (h : H2 w0 w hs p S q T ov R) (hmax : S.length ≤ 100000) :
    Calls Try.prog 13 #[.pointer (some ⟨p, 0, none⟩)] w fun e w' => e = .returned (.int .i64 S.length) ∧ H2 w0 w' hs p S q T ov R := by
  have h0 := h
  obtain ⟨fp, fq, h, hq⟩ := h
  refine (h.heap.len hmax).mono ?_
  rintro e w' ⟨rfl, h1⟩
  exact ⟨rfl, h0.stay h1⟩

theorem H2.lenB (h : H2 w0 w hs p S q T ov R) (hmax : T.length ≤ 100000) :
    Calls Try.prog 13 #[.pointer (some ⟨q, 0, none⟩)] w fun e w' => e = .returned (.int .i64 T.length) ∧ H2 w0 w' hs p S q T ov R :=
  (h.swap.len hmax).mono fun _ _ ⟨h1, h2⟩ => ⟨h1, h2.swap⟩

theorem H2.lenN (h : H2 w0 w hs p S q T ov R) (n : Nat) (hn : S.length = n) (hmax : n ≤ 100000) :
    Calls Try.prog 13 #[.pointer (some ⟨p, 0, none⟩)] w fun e w' => e = .returned (.int .i64 n) ∧ H2 w0 w' hs p S q T ov R := by
  subst hn
  exact h.len hmax

theorem H2.put (h : H2 w0 w hs p S q T ov R) (hr : Rises R) (hmax : R.length ≤ 100000) (x1 x2 : Int) (hx : okR (x1, x2)) :
    Calls Try.prog 11 #[ov, .agg #[.int .u64 x1, .int .u64 x2]] w fun e w' => ∃ ov', e = .returned ov' ∧ H2 w0 w' hs p S q T ov' (insR (x1, x2) R) := by
  obtain ⟨fp, fq, h, hq⟩ := h
  refine (h.put hr hmax x1 x2 hx).mono ?_
  rintro e w' ⟨ov', rfl, h1, h2⟩
  exact ⟨ov', rfl, fp, fq, h1, hq.kept h2 (fun _ _ => by simp)⟩
end

set_option maxRecDepth 100000 in
set_option maxHeartbeats 2000000 in
theorem shown_any (w : World) : Calls Try.prog 8 #[] w fun e w' => e = .returned (.bool true) ∧ Below w.heap.size w w' := by
  have N0 := hide (H1.new (w := w) (Below.refl w.heap.size w))
  go_enter Try.func8, Try.ntmps8
  go_wp2_with fail
  refine (N0.out.push (by decide) 3 0 (by simp [okR])).mono ?_
  rintro e w1 ⟨rfl, n1⟩
  have N1 := hide n1
  clear n1
  go_wp2_with fail
  refine (N1.out.push (by decide) 1 5 (by simp [okR])).mono ?_
  rintro e w2 ⟨rfl, n2⟩
  have N2 := hide n2
  clear n2
  go_wp2_with fail
  refine (N2.out.push (by decide) 1 2 (by simp [okR])).mono ?_
  rintro e w3 ⟨rfl, n3⟩
  have N3 : Hid (H1 w w3 [] w.heap.size [(1, 2), (1, 5), (3, 0)] (.slice none 0 0) []) := n3
  clear n3
  go_wp2_with fail
  refine (N3.out.peek_cons (by decide)).mono ?_
  rintro e w4 ⟨rfl, n4⟩
  have N4 := hide (n4.boxed 1 2)
  clear n4
  go_wp2_with fail
  refine (N4.out.pop_cons (by decide)).mono ?_
  rintro e w5 ⟨rfl, n5⟩
  have N5 := hide (n5.boxed 1 2)
  clear n5
  go_wp2_with fail
  refine (N5.out.pop_cons (by decide)).mono ?_
  rintro e w6 ⟨rfl, n6⟩
  have N6 := hide (n6.boxed 1 5)
  clear n6
  go_wp2_with fail
  refine (N6.out.len (by decide)).mono ?_
  rintro e w7 ⟨rfl, n7⟩
  have N7 := hide n7
  clear n7
  go_wp2_with fail
  refine (N7.out.pop_cons (by decide)).mono ?_
  rintro e w8 ⟨rfl, n8⟩
  have N8 := hide n8
  clear n8
  go_wp2_with fail
  refine N8.out.pop_nil.mono ?_
  rintro e w9 ⟨rfl, n9'⟩
  have n9 := n9'.boxed 0 0
  clear n9'
  obtain ⟨a1, a2⟩ := n9.at_ (b := w4.heap.size) (x1 := 1) (x2 := 2) (by simp)
  obtain ⟨a3, a4⟩ := n9.at_ (b := w5.heap.size) (x1 := 1) (x2 := 2) (by simp)
  obtain ⟨a5, a6⟩ := n9.at_ (b := w6.heap.size) (x1 := 1) (x2 := 5) (by simp)
  have N9 := hide n9
  clear n9
  go_wp2
  go_ret
  exact ⟨rfl, N9.out.below⟩

end Go.Proofs.Ythlhjlmhdhhkaaa
