/-
  Memory in parts: what stays where only some blocks are written; rows of bytes of one's own. A lemma file: no statement of the seat is proved here.
-/
import Derived.Test.YtjnmggbkclnbkaaBase
import Derived.Maps.OwnSet
import Derived.Maps.AppendAt
namespace Go.Proofs.Ytjnmggbkclnbkaa
open Go.RowKit Go.Maps

/-- w' is w, but for the blocks of fp, and new ones. -/
structure Kept (fp : List Nat) (w w' : World) : Prop where
  os : w'.os = w.os
  tape : w'.tape = w.tape
  output : w'.output = w.output
  size : w.heap.size ≤ w'.heap.size
  block : ∀ k, k < w.heap.size → k ∉ fp → w'.heap[k]? = w.heap[k]?

theorem Kept.refl (fp : List Nat) (w : World) : Kept fp w w := ⟨rfl, rfl, rfl, Nat.le_refl _, fun _ _ _ => rfl⟩

/-- What is in fp', is in fp, or new in w. -/
def Newly (w : World) (fp fp' : List Nat) : Prop := ∀ x ∈ fp', x ∈ fp ∨ w.heap.size ≤ x

theorem Newly.of_sub {w : World} {fp fp' : List Nat} (h : ∀ x ∈ fp', x ∈ fp) : Newly w fp fp' := fun x hx => .inl (h x hx)
theorem Newly.refl (w : World) (fp : List Nat) : Newly w fp fp := fun _ hx => .inl hx

theorem Newly.trans {w w' : World} {a b c : List Nat} (h : Newly w a b) (k : Newly w' b c) (hs : w.heap.size ≤ w'.heap.size) : Newly w a c := fun x hx => by
  rcases k x hx with h1 | h1
  · exact h x h1
  · exact .inr (Nat.le_trans hs h1)

theorem Kept.trans {fp fp' : List Nat} {a b c : World} (h : Kept fp a b) (k : Kept fp' b c) (hn : Newly a fp fp') : Kept fp a c :=
  ⟨k.os.trans h.os, k.tape.trans h.tape, k.output.trans h.output, Nat.le_trans h.size k.size, fun i hi hne =>
    (k.block i (Nat.lt_of_lt_of_le hi h.size) (fun e => by rcases hn i e with h1 | h1; exact hne h1; omega)).trans (h.block i hi hne)⟩

theorem Kept.mono {fp fp' : List Nat} {a b : World} (h : Kept fp a b) (hs : ∀ x ∈ fp, x ∈ fp') : Kept fp' a b :=
  ⟨h.os, h.tape, h.output, h.size, fun k hk hne => h.block k hk (fun e => hne (hs k e))⟩

theorem Kept.of_below {fp : List Nat} {a b : World} (h : Below a.heap.size a b) : Kept fp a b := ⟨h.os, h.tape, h.output, h.size, fun k hk _ => h.block k hk⟩

theorem Kept.of_grown {row : Option Nat} {a b : World} (h : a.grownBy b row) : Kept row.toList a b :=
  ⟨h.os, h.tape, h.output, h.size, fun k hk hne => h.block k hk (fun e => hne (by rw [← e]; simp))⟩

theorem Kept.below {B : Nat} {fp : List Nat} {a b : World} (h : Kept fp a b) (hB : B ≤ a.heap.size) (hf : ∀ x ∈ fp, B ≤ x) : Below B a b :=
  ⟨h.os, h.tape, h.output, h.size, fun k hk => h.block k (by omega) (fun e => by have := hf k e; omega)⟩

theorem Kept.alloc {fp : List Nat} {a b : World} (h : Kept fp a b) (o : Obj) : Kept fp a (b.alloc o) :=
  h.trans (fp' := []) ⟨rfl, rfl, rfl, by simp, fun k hk _ => Below.heap_alloc _ _ _ hk⟩ (fun _ hx => by simp at hx)

theorem Kept.setCell {fp : List Nat} {a b : World} (h : Kept fp a b) {p : Addr} (hp : p.block ∈ fp ∨ a.heap.size ≤ p.block) (u : Value) : Kept fp a (b.setCell p u) :=
  h.trans (fp' := [p.block]) ⟨rfl, rfl, rfl, by simp [World.setCell], fun k _ hk => Below.heap_setCell _ _ _ _ (by simpa using hk)⟩ (fun x hx => by simp at hx; subst hx; exact hp)

theorem Kept.drew {fp : List Nat} {a b : World} (h : Kept fp a b) : Kept fp a b.drew := ⟨h.os, h.tape, h.output, h.size, h.block⟩
theorem Kept.drewN {fp : List Nat} {a b : World} (h : Kept fp a b) (n : Nat) : Kept fp a (b.drewN n) := ⟨h.os, h.tape, h.output, h.size, h.block⟩

theorem Kept.cell {fp : List Nat} {w w' : World} (h : Kept fp w w') {p : Addr} {v : Value} (hv : w.cell? p = some v) (hp : p.block ∉ fp) : w'.cell? p = some v :=
  (World.cell?_of_block (w := w) (h.block p.block (World.block_lt_of_cell? w _ hv) hp)).trans hv

/-- A slice that was there holds what it held, if its block is none of those that were written. -/
theorem IsB.kept {fp : List Nat} {w w' : World} {v : Value} {bs : List Int} (h : IsB w v bs) (hk : Kept fp w w') (hf : bs ≠ [] → ∀ x ∈ v.ownBlock.toList, x ∉ fp) : IsB w' v bs := by
  obtain ⟨a, cap, rfl, h1, h2, h3, h4⟩ := h
  refine ⟨a, cap, rfl, h1, h2, fun x hx j hj => ?_, h4⟩
  subst hx
  exact hk.cell (h3 x rfl j hj) (hf (fun e => by subst e; simp at hj) _ (by simp [Value.ownBlock, Addr.add]; split <;> rfl))

theorem IsB.lt {w : World} {v : Value} {bs : List Int} (h : IsB w v bs) (hne : bs ≠ []) : ∀ x ∈ v.ownBlock.toList, x < w.heap.size := by
  obtain ⟨a, cap, rfl, h1, h2, h3, h4⟩ := h
  intro x hx
  cases a with
  | none => simp [Value.ownBlock] at hx
  | some a =>
    have := World.block_lt_of_cell? w _ (h3 a rfl 0 (List.length_pos_iff.2 hne))
    simp [Value.ownBlock] at hx
    subst hx
    simpa [Addr.add] using this

/-- The blocks of a slice of the disk's own. -/
abbrev own (v : Value) : List Nat := v.ownBlock.toList

/-- The slice v, nil or a row of its own, holds the bytes bs. -/
def RowB (w : World) (v : Value) (bs : List Int) : Prop :=
  w.ownsRow 0 5 1 v bs.length (bs.map (Value.int .u8)) ∧ ∀ z ∈ bs, 0 ≤ z ∧ z ≤ 255

theorem ownsRow_kept {fp : List Nat} {w w' : World} {base : Nat} {e : TypeId} {size : Nat} {v : Value} {n : Nat} {xs : List Value} (h : w.ownsRow base e size v n xs) (hk : Kept fp w w') (hf : ∀ x ∈ own v, x ∉ fp) : w'.ownsRow base e size v n xs := by
  refine ⟨h.1, ?_⟩
  rcases h.2 with hn | ⟨g, cap, cur, rfl, hb, hgg, rest⟩
  · exact .inl hn
  · refine .inr ⟨g, cap, cur, rfl, hb, ?_, rest⟩
    rw [hk.block g (Array.getElem?_eq_some_iff.1 hgg).1 (hf g (by simp [own, Value.ownBlock]))]
    exact hgg

theorem RowB.kept {fp : List Nat} {w w' : World} {v : Value} {bs : List Int} (h : RowB w v bs) (hk : Kept fp w w') (hf : ∀ x ∈ own v, x ∉ fp) : RowB w' v bs := ⟨ownsRow_kept h.1 hk hf, h.2⟩

theorem RowB.nil (w : World) : RowB w (.slice none 0 0) [] := ⟨World.ownsRow_nil w 0 _ _, by simp⟩

theorem RowB.lt {w : World} {v : Value} {bs : List Int} (h : RowB w v bs) : ∀ x ∈ own v, x < w.heap.size := fun x hx => (h.1.lt x (by simpa [own] using hx)).2

theorem RowB.form {w : World} {v : Value} {bs : List Int} (h : RowB w v bs) : (v = .slice none 0 0 ∧ bs = []) ∨ ∃ g cap, v = .slice (some ⟨g, 0, none⟩) bs.length cap ∧ OwnB 0 w g cap bs := by
  obtain ⟨⟨h1, h2⟩, h3⟩ := h
  rcases h2 with ⟨rfl, h⟩ | ⟨g, cap, cur, rfl, hb, hgg, rest⟩
  · exact .inl ⟨rfl, List.eq_nil_of_length_eq_zero h⟩
  · exact .inr ⟨g, cap, rfl, ⟨h1, .inr ⟨g, cap, cur, rfl, hb, hgg, rest⟩⟩, h3⟩

theorem RowB.isB {w : World} {v : Value} {bs : List Int} (h : RowB w v bs) : IsB w v bs := by
  rcases h.form with ⟨rfl, rfl⟩ | ⟨g, cap, rfl, ho⟩
  · exact IsB.nil w
  · exact ho.isB

theorem OwnB.rowB {B : Nat} {w : World} {g cap : Nat} {bs : List Int} (h : OwnB B w g cap bs) : RowB w (.slice (some ⟨g, 0, none⟩) bs.length cap) bs := ⟨(h.mono (Nat.zero_le B)).1, h.2⟩

/-- A new row of no bytes. -/
theorem OwnB.empty (w : World) (B : Nat) (hB : B ≤ w.heap.size) : OwnB B (w.alloc (.cells #[] 5)) w.heap.size 0 [] :=
  ⟨World.ownsRow_made w #[] 0 hB (by unfold maxLen; omega) rfl, by simp⟩

/-- 'append(row, b...)': row nil or a row of its own, b whatever. -/
theorem RowB.append {w : World} {v x : Value} {bs cs : List Int} (h : RowB w v bs) (hx : IsB w x cs) (hlen : bs.length + cs.length ≤ 1099511627776) (ty : TypeId) :
    ∃ v' w', (Builtin.append_ #[25, 25] ty #[v, x]).run Try.prog w = .ok v' w' ∧ RowB w' v' (bs ++ cs) ∧ Kept (own v) w w' ∧ Newly w (own v) (own v') ∧ (v' = .slice none 0 0 → v = .slice none 0 0 ∧ cs = []) := by
  obtain ⟨i0, hi, hz0, hz1, hz2⟩ := info_parts Try.infoU8
  obtain ⟨ad, c, rfl, h1, h2, h3, h4⟩ := hx
  cases ad with
  | none =>
    obtain ⟨rfl, rfl⟩ := h2 rfl
    have hrun := run_append_owned_none (P := Try.prog) (w := w) 0 25 ty 5 i0 1 Try.underlying25 hi _ _ _ h.1
    exact ⟨v, w, hrun, by simpa using h, Kept.refl _ _, Newly.refl _ _, fun e => ⟨e, rfl⟩⟩
  | some ad =>
    obtain ⟨v', w', hr, ho, hg, hn, hat⟩ := run_append_own_at (P := Try.prog) w 0 25 ty 5 i0 (.int .u8 0) 1 1 Try.underlying25 hi hz0 hz1 hz2 rfl (by decide) v bs.length _ h.1 ad cs.length c (cs.map (Value.int .u8)) (by simp) (cells_news (h3 ad rfl)) (ints_oneCell _ _) (by unfold maxLen; omega) (by omega) (Nat.zero_le _)
    refine ⟨v', w', hr, ⟨by simpa using ho, ?_⟩, Kept.of_grown hg, ?_, fun e => ?_⟩
    · intro y hy
      rcases List.mem_append.1 hy with hy | hy
      · exact h.2 y hy
      · exact h4 y hy
    · intro y hy
      rcases hat with e | e
      · exact .inl (by simpa [own, e] using hy)
      · simp [own, e] at hy
        subst hy
        exact .inr (Nat.le_refl _)
    · obtain ⟨e1, e2⟩ := hn.1 e
      exact ⟨e1, List.eq_nil_of_length_eq_zero e2⟩

theorem below_then {w w1 w2 : World} (h : Below w.heap.size w w1) (k : Below w1.heap.size w1 w2) : Below w.heap.size w w2 := h.trans (k.mono h.size)

theorem below_after {w w1 w2 : World} {o : Obj} (h : Below w.heap.size w w1) (k : Below (w1.alloc o).heap.size (w1.alloc o) w2) : Below w.heap.size w w2 :=
  (h.alloc h.size o).trans (k.mono (by simp; have := h.size; omega))

/-- A new block of bytes. -/
theorem IsB.new (w : World) (bs : List Int) (m : Nat × Nat) (h : ∀ z ∈ bs, 0 ≤ z ∧ z ≤ 255) : IsB (w.alloc (.cells (bs.map (Value.int .u8)).toArray 5 m)) (.slice (some ⟨w.heap.size, 0, none⟩) bs.length bs.length) bs := by
  refine ⟨_, _, rfl, Nat.le_refl _, by simp, fun x hx j hj => ?_, h⟩
  simp only [Option.some.injEq] at hx
  subst hx
  rw [Addr.add_lit]
  rw [World.cell?_alloc_mark]
  simp [hj]

end Go.Proofs.Ytjnmggbkclnbkaa
