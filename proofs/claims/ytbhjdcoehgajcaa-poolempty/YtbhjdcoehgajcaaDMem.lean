/-
  Memory in parts: what stays where only some blocks are written; files and disks in memory. A lemma file: no statement of the seat is proved here.
-/
import Derived.Test.YtbhjdcoehgajcaaBase
import Derived.Maps.OwnSet
import Derived.Maps.AppendAt
namespace Go.Proofs.Ytbhjdcoehgajcaa
open Go.RowKit Go.Maps

/-- w' is w, but for the blocks of fp, and new ones. -/
structure Kept (fp : List Nat) (w w' : World) : Prop where
  os : w'.os = w.os
  tape : w'.tape = w.tape
  output : w'.output = w.output
  size : w.heap.size ≤ w'.heap.size
  block : ∀ k, k < w.heap.size → k ∉ fp → w'.heap[k]? = w.heap[k]?

theorem Kept.refl (fp : List Nat) (w : World) : Kept fp w w := ⟨rfl, rfl, rfl, Nat.le_refl _, fun _ _ _ => rfl⟩

/-- What is in fp', is in fp, or new in w. -/
def Newly (w : World) (fp fp' : List Nat) : Prop := ∀ x ∈ fp', x ∈ fp ∨ w.heap.size ≤ x

theorem Newly.of_sub {w : World} {fp fp' : List Nat} (h : ∀ x ∈ fp', x ∈ fp) : Newly w fp fp' := fun x hx => .inl (h x hx)
theorem Newly.refl (w : World) (fp : List Nat) : Newly w fp fp := fun _ hx => .inl hx

theorem Newly.trans {w w' : World} {a b c : List Nat} (h : Newly w a b) (k : Newly w' b c) (hs : w.heap.size ≤ w'.heap.size) : Newly w a c := fun x hx => by
  rcases k x hx with h1 | h1
  · exact h x h1
  · exact .inr (Nat.le_trans hs h1)

theorem Kept.trans {fp fp' : List Nat} {a b c : World} (h : Kept fp a b) (k : Kept fp' b c) (hn : Newly a fp fp') : Kept fp a c :=
  ⟨k.os.trans h.os, k.tape.trans h.tape, k.output.trans h.output, Nat.le_trans h.size k.size, fun i hi hne =>
    (k.block i (Nat.lt_of_lt_of_le hi h.size) (fun e => by rcases hn i e with h1 | h1; exact hne h1; omega)).trans (h.block i hi hne)⟩

theorem Kept.mono {fp fp' : List Nat} {a b : World} (h : Kept fp a b) (hs : ∀ x ∈ fp, x ∈ fp') : Kept fp' a b :=
  ⟨h.os, h.tape, h.output, h.size, fun k hk hne => h.block k hk (fun e => hne (hs k e))⟩

theorem Kept.of_below {fp : List Nat} {a b : World} (h : Below a.heap.size a b) : Kept fp a b := ⟨h.os, h.tape, h.output, h.size, fun k hk _ => h.block k hk⟩

theorem Kept.of_grown {row : Option Nat} {a b : World} (h : a.grownBy b row) : Kept row.toList a b :=
  ⟨h.os, h.tape, h.output, h.size, fun k hk hne => h.block k hk (fun e => hne (by rw [← e]; simp))⟩

theorem Kept.below {B : Nat} {fp : List Nat} {a b : World} (h : Kept fp a b) (hB : B ≤ a.heap.size) (hf : ∀ x ∈ fp, B ≤ x) : Below B a b :=
  ⟨h.os, h.tape, h.output, h.size, fun k hk => h.block k (by omega) (fun e => by have := hf k e; omega)⟩

theorem Kept.alloc {fp : List Nat} {a b : World} (h : Kept fp a b) (o : Obj) : Kept fp a (b.alloc o) :=
  h.trans (fp' := []) ⟨rfl, rfl, rfl, by simp, fun k hk _ => Below.heap_alloc _ _ _ hk⟩ (fun _ hx => by simp at hx)

theorem Kept.setCell {fp : List Nat} {a b : World} (h : Kept fp a b) {p : Addr} (hp : p.block ∈ fp ∨ a.heap.size ≤ p.block) (u : Value) : Kept fp a (b.setCell p u) :=
  h.trans (fp' := [p.block]) ⟨rfl, rfl, rfl, by simp [World.setCell], fun k _ hk => Below.heap_setCell _ _ _ _ (by simpa using hk)⟩ (fun x hx => by simp at hx; subst hx; exact hp)

theorem Kept.drew {fp : List Nat} {a b : World} (h : Kept fp a b) : Kept fp a b.drew := ⟨h.os, h.tape, h.output, h.size, h.block⟩
theorem Kept.drewN {fp : List Nat} {a b : World} (h : Kept fp a b) (n : Nat) : Kept fp a (b.drewN n) := ⟨h.os, h.tape, h.output, h.size, h.block⟩

theorem Kept.cell {fp : List Nat} {w w' : World} (h : Kept fp w w') {p : Addr} {v : Value} (hv : w.cell? p = some v) (hp : p.block ∉ fp) : w'.cell? p = some v :=
  (World.cell?_of_block (w := w) (h.block p.block (World.block_lt_of_cell? w _ hv) hp)).trans hv

/-- A slice that was there holds what it held, if its block is none of those that were written. -/
theorem IsB.kept {fp : List Nat} {w w' : World} {v : Value} {bs : List Int} (h : IsB w v bs) (hk : Kept fp w w') (hf : bs ≠ [] → ∀ x ∈ v.ownBlock.toList, x ∉ fp) : IsB w' v bs := by
  obtain ⟨a, cap, rfl, h1, h2, h3, h4⟩ := h
  refine ⟨a, cap, rfl, h1, h2, fun x hx j hj => ?_, h4⟩
  subst hx
  exact hk.cell (h3 x rfl j hj) (hf (fun e => by subst e; simp at hj) _ (by simp [Value.ownBlock, Addr.add]; split <;> rfl))

theorem IsB.lt {w : World} {v : Value} {bs : List Int} (h : IsB w v bs) (hne : bs ≠ []) : ∀ x ∈ v.ownBlock.toList, x < w.heap.size := by
  obtain ⟨a, cap, rfl, h1, h2, h3, h4⟩ := h
  intro x hx
  cases a with
  | none => simp [Value.ownBlock] at hx
  | some a =>
    have := World.block_lt_of_cell? w _ (h3 a rfl 0 (List.length_pos_iff.2 hne))
    simp [Value.ownBlock] at hx
    subst hx
    simpa [Addr.add] using this

/-- The blocks of a slice of the disk's own. -/
abbrev own (v : Value) : List Nat := v.ownBlock.toList

/-- The slice v, nil or a row of its own, holds the bytes bs. -/
def RowB (w : World) (v : Value) (bs : List Int) : Prop :=
  w.ownsRow 0 5 1 v bs.length (bs.map (Value.int .u8)) ∧ ∀ z ∈ bs, 0 ≤ z ∧ z ≤ 255

theorem ownsRow_kept {fp : List Nat} {w w' : World} {base : Nat} {e : TypeId} {size : Nat} {v : Value} {n : Nat} {xs : List Value} (h : w.ownsRow base e size v n xs) (hk : Kept fp w w') (hf : ∀ x ∈ own v, x ∉ fp) : w'.ownsRow base e size v n xs := by
  refine ⟨h.1, ?_⟩
  rcases h.2 with hn | ⟨g, cap, cur, rfl, hb, hgg, rest⟩
  · exact .inl hn
  · refine .inr ⟨g, cap, cur, rfl, hb, ?_, rest⟩
    rw [hk.block g (Array.getElem?_eq_some_iff.1 hgg).1 (hf g (by simp [own, Value.ownBlock]))]
    exact hgg

theorem RowB.kept {fp : List Nat} {w w' : World} {v : Value} {bs : List Int} (h : RowB w v bs) (hk : Kept fp w w') (hf : ∀ x ∈ own v, x ∉ fp) : RowB w' v bs := ⟨ownsRow_kept h.1 hk hf, h.2⟩

theorem RowB.nil (w : World) : RowB w (.slice none 0 0) [] := ⟨World.ownsRow_nil w 0 _ _, by simp⟩

theorem RowB.lt {w : World} {v : Value} {bs : List Int} (h : RowB w v bs) : ∀ x ∈ own v, x < w.heap.size := fun x hx => (h.1.lt x (by simpa [own] using hx)).2

theorem RowB.form {w : World} {v : Value} {bs : List Int} (h : RowB w v bs) : (v = .slice none 0 0 ∧ bs = []) ∨ ∃ g cap, v = .slice (some ⟨g, 0, none⟩) bs.length cap ∧ OwnB 0 w g cap bs := by
  obtain ⟨⟨h1, h2⟩, h3⟩ := h
  rcases h2 with ⟨rfl, h⟩ | ⟨g, cap, cur, rfl, hb, hgg, rest⟩
  · exact .inl ⟨rfl, List.eq_nil_of_length_eq_zero h⟩
  · exact .inr ⟨g, cap, rfl, ⟨h1, .inr ⟨g, cap, cur, rfl, hb, hgg, rest⟩⟩, h3⟩

theorem RowB.isB {w : World} {v : Value} {bs : List Int} (h : RowB w v bs) : IsB w v bs := by
  rcases h.form with ⟨rfl, rfl⟩ | ⟨g, cap, rfl, ho⟩
  · exact IsB.nil w
  · exact ho.isB

theorem OwnB.rowB {B : Nat} {w : World} {g cap : Nat} {bs : List Int} (h : OwnB B w g cap bs) : RowB w (.slice (some ⟨g, 0, none⟩) bs.length cap) bs := ⟨(h.mono (Nat.zero_le B)).1, h.2⟩

/-- A new row of no bytes. -/
theorem OwnB.empty (w : World) (B : Nat) (hB : B ≤ w.heap.size) : OwnB B (w.alloc (.cells #[] 5)) w.heap.size 0 [] :=
  ⟨World.ownsRow_made w #[] 0 hB (by unfold maxLen; omega) rfl, by simp⟩

/-- 'append(row, b...)': row nil or a row of its own, b whatever. -/
theorem RowB.append {w : World} {v x : Value} {bs cs : List Int} (h : RowB w v bs) (hx : IsB w x cs) (hlen : bs.length + cs.length ≤ 1099511627776) (ty : TypeId) :
    ∃ v' w', (Builtin.append_ #[28, 28] ty #[v, x]).run Try.prog w = .ok v' w' ∧ RowB w' v' (bs ++ cs) ∧ Kept (own v) w w' ∧ Newly w (own v) (own v') ∧ (v' = .slice none 0 0 → v = .slice none 0 0 ∧ cs = []) := by
  obtain ⟨i0, hi, hz0, hz1, hz2⟩ := info_parts Try.infoU8
  obtain ⟨ad, c, rfl, h1, h2, h3, h4⟩ := hx
  cases ad with
  | none =>
    obtain ⟨rfl, rfl⟩ := h2 rfl
    have hrun := run_append_owned_none (P := Try.prog) (w := w) 0 28 ty 5 i0 1 Try.underlying28 hi _ _ _ h.1
    exact ⟨v, w, hrun, by simpa using h, Kept.refl _ _, Newly.refl _ _, fun e => ⟨e, rfl⟩⟩
  | some ad =>
    obtain ⟨v', w', hr, ho, hg, hn, hat⟩ := run_append_own_at (P := Try.prog) w 0 28 ty 5 i0 (.int .u8 0) 1 1 Try.underlying28 hi hz0 hz1 hz2 rfl (by decide) v bs.length _ h.1 ad cs.length c (cs.map (Value.int .u8)) (by simp) (cells_news (h3 ad rfl)) (ints_oneCell _ _) (by unfold maxLen; omega) (by omega) (Nat.zero_le _)
    refine ⟨v', w', hr, ⟨by simpa using ho, ?_⟩, Kept.of_grown hg, ?_, fun e => ?_⟩
    · intro y hy
      rcases List.mem_append.1 hy with hy | hy
      · exact h.2 y hy
      · exact h4 y hy
    · intro y hy
      rcases hat with e | e
      · exact .inl (by simpa [own, e] using hy)
      · simp [own, e] at hy
        subst hy
        exact .inr (Nat.le_refl _)
    · obtain ⟨e1, e2⟩ := hn.1 e
      exact ⟨e1, List.eq_nil_of_length_eq_zero e2⟩

/-! ### Files -/

/-- A file in memory: its name, its block, the two slices, and what they hold. -/
structure Fl where
  name : List UInt8
  blk : Nat
  vn : Value
  vs : Value
  now : List Int
  syn : List Int

/-- The blocks of a file. -/
def foot (f : Fl) : List Nat := f.blk :: (own f.vn ++ own f.vs)

structure FileAt (w : World) (f : Fl) : Prop where
  cells : w.heap[f.blk]? = some (.cells #[f.vn, f.vs] 71 (0, 0))
  rnow : RowB w f.vn f.now
  rsyn : RowB w f.vs f.syn
  apart : (foot f).Nodup

theorem FileAt.lt {w : World} {f : Fl} (h : FileAt w f) : ∀ x ∈ foot f, x < w.heap.size := by
  intro x hx
  simp only [foot, List.mem_cons, List.mem_append] at hx
  rcases hx with rfl | hx | hx
  · exact (Array.getElem?_eq_some_iff.1 h.cells).1
  · exact h.rnow.lt x hx
  · exact h.rsyn.lt x hx

theorem FileAt.kept {fp : List Nat} {w w' : World} {f : Fl} (h : FileAt w f) (hk : Kept fp w w') (hf : ∀ x ∈ foot f, x ∉ fp) : FileAt w' f :=
  ⟨(hk.block _ (h.lt _ (by simp [foot])) (hf _ (by simp [foot]))).trans h.cells, h.rnow.kept hk (fun x hx => hf x (by simp only [foot, List.mem_cons, List.mem_append]; exact .inr (.inl hx))), h.rsyn.kept hk (fun x hx => hf x (by simp only [foot, List.mem_cons, List.mem_append]; exact .inr (.inr hx))), h.apart⟩

/-- A block of cells, read and marked. -/
theorem cell_of_heap {w : World} {b : Nat} {cs : Array Value} {t : TypeId} {m : Nat × Nat} (h : w.heap[b]? = some (.cells cs t m)) (o : Nat) : w.cell? ⟨b, o, none⟩ = cs[o]? := by simp [World.cell?, h]
theorem frozen_of_heap {w : World} {b : Nat} {cs : Array Value} {t : TypeId} (h : w.heap[b]? = some (.cells cs t (0, 0))) (o : Nat) : w.frozen? ⟨b, o, none⟩ = false := by simp [World.frozen?, h]
theorem heap_setCell {w : World} {b : Nat} {cs : Array Value} {t : TypeId} {m : Nat × Nat} (h : w.heap[b]? = some (.cells cs t m)) (o : Nat) (v : Value) : (w.setCell ⟨b, o, none⟩ v).heap[b]? = some (.cells (cs.setIfInBounds o v) t m) := by
  simp [World.setCell, Array.getElem?_modify, h]

/-! ### Disks -/

/-- How a pointer to a file reads: as its block's number. -/
def ptrE (v : Value) : Option (DataW Unit × List MemPlace) :=
  match v with
  | .pointer none => some (.nil, [])
  | .pointer (some a) => if a = ⟨a.block, 0, none⟩ then some (.lit (.int .i64 a.block), []) else none
  | _ => none

theorem ptrE_none : ptrE (.pointer none) = some (.nil, []) := rfl
theorem ptrE_some (b : Nat) : ptrE (.pointer (some ⟨b, 0, none⟩)) = some (.lit (.int .i64 b), []) := by simp [ptrE]

theorem ptrE_inv_nil {v : Value} {ps : List MemPlace} (h : ptrE v = some (.nil, ps)) : v = .pointer none := by
  unfold ptrE at h
  split at h
  · rfl
  · split at h <;> simp at h
  · simp at h

theorem ptrE_inv {v : Value} {b : Nat} {ps : List MemPlace} (h : ptrE v = some (.lit (.int .i64 b), ps)) : v = .pointer (some ⟨b, 0, none⟩) := by
  unfold ptrE at h
  split at h
  · simp at h
  · split at h
    · rename_i a e
      simp at h
      rw [e]
      congr 3
      omega
    · simp at h
  · simp at h

/-- The file of a name. -/
def look (fs : List Fl) (n : List UInt8) : Option Fl := fs.find? (fun f => f.name == n)

/-- The datum D is the map of these files' names to their blocks. -/
structure MapIs (D : DataW Unit) (fs : List Fl) : Prop where
  at_ : ∀ n, D.atKey (.string n) .nil = match look fs n with | some f => .lit (.int .i64 f.blk) | none => .nil
  has : ∀ n, Maps.has D (.string n) = (look fs n).isSome
  size : Maps.size D = fs.length

/-- The slice v, nil or a row of its own, holds these truths. -/
def RowK (w : World) (v : Value) (ks : List Bool) : Prop := w.ownsRow 0 4 1 v ks.length (ks.map Value.bool)

theorem RowK.kept {fp : List Nat} {w w' : World} {v : Value} {ks : List Bool} (h : RowK w v ks) (hk : Kept fp w w') (hf : ∀ x ∈ own v, x ∉ fp) : RowK w' v ks := ownsRow_kept h hk hf
theorem RowK.lt {w : World} {v : Value} {ks : List Bool} (h : RowK w v ks) : ∀ x ∈ own v, x < w.heap.size := fun x hx => (World.ownsRow.lt h x (by simpa [own] using hx)).2

/-- What a disk has beside its files. -/
structure Ds where
  room : Int
  used : Int
  ops : Int
  down : Bool
  left : Int
  keep : List Bool

/-- The disk's own block. -/
def diskCells (bm : Nat) (kv : Value) (s : Ds) : Array Value := #[.map (some bm), .int .i64 s.room, .int .i64 s.used, .int .i64 s.ops, .bool s.down, .int .i64 s.left, kv]

/-- The blocks of a disk. -/
def feet (p bm : Nat) (kv : Value) (fs : List Fl) : List Nat := p :: bm :: (own kv ++ fs.flatMap foot)

structure DiskAt (w : World) (p bm : Nat) (kv : Value) (fs : List Fl) (s : Ds) : Prop where
  cells : w.heap[p]? = some (.cells (diskCells bm kv s) 80 (0, 0))
  map : ∃ D, w.ownsMap Try.prog 9 ptrE bm fs.length D ∧ MapIs D fs
  files : ∀ f ∈ fs, FileAt w f
  keep : RowK w kv s.keep
  apart : (feet p bm kv fs).Nodup
  sorted : fs.Pairwise (fun f g => f.name < g.name)

end Go.Proofs.Ytbhjdcoehgajcaa
