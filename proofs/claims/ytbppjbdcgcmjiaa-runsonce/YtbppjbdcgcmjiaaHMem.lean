/-
  Memory in parts: what stays where only some blocks are written; rows of records. A lemma file: no statement of the seat is proved here.
-/
import Derived.Test.YtbppjbdcgcmjiaaRows
import Derived.WalkKit
import Derived.WalkSpells
import Derived.WalkLawsBesides
import Derived.Laws.AppendOwnNone
import Derived.Laws.OwnMore
import Derived.Maps.AppendAt
import Derived.Lib.SliceRun
import Derived.Deep.RegionHeld
import Derived.Deep.RegionLaw
import Derived.Deep.RegionHeldLaw
import Derived.Deep.QuietTactic
import Derived.Deep.LoopGhost
import Derived.Defers
import Derived.Recover
namespace Go.Proofs.Ytbppjbdcgcmjiaa
open Go.RowKit

theorem hide {p : Prop} (h : p) : Hid p := h

theorem i64_small (x : Int) (h0 : -9223372036854775808 ≤ x) (h1 : x ≤ 9223372036854775807) : IntKind.i64.wrap x = x := by
  rw [IntKind.wrap_i64]
  omega

/-- w' is w, but for the blocks of fp, and new ones. -/
structure Kept (fp : List Nat) (w w' : World) : Prop where
  os : w'.os = w.os
  tape : w'.tape = w.tape
  output : w'.output = w.output
  size : w.heap.size ≤ w'.heap.size
  block : ∀ k, k < w.heap.size → k ∉ fp → w'.heap[k]? = w.heap[k]?

theorem Kept.refl (fp : List Nat) (w : World) : Kept fp w w := ⟨rfl, rfl, rfl, Nat.le_refl _, fun _ _ _ => rfl⟩

/-- What is in fp', is in fp, or new in w. -/
def Newly (w : World) (fp fp' : List Nat) : Prop := ∀ x ∈ fp', x ∈ fp ∨ w.heap.size ≤ x

theorem Newly.of_sub {w : World} {fp fp' : List Nat} (h : ∀ x ∈ fp', x ∈ fp) : Newly w fp fp' := fun x hx => .inl (h x hx)
theorem Newly.refl (w : World) (fp : List Nat) : Newly w fp fp := fun _ hx => .inl hx

theorem Newly.trans {w w' : World} {a b c : List Nat} (h : Newly w a b) (k : Newly w' b c) (hs : w.heap.size ≤ w'.heap.size) : Newly w a c := fun x hx => by
  rcases k x hx with h1 | h1
  · exact h x h1
  · exact .inr (Nat.le_trans hs h1)

theorem Kept.trans {fp fp' : List Nat} {a b c : World} (h : Kept fp a b) (k : Kept fp' b c) (hn : Newly a fp fp') : Kept fp a c :=
  ⟨k.os.trans h.os, k.tape.trans h.tape, k.output.trans h.output, Nat.le_trans h.size k.size, fun i hi hne =>
    (k.block i (Nat.lt_of_lt_of_le hi h.size) (fun e => by rcases hn i e with h1 | h1; exact hne h1; omega)).trans (h.block i hi hne)⟩

theorem Kept.mono {fp fp' : List Nat} {a b : World} (h : Kept fp a b) (hs : ∀ x ∈ fp, x ∈ fp') : Kept fp' a b :=
  ⟨h.os, h.tape, h.output, h.size, fun k hk hne => h.block k hk (fun e => hne (hs k e))⟩

theorem Kept.of_below {fp : List Nat} {a b : World} (h : Below a.heap.size a b) : Kept fp a b := ⟨h.os, h.tape, h.output, h.size, fun k hk _ => h.block k hk⟩

theorem Kept.of_grown {row : Option Nat} {a b : World} (h : a.grownBy b row) : Kept row.toList a b :=
  ⟨h.os, h.tape, h.output, h.size, fun k hk hne => h.block k hk (fun e => hne (by rw [← e]; simp))⟩

theorem Kept.below {B : Nat} {fp : List Nat} {a b : World} (h : Kept fp a b) (hB : B ≤ a.heap.size) (hf : ∀ x ∈ fp, B ≤ x) : Below B a b :=
  ⟨h.os, h.tape, h.output, h.size, fun k hk => h.block k (by omega) (fun e => by have := hf k e; omega)⟩

theorem Kept.alloc {fp : List Nat} {a b : World} (h : Kept fp a b) (o : Obj) : Kept fp a (b.alloc o) :=
  h.trans (fp' := []) ⟨rfl, rfl, rfl, by simp, fun k hk _ => Below.heap_alloc _ _ _ hk⟩ (fun _ hx => by simp at hx)

theorem Kept.setCell {fp : List Nat} {a b : World} (h : Kept fp a b) {p : Addr} (hp : p.block ∈ fp ∨ a.heap.size ≤ p.block) (u : Value) : Kept fp a (b.setCell p u) :=
  h.trans (fp' := [p.block]) ⟨rfl, rfl, rfl, by simp [World.setCell], fun k _ hk => Below.heap_setCell _ _ _ _ (by simpa using hk)⟩ (fun x hx => by simp at hx; subst hx; exact hp)

theorem Kept.drew {fp : List Nat} {a b : World} (h : Kept fp a b) : Kept fp a b.drew := ⟨h.os, h.tape, h.output, h.size, h.block⟩
theorem Kept.drewN {fp : List Nat} {a b : World} (h : Kept fp a b) (n : Nat) : Kept fp a (b.drewN n) := ⟨h.os, h.tape, h.output, h.size, h.block⟩

theorem Kept.cell {fp : List Nat} {w w' : World} (h : Kept fp w w') {p : Addr} {v : Value} (hv : w.cell? p = some v) (hp : p.block ∉ fp) : w'.cell? p = some v :=
  (World.cell?_of_block (w := w) (h.block p.block (World.block_lt_of_cell? w _ hv) hp)).trans hv

theorem Kept.heap {fp : List Nat} {w w' : World} (h : Kept fp w w') {b : Nat} {o : Obj} (hv : w.heap[b]? = some o) (hp : b ∉ fp) : w'.heap[b]? = some o :=
  (h.block b (Array.getElem?_eq_some_iff.1 hv).1 hp).trans hv

theorem below_then {w w1 w2 : World} (h : Below w.heap.size w w1) (k : Below w1.heap.size w1 w2) : Below w.heap.size w w2 := h.trans (k.mono h.size)

/-- The blocks of a slice of one's own. -/
abbrev own (v : Value) : List Nat := v.ownBlock.toList

theorem ownsRow_kept {fp : List Nat} {w w' : World} {base : Nat} {e : TypeId} {size : Nat} {v : Value} {n : Nat} {xs : List Value} (h : w.ownsRow base e size v n xs) (hk : Kept fp w w') (hf : ∀ x ∈ own v, x ∉ fp) : w'.ownsRow base e size v n xs := by
  refine ⟨h.1, ?_⟩
  rcases h.2 with hn | ⟨g, cap, cur, rfl, hb, hgg, rest⟩
  · exact .inl hn
  · refine .inr ⟨g, cap, cur, rfl, hb, ?_, rest⟩
    rw [hk.block g (Array.getElem?_eq_some_iff.1 hgg).1 (hf g (by simp [own, Value.ownBlock]))]
    exact hgg

/-- A block of cells, read and marked. -/
theorem cell_of_heap {w : World} {b : Nat} {cs : Array Value} {t : TypeId} {m : Nat × Nat} (h : w.heap[b]? = some (.cells cs t m)) (o : Nat) : w.cell? ⟨b, o, none⟩ = cs[o]? := by simp [World.cell?, h]
theorem frozen_of_heap {w : World} {b : Nat} {cs : Array Value} {t : TypeId} (h : w.heap[b]? = some (.cells cs t (0, 0))) (o : Nat) : w.frozen? ⟨b, o, none⟩ = false := by simp [World.frozen?, h]
theorem heap_setCell {w : World} {b : Nat} {cs : Array Value} {t : TypeId} {m : Nat × Nat} (h : w.heap[b]? = some (.cells cs t m)) (o : Nat) (v : Value) : (w.setCell ⟨b, o, none⟩ v).heap[b]? = some (.cells (cs.setIfInBounds o v) t m) := by
  simp [World.setCell, Array.getElem?_modify, h]
theorem heap_alloc_new (w : World) (o : Obj) : (w.alloc o).heap[w.heap.size]? = some o := (MapKept.heap_alloc w o).1


/-! ### Records -/

def numOf : Value → Nat | .int _ q => q.toNat | _ => 0

/-- A record: Key, Val. -/
abbrev Rc := Int × Int
/-- Its two cells. -/
def encR (x : Rc) : List Value := [.int .u64 x.1, .int .u64 x.2]
/-- Its value. -/
def valR (x : Rc) : Value := .agg #[.int .u64 x.1, .int .u64 x.2]
/-- Its numbers are of 64 bits. -/
def okR (x : Rc) : Prop := (0 ≤ x.1 ∧ x.1 < 18446744073709551616) ∧ (0 ≤ x.2 ∧ x.2 < 18446744073709551616)
/-- Does x stand ahead of y? -/
def ltR (x y : Rc) : Bool := decide (x.1 < y.1) || (decide (x.1 = y.1) && decide (x.2 < y.2))

/-- All cells of a row of records. -/
def flatR (es : List Rc) : List Value := es.flatMap encR

theorem encR_length (x : Rc) : (encR x).length = 2 := rfl
theorem flatR_length (es : List Rc) : (flatR es).length = es.length * 2 := by
  induction es with
  | nil => rfl
  | cons x es ih => rw [flatR, List.flatMap_cons, List.length_append, encR_length]; rw [flatR] at ih; rw [ih]; simp; omega
theorem flatR_cons (x : Rc) (es : List Rc) : flatR (x :: es) = encR x ++ flatR es := by simp [flatR]
theorem flatR_append (es fs : List Rc) : flatR (es ++ fs) = flatR es ++ flatR fs := by simp [flatR]
theorem flatR_at (es : List Rc) (j i : Nat) (hj : j < es.length) (hi : i < 2) : (flatR es)[j * 2 + i]? = (encR es[j]!)[i]? := by
  induction es generalizing j with
  | nil => simp at hj
  | cons x es ih =>
    rw [flatR_cons]
    cases j with
    | zero => rw [List.getElem?_append_left (by rw [encR_length]; omega)]; simp
    | succ j =>
      rw [List.getElem?_append_right (by rw [encR_length]; omega), encR_length, show (j + 1) * 2 + i - 2 = j * 2 + i by omega, ih j (by simpa using hj)]
      simp
theorem flatR_set (es : List Rc) (k : Nat) (hk : k < es.length) (x : Rc) : flatR (es.set k x) = ((flatR es).set (k * 2) (.int .u64 x.1)).set (k * 2 + 1) (.int .u64 x.2) := by
  induction es generalizing k with
  | nil => simp at hk
  | cons y es ih =>
    cases k with
    | zero => simp [flatR_cons, encR]
    | succ k =>
      rw [List.set_cons_succ, flatR_cons, ih k (by simpa using hk), flatR_cons]
      have h3 : ∀ (l : List Value) (i : Nat) (v : Value), (encR y ++ l).set (i + 2) v = encR y ++ l.set i v := fun l i v => by simp [encR]
      rw [show (k + 1) * 2 = k * 2 + 2 by omega, h3, show k * 2 + 2 + 1 = (k * 2 + 1) + 2 by omega, h3]
theorem flatR_take (es : List Rc) (k : Nat) : flatR (es.take k) = (flatR es).take (k * 2) := by
  induction es generalizing k with
  | nil => simp [flatR]
  | cons x es ih =>
    cases k with
    | zero => simp [flatR]
    | succ k => rw [List.take_succ_cons, flatR_cons, flatR_cons, ih, show (k + 1) * 2 = k * 2 + 2 by omega]; simp [encR]
theorem flatR_oneCell (es : List Rc) : ∀ v ∈ flatR es, v.oneCell' = true := by
  intro v hv
  simp only [flatR, List.mem_flatMap] at hv
  obtain ⟨x, _, hv⟩ := hv
  simp only [encR, List.mem_cons, List.not_mem_nil, or_false] at hv
  rcases hv with rfl | rfl <;> rfl

/-- A row of records of its own: nil, or a block. -/
def RowR (w : World) (v : Value) (l : List Rc) : Prop := w.ownsRow 0 44 2 v l.length (flatR l) ∧ ∀ e ∈ l, okR e
/-- A slice that holds records. -/
def IsR (w : World) (v : Value) (l : List Rc) : Prop :=
  ∃ a cap, v = .slice a l.length cap ∧ l.length ≤ cap ∧ (a = none → l = [] ∧ cap = 0) ∧ (∀ x, a = some x → ∀ j u, (flatR l)[j]? = some u → w.cell? (x.add j) = some u) ∧ ∀ e ∈ l, okR e

theorem Try.infoRec : (Try.prog.info? 44).map (fun i => (i.zero, i.size, i.bytes)) = some (some (.agg #[.int .u64 0, .int .u64 0]), 2, 16) := by kernel_rfl

section
variable {w w' : World} {v : Value} {l : List Rc}

theorem RowR.kept {fp : List Nat} (h : RowR w v l) (hk : Kept fp w w') (hf : ∀ x ∈ own v, x ∉ fp) : RowR w' v l := ⟨ownsRow_kept h.1 hk hf, h.2⟩
theorem RowR.drew (h : RowR w v l) : RowR w.drew v l := h
theorem RowR.nil (w : World) : RowR w (.slice none 0 0) [] := ⟨World.ownsRow_nil _ _ _ _, by simp⟩
theorem RowR.low (h : RowR w v l) : ∀ x ∈ own v, x < w.heap.size := fun x hx => (World.ownsRow.lt h.1 x (by simpa [own] using hx)).2

theorem RowR.form (h : RowR w v l) : (v = .slice none 0 0 ∧ l = []) ∨ ∃ g cap, v = .slice (some ⟨g, 0, none⟩) l.length cap ∧ l.length ≤ cap := by
  rcases h.1.2 with ⟨e, h0⟩ | ⟨g, cap, cur, e, _, _, hn, _⟩
  · exact .inl ⟨e, List.eq_nil_of_length_eq_zero h0⟩
  · exact .inr ⟨g, cap, e, hn⟩

theorem RowR.blk (h : RowR w v l) (h0 : 0 < l.length) : ∃ g cap, v = .slice (some ⟨g, 0, none⟩) l.length cap ∧ l.length ≤ cap := by
  rcases h.form with ⟨_, rfl⟩ | h
  · simp at h0
  · exact h

theorem RowR.cellAt {g n cap : Nat} (h : RowR w (.slice (some ⟨g, 0, none⟩) n cap) l) (j i : Nat) (u : Value) (hj : j < l.length) (hu : (encR l[j]!)[i]? = some u) : w.cell? ⟨g, j * 2 + i, none⟩ = some u := by
  have hi : i < 2 := by have := (List.getElem?_eq_some_iff.1 hu).1; rw [encR_length] at this; exact this
  have := h.1.cells (g := g) rfl (j * 2 + i) u (by rw [flatR_at l j i hj hi]; exact hu)
  rw [Addr.add_lit, Nat.zero_add] at this
  exact this

/-- The two cells of a place. -/
theorem RowR.cell2 {g n cap : Nat} (h : RowR w (.slice (some ⟨g, 0, none⟩) n cap) l) (j : Nat) (hj : j < l.length) : w.cell? ⟨g, j * 2, none⟩ = some (.int .u64 l[j]!.1) ∧ w.cell? ⟨g, j * 2 + 1, none⟩ = some (.int .u64 l[j]!.2) :=
  ⟨h.cellAt j 0 _ hj rfl, h.cellAt j 1 _ hj rfl⟩

theorem RowR.frozenAt {g n cap : Nat} (h : RowR w (.slice (some ⟨g, 0, none⟩) n cap) l) (j : Nat) : w.frozen? ⟨g, j, none⟩ = false := by
  rcases h.1.2 with ⟨e, _⟩ | ⟨g', cap', cur, e, _, hg, _⟩
  · simp at e
  · simp only [Value.slice.injEq, Option.some.injEq, Addr.mk.injEq, and_true] at e
    rw [← e.1] at hg
    exact frozen_of_heap hg j

theorem RowR.len {a : Option Addr} {n cap : Nat} (h : RowR w (.slice a n cap) l) : n = l.length := by
  rcases h.1.2 with ⟨e, h0⟩ | ⟨g', cap', cur, e, _⟩
  · simp only [Value.slice.injEq] at e; omega
  · simp only [Value.slice.injEq] at e; omega

theorem RowR.isR (h : RowR w v l) : IsR w v l := by
  rcases h.form with ⟨rfl, rfl⟩ | ⟨g, cap, rfl, hn⟩
  · exact ⟨none, 0, rfl, Nat.le_refl _, fun _ => ⟨rfl, rfl⟩, by simp, by simp⟩
  · refine ⟨_, cap, rfl, hn, by simp, fun x hx j u hu => ?_, h.2⟩
    simp only [Option.some.injEq] at hx
    subst hx
    exact h.1.cells (g := g) rfl j u hu

theorem RowR.okAt (h : RowR w v l) (j : Nat) (hj : j < l.length) : okR l[j]! := by rw [getElem!_pos l j hj]; exact h.2 _ (List.getElem_mem hj)

/-- 'row[k] = x'. -/
theorem RowR.stored {g n cap : Nat} (h : RowR w (.slice (some ⟨g, 0, none⟩) n cap) l) (k : Nat) (hk : k < l.length) (x : Rc) (hx : okR x) :
    RowR ((w.setCell ⟨g, k * 2, none⟩ (.int .u64 x.1)).setCell ⟨g, k * 2 + 1, none⟩ (.int .u64 x.2)) (.slice (some ⟨g, 0, none⟩) n cap) (l.set k x) := by
  have e := h.len
  subst e
  refine ⟨?_, fun y hy => ?_⟩
  · have h1 := (h.1.stored (k * 2) (.int .u64 x.1)).1
    have h2 := (h1.stored (k * 2 + 1) (.int .u64 x.2)).1
    rw [← flatR_set l k hk x] at h2
    rw [List.length_set]
    exact h2
  · rcases List.mem_or_eq_of_mem_set hy with hy | rfl
    · exact h.2 y hy
    · exact hx

theorem IsR.below (h : IsR w v l) (hb : Below w.heap.size w w') : IsR w' v l := by
  obtain ⟨a, cap, rfl, h1, h2, h3, h4⟩ := h
  refine ⟨a, cap, rfl, h1, h2, fun x hx j u hu => ?_, h4⟩
  have := h3 x hx j u hu
  have hlt := World.block_lt_of_cell? w _ this
  rw [World.cell?_of_block (w := w) (hb.block _ hlt)]
  exact this

/-- The same, for a slice whose block lies below n. -/
theorem IsR.form (h : IsR w v l) : ∃ a cap, v = .slice a l.length cap ∧ l.length ≤ cap := by
  obtain ⟨a, cap, e, h1, _⟩ := h
  exact ⟨a, cap, e, h1⟩

end

theorem RowR.append {w : World} {v x : Value} {l m : List Rc} (h : RowR w v l) (hx : IsR w x m) (hlen : l.length + m.length ≤ 1099511627776) (ty : TypeId) :
    ∃ v' w', (Builtin.append_ #[22, 22] ty #[v, x]).run Try.prog w = .ok v' w' ∧ RowR w' v' (l ++ m) ∧ Kept (own v) w w' ∧ Newly w (own v) (own v') := by
  obtain ⟨i0, hi, hz0, hz1, hz2⟩ := info_parts Try.infoRec
  obtain ⟨ad, c, rfl, h1, h2, h3, h4⟩ := hx
  have hok : ∀ e ∈ l ++ m, okR e := fun e he => by
    rcases List.mem_append.1 he with he | he
    · exact h.2 e he
    · exact h4 e he
  cases ad with
  | none =>
    obtain ⟨rfl, rfl⟩ := h2 rfl
    have hrun := run_append_owned_none (P := Try.prog) (w := w) 0 22 ty 44 i0 2 Try.underlying22 hi _ _ _ h.1
    exact ⟨v, w, hrun, by simpa using h, Kept.refl _ _, Newly.refl _ _⟩
  | some ad =>
    obtain ⟨v', w', hr, ho, hg, hn, hat⟩ := run_append_own_at (P := Try.prog) w 0 22 ty 44 i0 _ 2 16 Try.underlying22 hi hz0 hz1 hz2 rfl (by decide) v l.length _ h.1 ad m.length c (flatR m) (flatR_length m) (h3 ad rfl) (flatR_oneCell m) (by unfold maxLen; omega) (by omega) (Nat.zero_le _)
    refine ⟨v', w', hr, ⟨?_, hok⟩, Kept.of_grown hg, ?_⟩
    · rw [flatR_append, List.length_append]
      exact ho
    · intro y hy
      rcases hat with e | e
      · exact .inl (by simpa [own, e] using hy)
      · simp [own, e] at hy
        subst hy
        exact .inr (Nat.le_refl _)

section
variable {ops : Array Oper} {rest : List Oper} {o : Oper} {a : Act} {Q : Exit → Act → World → Prop}

theorem wp_appendR (w : World) (hgd : o.guard = none) (s x : Operand) (ho : o.op = .call { callee := .builtin .append, args := #[s, x], argTypes := #[22, 22] })
    (v u : Value) (l m : List Rc) (hs : a.eval s = v) (hrow : RowR w v l) (hx : a.eval x = u) (hu : IsR w u m) (hlen : l.length + m.length ≤ 1099511627776)
    (h : ∀ v' w', RowR w' v' (l ++ m) → Kept (own v) w w' → Newly w (own v) (own v') → wpList Try.prog ops Q rest (a.put o.dst v') w') :
    wpList Try.prog ops Q (o :: rest) a w := by
  refine wpList_plain hgd fun K hK => ?_
  obtain ⟨v', w', hr, h2, h3, h4⟩ := hrow.append hu hlen o.type
  unfold Oper.wp execOp
  simp only [ho, resolve, invoke, builtin, Sem.run_bind, Sem.run_pure, Result.andThen_ok, List.map_toArray, List.map_cons, List.map_nil, hs, hx, hr]
  exact hK _ _ (h v' w' h2 h3 h4)

theorem step_appendR {K : Act → World → Prop} {E : Prop} (w : World) (hgd : o.guard = none) (s x : Operand) (ho : o.op = .call { callee := .builtin .append, args := #[s, x], argTypes := #[22, 22] })
    (v u : Value) (l m : List Rc) (hs : a.eval s = v) (hrow : RowR w v l) (hx : a.eval x = u) (hu : IsR w u m) (hlen : l.length + m.length ≤ 1099511627776)
    (h : ∀ v' w', RowR w' v' (l ++ m) → Kept (own v) w w' → Newly w (own v) (own v') → K (a.put o.dst v') w') :
    if Region.wanted o (yielded ops a.tmps) = true then Oper.wp Try.prog o a w K Q else E := by
  have hw : Region.wanted o (yielded ops a.tmps) = true := by simp [Region.wanted, hgd]
  rw [if_pos hw]
  obtain ⟨v', w', hr, h2, h3, h4⟩ := hrow.append hu hlen o.type
  unfold Oper.wp execOp
  simp only [ho, resolve, invoke, builtin, Sem.run_bind, Sem.run_pure, Result.andThen_ok, List.map_toArray, List.map_cons, List.map_nil, hs, hx, hr]
  exact h v' w' h2 h3 h4
end

/-- A row up to a place: its block stays its own. -/
theorem RowR.front {w : World} {g cap : Nat} {l : List Rc} (h : RowR w (.slice (some ⟨g, 0, none⟩) l.length cap) l) (k : Nat) (hk : k ≤ l.length) : RowR w (.slice (some ⟨g, 0, none⟩) k cap) (l.take k) := by
  have hl : (l.take k).length = k := by rw [List.length_take]; omega
  refine ⟨⟨by rw [flatR_length, hl], ?_⟩, fun e he => h.2 e (List.mem_of_mem_take he)⟩
  rcases h.1.2 with ⟨e, _⟩ | ⟨g', cap', cur, e, hb, hg, hn, hm, hs, ht⟩
  · simp at e
  · simp only [Value.slice.injEq, Option.some.injEq, Addr.mk.injEq, and_true, true_and] at e
    obtain ⟨rfl, rfl⟩ := e
    refine .inr ⟨g, cap, cur, by rw [hl], hb, hg, by rw [hl]; omega, hm, hs, ?_⟩
    rw [hl, flatR_take, ← ht, List.take_take, Nat.min_eq_left (by omega)]

end Go.Proofs.Ytbppjbdcgcmjiaa
