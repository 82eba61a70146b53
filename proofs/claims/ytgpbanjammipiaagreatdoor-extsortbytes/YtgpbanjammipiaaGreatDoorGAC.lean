/-
  Lemma texts, one behind the other: RecM, RecB, RecC, RecD. No statement of the seat is proved here.
-/
import Derived.Test.YtgpbanjammipiaaGreatDoorGAA
import Derived.Test.YtgpbanjammipiaaGreatDoorGAB
import Derived.WalkKit
import Derived.WalkSpells
import Derived.WalkLawsBesides
import Derived.Laws.AppendOwnNone
import Derived.Laws.OwnMore
import Derived.Maps.AppendAt
import Derived.Lib.SliceRun
import Derived.Deep.RegionHeld
import Derived.Deep.RegionLaw
import Derived.Deep.RegionHeldLaw
import Derived.Deep.QuietTactic
import Derived.Deep.LoopGhost
import Derived.Defers
import Derived.Recover
import Derived.Deep.SlicePairs
import Derived.ProofKit
import Derived.OpenShut
namespace Go.Proofs.YtgpbanjammipiaaGreatDoor
open Go.RowKit

theorem Kept.heap {fp : List Nat} {w w' : World} (h : Kept fp w w') {b : Nat} {o : Obj} (hv : w.heap[b]? = some o) (hp : b ∉ fp) : w'.heap[b]? = some o :=
  (h.block b (Array.getElem?_eq_some_iff.1 hv).1 hp).trans hv

theorem heap_alloc_new (w : World) (o : Obj) : (w.alloc o).heap[w.heap.size]? = some o := (MapKept.heap_alloc w o).1


/-! ### Records -/

def numOf : Value → Nat | .int _ q => q.toNat | _ => 0

/-- A record: Key, Val. -/
abbrev Rc := Int × Int
/-- Its two cells. -/
def encR (x : Rc) : List Value := [.int .u64 x.1, .int .u64 x.2]
/-- Its value. -/
def valR (x : Rc) : Value := .agg #[.int .u64 x.1, .int .u64 x.2]
/-- Its numbers are of 64 bits. -/
def okR (x : Rc) : Prop := (0 ≤ x.1 ∧ x.1 < 18446744073709551616) ∧ (0 ≤ x.2 ∧ x.2 < 18446744073709551616)
/-- Does x stand ahead of y? -/
def ltR (x y : Rc) : Bool := decide (x.1 < y.1) || (decide (x.1 = y.1) && decide (x.2 < y.2))

/-- All cells of a row of records. -/
def flatR (es : List Rc) : List Value := es.flatMap encR

theorem encR_length (x : Rc) : (encR x).length = 2 := rfl
theorem flatR_length (es : List Rc) : (flatR es).length = es.length * 2 := by
  induction es with
  | nil => rfl
  | cons x es ih => rw [flatR, List.flatMap_cons, List.length_append, encR_length]; rw [flatR] at ih; rw [ih]; simp; omega
theorem flatR_cons (x : Rc) (es : List Rc) : flatR (x :: es) = encR x ++ flatR es := by simp [flatR]
theorem flatR_append (es fs : List Rc) : flatR (es ++ fs) = flatR es ++ flatR fs := by simp [flatR]
theorem flatR_at (es : List Rc) (j i : Nat) (hj : j < es.length) (hi : i < 2) : (flatR es)[j * 2 + i]? = (encR es[j]!)[i]? := by
  induction es generalizing j with
  | nil => simp at hj
  | cons x es ih =>
    rw [flatR_cons]
    cases j with
    | zero => rw [List.getElem?_append_left (by rw [encR_length]; omega)]; simp
    | succ j =>
      rw [List.getElem?_append_right (by rw [encR_length]; omega), encR_length, show (j + 1) * 2 + i - 2 = j * 2 + i by omega, ih j (by simpa using hj)]
      simp
theorem flatR_set (es : List Rc) (k : Nat) (hk : k < es.length) (x : Rc) : flatR (es.set k x) = ((flatR es).set (k * 2) (.int .u64 x.1)).set (k * 2 + 1) (.int .u64 x.2) := by
  induction es generalizing k with
  | nil => simp at hk
  | cons y es ih =>
    cases k with
    | zero => simp [flatR_cons, encR]
    | succ k =>
      rw [List.set_cons_succ, flatR_cons, ih k (by simpa using hk), flatR_cons]
      have h3 : ∀ (l : List Value) (i : Nat) (v : Value), (encR y ++ l).set (i + 2) v = encR y ++ l.set i v := fun l i v => by simp [encR]
      rw [show (k + 1) * 2 = k * 2 + 2 by omega, h3, show k * 2 + 2 + 1 = (k * 2 + 1) + 2 by omega, h3]
theorem flatR_take (es : List Rc) (k : Nat) : flatR (es.take k) = (flatR es).take (k * 2) := by
  induction es generalizing k with
  | nil => simp [flatR]
  | cons x es ih =>
    cases k with
    | zero => simp [flatR]
    | succ k => rw [List.take_succ_cons, flatR_cons, flatR_cons, ih, show (k + 1) * 2 = k * 2 + 2 by omega]; simp [encR]
theorem flatR_oneCell (es : List Rc) : ∀ v ∈ flatR es, v.oneCell' = true := by
  intro v hv
  simp only [flatR, List.mem_flatMap] at hv
  obtain ⟨x, _, hv⟩ := hv
  simp only [encR, List.mem_cons, List.not_mem_nil, or_false] at hv
  rcases hv with rfl | rfl <;> rfl

/-- A row of records of its own: nil, or a block. -/
def RowR (w : World) (v : Value) (l : List Rc) : Prop := w.ownsRow 0 52 2 v l.length (flatR l) ∧ ∀ e ∈ l, okR e
/-- A slice that holds records. -/
def IsR (w : World) (v : Value) (l : List Rc) : Prop :=
  ∃ a cap, v = .slice a l.length cap ∧ l.length ≤ cap ∧ (a = none → l = [] ∧ cap = 0) ∧ (∀ x, a = some x → ∀ j u, (flatR l)[j]? = some u → w.cell? (x.add j) = some u) ∧ ∀ e ∈ l, okR e

theorem Tryz.infoRec : (Tryz.prog.info? 52).map (fun i => (i.zero, i.size, i.bytes)) = some (some (.agg #[.int .u64 0, .int .u64 0]), 2, 16) := by kernel_rfl

section
variable {w w' : World} {v : Value} {l : List Rc}

theorem RowR.kept {fp : List Nat} (h : RowR w v l) (hk : Kept fp w w') (hf : ∀ x ∈ own v, x ∉ fp) : RowR w' v l := ⟨ownsRow_kept h.1 hk hf, h.2⟩
theorem RowR.drew (h : RowR w v l) : RowR w.drew v l := h
theorem RowR.nil (w : World) : RowR w (.slice none 0 0) [] := ⟨World.ownsRow_nil _ _ _ _, by simp⟩
theorem RowR.low (h : RowR w v l) : ∀ x ∈ own v, x < w.heap.size := fun x hx => (World.ownsRow.lt h.1 x (by simpa [own] using hx)).2

theorem RowR.form (h : RowR w v l) : (v = .slice none 0 0 ∧ l = []) ∨ ∃ g cap, v = .slice (some ⟨g, 0, none⟩) l.length cap ∧ l.length ≤ cap := by
  rcases h.1.2 with ⟨e, h0⟩ | ⟨g, cap, cur, e, _, _, hn, _⟩
  · exact .inl ⟨e, List.eq_nil_of_length_eq_zero h0⟩
  · exact .inr ⟨g, cap, e, hn⟩

theorem RowR.blk (h : RowR w v l) (h0 : 0 < l.length) : ∃ g cap, v = .slice (some ⟨g, 0, none⟩) l.length cap ∧ l.length ≤ cap := by
  rcases h.form with ⟨_, rfl⟩ | h
  · simp at h0
  · exact h

theorem RowR.cellAt {g n cap : Nat} (h : RowR w (.slice (some ⟨g, 0, none⟩) n cap) l) (j i : Nat) (u : Value) (hj : j < l.length) (hu : (encR l[j]!)[i]? = some u) : w.cell? ⟨g, j * 2 + i, none⟩ = some u := by
  have hi : i < 2 := by have := (List.getElem?_eq_some_iff.1 hu).1; rw [encR_length] at this; exact this
  have := h.1.cells (g := g) rfl (j * 2 + i) u (by rw [flatR_at l j i hj hi]; exact hu)
  rw [Addr.add_lit, Nat.zero_add] at this
  exact this

/-- The two cells of a place. -/
theorem RowR.cell2 {g n cap : Nat} (h : RowR w (.slice (some ⟨g, 0, none⟩) n cap) l) (j : Nat) (hj : j < l.length) : w.cell? ⟨g, j * 2, none⟩ = some (.int .u64 l[j]!.1) ∧ w.cell? ⟨g, j * 2 + 1, none⟩ = some (.int .u64 l[j]!.2) :=
  ⟨h.cellAt j 0 _ hj rfl, h.cellAt j 1 _ hj rfl⟩

theorem RowR.frozenAt {g n cap : Nat} (h : RowR w (.slice (some ⟨g, 0, none⟩) n cap) l) (j : Nat) : w.frozen? ⟨g, j, none⟩ = false := by
  rcases h.1.2 with ⟨e, _⟩ | ⟨g', cap', cur, e, _, hg, _⟩
  · simp at e
  · simp only [Value.slice.injEq, Option.some.injEq, Addr.mk.injEq, and_true] at e
    rw [← e.1] at hg
    exact frozen_of_heap hg j

theorem RowR.len {a : Option Addr} {n cap : Nat} (h : RowR w (.slice a n cap) l) : n = l.length := by
  rcases h.1.2 with ⟨e, h0⟩ | ⟨g', cap', cur, e, _⟩
  · simp only [Value.slice.injEq] at e; omega
  · simp only [Value.slice.injEq] at e; omega

theorem RowR.isR (h : RowR w v l) : IsR w v l := by
  rcases h.form with ⟨rfl, rfl⟩ | ⟨g, cap, rfl, hn⟩
  · exact ⟨none, 0, rfl, Nat.le_refl _, fun _ => ⟨rfl, rfl⟩, by simp, by simp⟩
  · refine ⟨_, cap, rfl, hn, by simp, fun x hx j u hu => ?_, h.2⟩
    simp only [Option.some.injEq] at hx
    subst hx
    exact h.1.cells (g := g) rfl j u hu

theorem RowR.okAt (h : RowR w v l) (j : Nat) (hj : j < l.length) : okR l[j]! := by rw [getElem!_pos l j hj]; exact h.2 _ (List.getElem_mem hj)

/-- 'row[k] = x'. -/
theorem RowR.stored {g n cap : Nat} (h : RowR w (.slice (some ⟨g, 0, none⟩) n cap) l) (k : Nat) (hk : k < l.length) (x : Rc) (hx : okR x) :
    RowR ((w.setCell ⟨g, k * 2, none⟩ (.int .u64 x.1)).setCell ⟨g, k * 2 + 1, none⟩ (.int .u64 x.2)) (.slice (some ⟨g, 0, none⟩) n cap) (l.set k x) := by
  have e := h.len
  subst e
  refine ⟨?_, fun y hy => ?_⟩
  · have h1 := (h.1.stored (k * 2) (.int .u64 x.1)).1
    have h2 := (h1.stored (k * 2 + 1) (.int .u64 x.2)).1
    rw [← flatR_set l k hk x] at h2
    rw [List.length_set]
    exact h2
  · rcases List.mem_or_eq_of_mem_set hy with hy | rfl
    · exact h.2 y hy
    · exact hx

theorem IsR.below (h : IsR w v l) (hb : Below w.heap.size w w') : IsR w' v l := by
  obtain ⟨a, cap, rfl, h1, h2, h3, h4⟩ := h
  refine ⟨a, cap, rfl, h1, h2, fun x hx j u hu => ?_, h4⟩
  have := h3 x hx j u hu
  have hlt := World.block_lt_of_cell? w _ this
  rw [World.cell?_of_block (w := w) (hb.block _ hlt)]
  exact this

/-- The same, for a slice whose block lies below n. -/
theorem IsR.form (h : IsR w v l) : ∃ a cap, v = .slice a l.length cap ∧ l.length ≤ cap := by
  obtain ⟨a, cap, e, h1, _⟩ := h
  exact ⟨a, cap, e, h1⟩

end

theorem RowR.append {w : World} {v x : Value} {l m : List Rc} (h : RowR w v l) (hx : IsR w x m) (hlen : l.length + m.length ≤ 1099511627776) (ty : TypeId) :
    ∃ v' w', (Builtin.append_ #[22, 22] ty #[v, x]).run Tryz.prog w = .ok v' w' ∧ RowR w' v' (l ++ m) ∧ Kept (own v) w w' ∧ Newly w (own v) (own v') := by
  obtain ⟨i0, hi, hz0, hz1, hz2⟩ := info_parts Tryz.infoRec
  obtain ⟨ad, c, rfl, h1, h2, h3, h4⟩ := hx
  have hok : ∀ e ∈ l ++ m, okR e := fun e he => by
    rcases List.mem_append.1 he with he | he
    · exact h.2 e he
    · exact h4 e he
  cases ad with
  | none =>
    obtain ⟨rfl, rfl⟩ := h2 rfl
    have hrun := run_append_owned_none (P := Tryz.prog) (w := w) 0 22 ty 52 i0 2 Tryz.underlying22 hi _ _ _ h.1
    exact ⟨v, w, hrun, by simpa using h, Kept.refl _ _, Newly.refl _ _⟩
  | some ad =>
    obtain ⟨v', w', hr, ho, hg, hn, hat⟩ := run_append_own_at (P := Tryz.prog) w 0 22 ty 52 i0 _ 2 16 Tryz.underlying22 hi hz0 hz1 hz2 rfl (by decide) v l.length _ h.1 ad m.length c (flatR m) (flatR_length m) (h3 ad rfl) (flatR_oneCell m) (by unfold maxLen; omega) (by omega) (Nat.zero_le _)
    refine ⟨v', w', hr, ⟨?_, hok⟩, Kept.of_grown hg, ?_⟩
    · rw [flatR_append, List.length_append]
      exact ho
    · intro y hy
      rcases hat with e | e
      · exact .inl (by simpa [own, e] using hy)
      · simp [own, e] at hy
        subst hy
        exact .inr (Nat.le_refl _)

section
variable {ops : Array Oper} {rest : List Oper} {o : Oper} {a : Act} {Q : Exit → Act → World → Prop}

theorem wp_appendRc (w : World) (hgd : o.guard = none) (s x : Operand) (ho : o.op = .call { callee := .builtin .append, args := #[s, x], argTypes := #[22, 22] })
    (v u : Value) (l m : List Rc) (hs : a.eval s = v) (hrow : RowR w v l) (hx : a.eval x = u) (hu : IsR w u m) (hlen : l.length + m.length ≤ 1099511627776)
    (h : ∀ v' w', RowR w' v' (l ++ m) → Kept (own v) w w' → Newly w (own v) (own v') → wpList Tryz.prog ops Q rest (a.put o.dst v') w') :
    wpList Tryz.prog ops Q (o :: rest) a w := by
  refine wpList_plain hgd fun K hK => ?_
  obtain ⟨v', w', hr, h2, h3, h4⟩ := hrow.append hu hlen o.type
  unfold Oper.wp execOp
  simp only [ho, resolve, invoke, builtin, Sem.run_bind, Sem.run_pure, Result.andThen_ok, List.map_toArray, List.map_cons, List.map_nil, hs, hx, hr]
  exact hK _ _ (h v' w' h2 h3 h4)

theorem step_appendRc {K : Act → World → Prop} {E : Prop} (w : World) (hgd : o.guard = none) (s x : Operand) (ho : o.op = .call { callee := .builtin .append, args := #[s, x], argTypes := #[22, 22] })
    (v u : Value) (l m : List Rc) (hs : a.eval s = v) (hrow : RowR w v l) (hx : a.eval x = u) (hu : IsR w u m) (hlen : l.length + m.length ≤ 1099511627776)
    (h : ∀ v' w', RowR w' v' (l ++ m) → Kept (own v) w w' → Newly w (own v) (own v') → K (a.put o.dst v') w') :
    if Region.wanted o (yielded ops a.tmps) = true then Oper.wp Tryz.prog o a w K Q else E := by
  have hw : Region.wanted o (yielded ops a.tmps) = true := by simp [Region.wanted, hgd]
  rw [if_pos hw]
  obtain ⟨v', w', hr, h2, h3, h4⟩ := hrow.append hu hlen o.type
  unfold Oper.wp execOp
  simp only [ho, resolve, invoke, builtin, Sem.run_bind, Sem.run_pure, Result.andThen_ok, List.map_toArray, List.map_cons, List.map_nil, hs, hx, hr]
  exact h v' w' h2 h3 h4
end

/-- A row up to a place: its block stays its own. -/
theorem RowR.front {w : World} {g cap : Nat} {l : List Rc} (h : RowR w (.slice (some ⟨g, 0, none⟩) l.length cap) l) (k : Nat) (hk : k ≤ l.length) : RowR w (.slice (some ⟨g, 0, none⟩) k cap) (l.take k) := by
  have hl : (l.take k).length = k := by rw [List.length_take]; omega
  refine ⟨⟨by rw [flatR_length, hl], ?_⟩, fun e he => h.2 e (List.mem_of_mem_take he)⟩
  rcases h.1.2 with ⟨e, _⟩ | ⟨g', cap', cur, e, hb, hg, hn, hm, hs, ht⟩
  · simp at e
  · simp only [Value.slice.injEq, Option.some.injEq, Addr.mk.injEq, and_true, true_and] at e
    obtain ⟨rfl, rfl⟩ := e
    refine .inr ⟨g, cap, cur, by rw [hl], hb, hg, by rw [hl]; omega, hm, hs, ?_⟩
    rw [hl, flatR_take, ← ht, List.take_take, Nat.min_eq_left (by omega)]

end Go.Proofs.YtgpbanjammipiaaGreatDoor

namespace Go.Proofs.YtgpbanjammipiaaGreatDoor
open Go.RowKit Go.ChangeShapes Go.WideShapes Go.ChangeAt

variable {w w' : World}

theorem IsR.opened {v : Value} {l : List Rc} (h : IsR w v l) (h0 : 0 < l.length) : ∃ b off cap, v = .slice (some ⟨b, off, none⟩) l.length cap ∧ l.length ≤ cap ∧
    ∀ j, j < l.length → w.cell? ⟨b, off + j * 2, none⟩ = some (.int .u64 l[j]!.1) ∧ w.cell? ⟨b, off + j * 2 + 1, none⟩ = some (.int .u64 l[j]!.2) := by
  obtain ⟨a, cap, rfl, h1, h2, h3, h4⟩ := h
  cases a with
  | none => rw [(h2 rfl).1] at h0; simp at h0
  | some x =>
    obtain ⟨b, off, spot⟩ := x
    have hc := h3 _ rfl 0 (.int .u64 l[0]!.1) (by have := flatR_at l 0 0 h0 (by omega); simpa [encR] using this)
    have hspot : spot = none := by simpa [Addr.add] using World.cell?_spot hc
    subst hspot
    refine ⟨b, off, cap, rfl, h1, fun j hj => ?_⟩
    have e1 := h3 _ rfl (j * 2 + 0) (.int .u64 l[j]!.1) (by rw [flatR_at l j 0 hj (by omega)]; rfl)
    have e2 := h3 _ rfl (j * 2 + 1) (.int .u64 l[j]!.2) (by rw [flatR_at l j 1 hj (by omega)]; rfl)
    rw [Addr.add_lit] at e1 e2
    exact ⟨e1, e2⟩

theorem IsR.okAt {v : Value} {l : List Rc} (h : IsR w v l) (j : Nat) (hj : j < l.length) : okR l[j]! := by
  obtain ⟨a, cap, rfl, h1, h2, h3, h4⟩ := h
  rw [getElem!_pos l j hj]
  exact h4 _ (List.getElem_mem hj)

theorem IsR.low {v : Value} {l : List Rc} (h : IsR w v l) (h0 : 0 < l.length) : ∀ b ∈ own v, b < w.heap.size := by
  obtain ⟨b, off, cap, rfl, _, hc⟩ := h.opened h0
  intro x hx
  simp [own, Value.ownBlock] at hx
  subst hx
  exact World.block_lt_of_cell? w _ (hc 0 h0).1

theorem IsR.kept {fp : List Nat} {w w' : World} {v : Value} {l : List Rc} (h : IsR w v l) (hk : Kept fp w w') (hf : ∀ x ∈ own v, x ∉ fp) : IsR w' v l := by
  obtain ⟨a, cap, rfl, h1, h2, h3, h4⟩ := h
  refine ⟨a, cap, rfl, h1, h2, fun x hx j u hu => ?_, h4⟩
  subst hx
  refine hk.cell (h3 x rfl j u hu) ?_
  have hb : (x.add j).block = x.block := by unfold Addr.add; split <;> rfl
  rw [hb]
  exact hf x.block (by simp [own, Value.ownBlock])

theorem IsR.alloc {w : World} {v : Value} {l : List Rc} (h : IsR w v l) (o : Obj) : IsR (w.alloc o) v l := h.kept ((Kept.refl [] _).alloc o) (fun _ _ => by simp)

theorem rowR_empty (w : World) : RowR (w.alloc (.cells #[] 52)) (.slice (some ⟨w.heap.size, 0, none⟩) 0 0) [] :=
  ⟨World.ownsRow_made w #[] 0 (Nat.zero_le _) (by unfold maxLen; omega) rfl, by simp⟩

theorem IsR.keptN {fp : List Nat} {w w' : World} {v : Value} {l : List Rc} (h : IsR w v l) (hk : Kept fp w w') (hf : l ≠ [] → ∀ x ∈ own v, x ∉ fp) : IsR w' v l := by
  obtain ⟨a, cap, rfl, h1, h2, h3, h4⟩ := h
  refine ⟨a, cap, rfl, h1, h2, fun x hx j u hu => ?_, h4⟩
  subst hx
  have hne : l ≠ [] := fun e => by subst e; simp [flatR] at hu
  refine hk.cell (h3 x rfl j u hu) ?_
  have hb : (x.add j).block = x.block := by unfold Addr.add; split <;> rfl
  rw [hb]
  exact hf hne x.block (by simp [own, Value.ownBlock])

/-- A slice of records that came in. -/
theorem recsIn {H : Type} {enc : TypeId × Value → H} {W : World} {base : Nat} {spare : Nat → Bool} {held : Bool} {fuel : Nat} {cs : List Value} {x : DataW H × List MemPlace}
    (h : DataW.trod enc Tryz.prog W base spare held fuel 22 cs = some x) : ∃ a len cap es, cs = [.slice a len cap] ∧ IsR W (.slice a len cap) es ∧ es.length = len ∧ len ≤ maxLen := by
  rcases Go.Deep.open_slice_pairs Tryz.underlying22 Tryz.underlying52 (by kernel_rfl) rfl rfl (by kernel_rfl) (by kernel_rfl) h with ⟨rfl, _⟩ | ⟨a, len, cap, m, n, V0, V1, D0, D1, P0, P1, rfl, hb, hl, hm, hmm, _, hx⟩
  · exact ⟨none, 0, 0, [], rfl, ⟨none, 0, rfl, Nat.le_refl _, fun _ => ⟨rfl, rfl⟩, by simp, by simp⟩, rfl, by unfold maxLen; omega⟩
  · have hlm : len ≤ m := by rw [hmm]; split <;> omega
    obtain ⟨E, hE⟩ := Go.Deep.choose_lt (α := Rc) (n := len) (p := fun i e => W.cell? (a.add (i * 2)) = some (.int .u64 e.1) ∧ W.cell? (a.add (i * 2 + 1)) = some (.int .u64 e.2) ∧ okR e) (fun i hi => by
      obtain ⟨h1, h2, h3, h4⟩ := hx i (by omega)
      obtain ⟨z, e0, _, wz⟩ := DataW.trod_int Tryz.underlying50 h3
      obtain ⟨s, e1, _, ws⟩ := DataW.trod_int Tryz.underlying50 h4
      simp only [List.cons.injEq, and_true] at e0 e1
      rw [e0] at h1
      rw [e1] at h2
      have b1 := bounds_u64 wz
      have b2 := bounds_u64 ws
      exact ⟨(z, s), h1, h2, ⟨by omega, by omega⟩⟩)
    have hlen : ((List.range len).map E).length = len := by simp
    refine ⟨some a, len, cap, (List.range len).map E, rfl, ⟨some a, cap, by rw [hlen], by rw [hlen]; exact hl, by simp, fun x hx j u hu => ?_, fun e he => ?_⟩, hlen, by omega⟩
    · simp only [Option.some.injEq] at hx
      subst hx
      have hj : j < len * 2 := by have := (List.getElem?_eq_some_iff.1 hu).1; rw [flatR_length, hlen] at this; exact this
      have e := flatR_at ((List.range len).map E) (j / 2) (j % 2) (by rw [hlen]; omega) (by omega)
      rw [show j / 2 * 2 + j % 2 = j by omega, hu] at e
      have e1 : ((List.range len).map E)[j / 2]! = E (j / 2) := by rw [getElem!_pos _ (j / 2) (by rw [hlen]; omega)]; simp
      rw [e1] at e
      obtain ⟨q1, q2, _⟩ := hE (j / 2) (by omega)
      rcases (by omega : j % 2 = 0 ∨ j % 2 = 1) with h0 | h0
      · rw [h0] at e
        rw [show j / 2 * 2 = j by omega] at q1
        simp [encR] at e
        rw [q1, e]
      · rw [h0] at e
        rw [show j / 2 * 2 + 1 = j by omega] at q2
        simp [encR] at e
        rw [q2, e]
    · simp only [List.mem_map, List.mem_range] at he
      obtain ⟨i, hi, rfl⟩ := he
      exact (hE i hi).2.2

/-- What came in, read in a later world. -/
theorem IsR.read {w0 w : World} {a : Option Addr} {n cap : Nat} {l : List Rc} (h : IsR w0 (.slice a n cap) l) (hb : Below w0.heap.size w0 w) (j : Nat) (hj : j < l.length) :
    ∃ b off, a = some ⟨b, off, none⟩ ∧ w.cell? ⟨b, off + j * 2, none⟩ = some (.int .u64 l[j]!.1) ∧ w.cell? ⟨b, off + j * 2 + 1, none⟩ = some (.int .u64 l[j]!.2) := by
  obtain ⟨b, off, c, e, _, hc⟩ := (h.below hb).opened (by omega)
  simp only [Value.slice.injEq] at e
  exact ⟨b, off, e.1, hc j hj⟩

theorem IsR.take {w : World} {a : Option Addr} {n cap : Nat} {l : List Rc} (h : IsR w (.slice a n cap) l) (k : Nat) (hk : k ≤ l.length) : IsR w (.slice a k cap) (l.take k) := by
  obtain ⟨a', cap', e, h1, h2, h3, h4⟩ := h
  simp only [Value.slice.injEq] at e
  obtain ⟨rfl, rfl, rfl⟩ := e
  have hl : (l.take k).length = k := by rw [List.length_take]; omega
  refine ⟨a, cap, by rw [hl], by omega, fun e => ⟨by rw [(h2 e).1]; simp, (h2 e).2⟩, fun x hx j u hu => ?_, fun e he => h4 e (List.mem_of_mem_take he)⟩
  rw [flatR_take] at hu
  have hj : j < k * 2 := by
    have := (List.getElem?_eq_some_iff.1 hu).1
    simp at this
    omega
  rw [List.getElem?_take_of_lt hj] at hu
  exact h3 x hx j u hu

theorem eq_take {l m : List Rc} {i : Nat} (hl : i < l.length) (hm : i < m.length) (h : l.take i = m.take i) (e : l[i]! = m[i]!) : l.take (i + 1) = m.take (i + 1) := by
  rw [List.take_succ_eq_append_getElem hl, List.take_succ_eq_append_getElem hm, h]
  rw [getElem!_pos l i hl, getElem!_pos m i hm] at e
  rw [e]

set_option maxRecDepth 100000 in
set_option maxHeartbeats 2000000 in
theorem same_recs {w : World} {v u : Value} {l m : List Rc} (h : IsR w v l) (k : IsR w u m) (hl : l.length ≤ 1000000) :
    Calls Tryz.prog 18 #[v, u] w fun e w' => e = .returned (.bool (decide (l = m))) ∧ Kept [] w w' := by
  obtain ⟨a, cap, rfl, hcap⟩ := h.form
  obtain ⟨b, cap2, rfl, hcap2⟩ := k.form
  by_cases hlm : l.length = m.length
  · have H := hide h
    have K := hide k
    obtain ⟨n, hn⟩ : ∃ n, n = l.length := ⟨_, rfl⟩
    have HN := hide (And.intro hn hlm)
    rw [← hlm, ← hn]
    rw [← hn] at hl
    clear h k hlm hcap hcap2 hn
    have hlt0 : Hid (∀ i, i ≤ n → l.take i = m.take i → i = n → decide (l = m) = true) := fun i _ e hi => by
      rw [List.take_of_length_le (by have := HN.out; omega), List.take_of_length_le (by have := HN.out; omega)] at e
      simpa using e
    have hne0 : Hid (∀ i, i < n → ¬ (l[i]! = m[i]!) → decide (l = m) = false) := fun i _ e => by
      simp only [decide_eq_false_iff_not]
      intro h
      exact e (by rw [h])
    generalize decide (l = m) = r at hlt0 hne0 ⊢
    go_enter Tryz.func18, Tryz.ntmps18
    go_wp2
    go_loopw [5] (fun vi wr => ∃ i : Nat, vi = .int .i64 i ∧ i ≤ n ∧ Hid (l.take i = m.take i) ∧ Hid (Kept [] w wr)) (fun vi _ => n + 1 - numOf vi)
    case atStart => exact ⟨0, by first | rfl | go_num, Nat.zero_le _, rfl, Kept.refl _ _⟩
    case round =>
      obtain ⟨i, rfl, hi, HE, HK⟩ := hrel
      have hw1 : IntKind.i64.wrap ((i : Int) + 1) = (i : Int) + 1 := i64_small _ (by omega) (by omega)
      by_cases hin : i < n
      · have hin' : (i : Int) < (n : Int) := by omega
        have hil : i < l.length := by have := HN.out; omega
        have him : i < m.length := by have := HN.out; omega
        obtain ⟨g, o, c, e, _, hc⟩ := (H.out.kept HK.out (fun _ _ => by simp)).opened (by omega)
        simp only [Value.slice.injEq] at e
        obtain ⟨rfl, _, rfl⟩ := e
        obtain ⟨g', o', c', e', _, hc'⟩ := (K.out.kept HK.out (fun _ _ => by simp)).opened (by omega)
        simp only [Value.slice.injEq] at e'
        obtain ⟨rfl, _, rfl⟩ := e'
        obtain ⟨c1, c2⟩ := hc i hil
        obtain ⟨d1, d2⟩ := hc' i him
        have HX : Hid (l[i]! = m[i]! → l.take (i + 1) = m.take (i + 1)) := fun e => eq_take hil him HE.out e
        have HY := hide (hne0.out i hin)
        generalize l[i]! = x at c1 c2 HX HY
        generalize m[i]! = y at d1 d2 HX HY
        obtain ⟨x1, x2⟩ := x
        obtain ⟨y1, y2⟩ := y
        dsimp only at c1 c2 d1 d2
        clear hc hc'
        by_cases h1 : x1 = y1
        · by_cases h2 : x2 = y2
          · subst h1
            subst h2
            go_wp2
            go_quiet (fail)
            go_wp2
            go_roundw
            case rel =>
              refine ⟨i + 1, by go_num, by omega, ?_, HK.out.drewN _⟩
              first | exact HX.out trivial | exact HX.out rfl
            case measure => simp [numOf]; omega
          · subst h1
            have HR : Hid (r = false) := HY.out (by simp [h2])
            have h2b : (x2 != y2) = true := by simpa using h2
            go_wp2
            go_quiet (fail)
            go_wp2
            go_ret
            exact ⟨by rw [HR.out]; rfl, HK.out.drewN _⟩
        · have HR : Hid (r = false) := HY.out (by simp [h1])
          have h1b : (x1 != y1) = true := by simpa using h1
          go_wp2
          go_quiet (fail)
          go_wp2
          go_ret
          exact ⟨by rw [HR.out]; rfl, HK.out.drewN _⟩
      · obtain rfl : i = n := by omega
        have HR : Hid (r = true) := hlt0.out i (Nat.le_refl _) HE.out rfl
        go_wp2
        go_ret
        exact ⟨by rw [HR.out]; rfl, HK.out⟩
  · have e : decide (l = m) = false := by
      simp only [decide_eq_false_iff_not]
      intro h
      exact hlm (by rw [h])
    rw [e]
    have hne : ¬ ((l.length : Int) = (m.length : Int)) := by omega
    have hb : ((l.length : Int) != (m.length : Int)) = true := by simpa using hne
    clear h k e
    go_enter Tryz.func18, Tryz.ntmps18
    go_wp2
    go_ret
    exact ⟨rfl, Kept.refl _ _⟩

end Go.Proofs.YtgpbanjammipiaaGreatDoor

namespace Go.Proofs.YtgpbanjammipiaaGreatDoor
open Go.RowKit

/-- A slice of one record that has just been laid. -/
theorem isR_one (w : World) (x1 x2 : Int) (hx : okR (x1, x2)) : IsR (w.alloc (.cells #[.int .u64 x1, .int .u64 x2] 52)) (.slice (some ⟨w.heap.size, 0, none⟩) 1 1) [(x1, x2)] := by
  refine ⟨_, 1, rfl, Nat.le_refl _, by simp, fun x hx j u hu => ?_, by simpa using hx⟩
  simp only [Option.some.injEq] at hx
  subst hx
  rw [Addr.add_lit, Nat.zero_add, cell_of_heap (heap_alloc_new w _)]
  match j, hu with
  | 0, hu => simpa [flatR, encR] using hu
  | 1, hu => simpa [flatR, encR] using hu
  | j + 2, hu => simp [flatR, encR] at hu

end Go.Proofs.YtgpbanjammipiaaGreatDoor

namespace Go.Proofs.YtgpbanjammipiaaGreatDoor
open Go.RowKit

theorem i64_and65535 (n : Int) : bits .and .i64 n 65535 = n % 65536 := by
  have hm : (BitVec.ofInt 64 65535).toNat = 2 ^ 16 - 1 := by decide
  have key : (BitVec.ofInt 64 n &&& BitVec.ofInt 64 65535).toNat = (n % ((2 ^ 64 : Nat) : Int)).toNat % 2 ^ 16 := by
    rw [BitVec.toNat_and, BitVec.toNat_ofInt, hm, Nat.and_two_pow_sub_one_eq_mod]
  show IntKind.i64.wrap ((BitVec.ofInt 64 n &&& BitVec.ofInt 64 65535).toNat : Nat) = n % 65536
  rw [key, IntKind.wrap_i64]
  omega

theorem i64_and7 (n : Int) : bits .and .i64 n 7 = n % 8 := by
  have hm : (BitVec.ofInt 64 7).toNat = 2 ^ 3 - 1 := by decide
  have key : (BitVec.ofInt 64 n &&& BitVec.ofInt 64 7).toNat = (n % ((2 ^ 64 : Nat) : Int)).toNat % 2 ^ 3 := by
    rw [BitVec.toNat_and, BitVec.toNat_ofInt, hm, Nat.and_two_pow_sub_one_eq_mod]
  show IntKind.i64.wrap ((BitVec.ofInt 64 n &&& BitVec.ofInt 64 7).toNat : Nat) = n % 8
  rw [key, IntKind.wrap_i64]
  omega

end Go.Proofs.YtgpbanjammipiaaGreatDoor
