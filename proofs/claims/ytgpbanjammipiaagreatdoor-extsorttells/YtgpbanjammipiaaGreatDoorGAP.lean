/-
  Lemma texts, one behind the other: KMem, KPure, KCmp, KRise, KSink, KOps. No statement of the seat is proved here.
-/
import Derived.Test.YtgpbanjammipiaaGreatDoorGAK
namespace Go.Proofs.YtgpbanjammipiaaGreatDoor.K
open Go.RowKit

/-! ### Sources by their records: bk tells the block of the source of a row -/

/-- A source's record, and its row: Key, Val, row. -/
abbrev Rc := Int × Int × Int
/-- Its numbers. -/
def okR (x : Rc) : Prop := (0 ≤ x.1 ∧ x.1 < 18446744073709551616) ∧ (0 ≤ x.2.1 ∧ x.2.1 < 18446744073709551616) ∧ (0 ≤ x.2.2 ∧ x.2.2 < 9223372036854775808)
/-- Does x stand ahead of y? -/
def ltR (x y : Rc) : Bool := decide (x.1 < y.1) || (decide (x.1 = y.1) && (decide (x.2.1 < y.2.1) || (decide (x.2.1 = y.2.1) && decide (x.2.2 < y.2.2))))
/-- The pointer to its source. -/
def ptr (bk : Int → Nat) (x : Rc) : Value := .pointer (some ⟨bk x.2.2, 0, none⟩)
/-- A row's cells. -/
def flatR (bk : Int → Nat) (es : List Rc) : List Value := es.map (ptr bk)
theorem flatR_length (bk : Int → Nat) (es : List Rc) : (flatR bk es).length = es.length := by simp [flatR]
theorem flatR_oneCell (bk : Int → Nat) (es : List Rc) : ∀ v ∈ flatR bk es, v.oneCell' = true := by
  intro v hv
  simp only [flatR, List.mem_map] at hv
  obtain ⟨x, _, rfl⟩ := hv
  rfl

/-- A source in its block: its record, and its row. -/
def Src (w : World) (b : Nat) (x : Rc) : Prop := ∃ i r, w.heap[b]? = some (.cells #[.int .u64 x.1, .int .u64 x.2.1, i, r, .int .i64 x.2.2] 81 (0, 0))

/-- A row of pointers of its own: nil, or a block; the sources are there. -/
def RowR (bk : Int → Nat) (w : World) (v : Value) (l : List Rc) : Prop := w.ownsRow 0 79 1 v l.length (flatR bk l) ∧ ∀ e ∈ l, okR e ∧ Src w (bk e.2.2) e ∧ bk e.2.2 ∉ own v
/-- A slice that holds pointers to sources. -/
def IsR (bk : Int → Nat) (w : World) (v : Value) (l : List Rc) : Prop :=
  ∃ a cap, v = .slice a l.length cap ∧ l.length ≤ cap ∧ (a = none → l = [] ∧ cap = 0) ∧ (∀ x, a = some x → ∀ j u, (flatR bk l)[j]? = some u → w.cell? (x.add j) = some u)

theorem Tryz.infoSrc : (Tryz.prog.info? 79).map (fun i => (i.zero, i.size, i.bytes)) = some (some (.pointer none), 1, 8) := by kernel_rfl

section
variable {bk : Int → Nat} {w w' : World} {v : Value} {l : List Rc}

theorem Src.kept {fp : List Nat} {b : Nat} {x : Rc} (h : Src w b x) (hk : Kept fp w w') (hb : b ∉ fp) : Src w' b x := by
  obtain ⟨i, r, h⟩ := h
  exact ⟨i, r, hk.heap h hb⟩
theorem Src.heap {b : Nat} {x : Rc} (h : Src w b x) (e : w'.heap = w.heap) : Src w' b x := by
  obtain ⟨i, r, h⟩ := h
  exact ⟨i, r, by rw [e]; exact h⟩
theorem Src.lt {b : Nat} {x : Rc} (h : Src w b x) : b < w.heap.size := by
  obtain ⟨i, r, h⟩ := h
  exact (Array.getElem?_eq_some_iff.1 h).1

theorem RowR.kept {fp : List Nat} (h : RowR bk w v l) (hk : Kept fp w w') (hf : ∀ x ∈ own v, x ∉ fp) (hs : ∀ e ∈ l, bk e.2.2 ∉ fp) : RowR bk w' v l :=
  ⟨ownsRow_kept h.1 hk hf, fun e he => ⟨(h.2 e he).1, (h.2 e he).2.1.kept hk (hs e he), (h.2 e he).2.2⟩⟩
theorem RowR.nil (bk : Int → Nat) (w : World) : RowR bk w (.slice none 0 0) [] := ⟨World.ownsRow_nil _ _ _ _, by simp⟩
theorem RowR.low (h : RowR bk w v l) : ∀ x ∈ own v, x < w.heap.size := fun x hx => (World.ownsRow.lt h.1 x (by simpa [own] using hx)).2

theorem RowR.form (h : RowR bk w v l) : (v = .slice none 0 0 ∧ l = []) ∨ ∃ g cap, v = .slice (some ⟨g, 0, none⟩) l.length cap ∧ l.length ≤ cap := by
  rcases h.1.2 with ⟨e, h0⟩ | ⟨g, cap, cur, e, _, _, hn, _⟩
  · exact .inl ⟨e, List.eq_nil_of_length_eq_zero h0⟩
  · exact .inr ⟨g, cap, e, hn⟩

theorem RowR.blk (h : RowR bk w v l) (h0 : 0 < l.length) : ∃ g cap, v = .slice (some ⟨g, 0, none⟩) l.length cap ∧ l.length ≤ cap := by
  rcases h.form with ⟨_, rfl⟩ | h
  · simp at h0
  · exact h

/-- The cell of a place. -/
theorem RowR.cell1 {g n cap : Nat} (h : RowR bk w (.slice (some ⟨g, 0, none⟩) n cap) l) (j : Nat) (hj : j < l.length) : w.cell? ⟨g, j, none⟩ = some (.pointer (some ⟨bk l[j]!.2.2, 0, none⟩)) := by
  have := h.1.cells (g := g) rfl j (ptr bk l[j]!) (by rw [flatR, List.getElem?_map, List.getElem?_eq_getElem hj, getElem!_pos l j hj]; rfl)
  rw [Addr.add_lit, Nat.zero_add] at this
  exact this

theorem RowR.frozenAt {g n cap : Nat} (h : RowR bk w (.slice (some ⟨g, 0, none⟩) n cap) l) (j : Nat) : w.frozen? ⟨g, j, none⟩ = false := by
  rcases h.1.2 with ⟨e, _⟩ | ⟨g', cap', cur, e, _, hg, _⟩
  · simp at e
  · simp only [Value.slice.injEq, Option.some.injEq, Addr.mk.injEq, and_true] at e
    rw [← e.1] at hg
    exact frozen_of_heap hg j

theorem RowR.len {a : Option Addr} {n cap : Nat} (h : RowR bk w (.slice a n cap) l) : n = l.length := by
  rcases h.1.2 with ⟨e, h0⟩ | ⟨g', cap', cur, e, _⟩
  · simp only [Value.slice.injEq] at e; omega
  · simp only [Value.slice.injEq] at e; omega

theorem RowR.okAt (h : RowR bk w v l) (j : Nat) (hj : j < l.length) : okR l[j]! ∧ Src w (bk l[j]!.2.2) l[j]! ∧ bk l[j]!.2.2 ∉ own v := by rw [getElem!_pos l j hj]; exact h.2 _ (List.getElem_mem hj)

theorem flatR_set (bk : Int → Nat) (es : List Rc) (k : Nat) (x : Rc) : flatR bk (es.set k x) = (flatR bk es).set k (ptr bk x) := by simp [flatR]
theorem flatR_append (bk : Int → Nat) (es fs : List Rc) : flatR bk (es ++ fs) = flatR bk es ++ flatR bk fs := by simp [flatR]
theorem flatR_take (bk : Int → Nat) (es : List Rc) (k : Nat) : flatR bk (es.take k) = (flatR bk es).take k := by simp [flatR]

/-- 'row[k] = x'. -/
theorem RowR.stored {g n cap : Nat} (h : RowR bk w (.slice (some ⟨g, 0, none⟩) n cap) l) (k : Nat) (x : Rc) (hx : okR x ∧ Src w (bk x.2.2) x ∧ bk x.2.2 ∉ own (.slice (some ⟨g, 0, none⟩) n cap)) :
    RowR bk (w.setCell ⟨g, k, none⟩ (ptr bk x)) (.slice (some ⟨g, 0, none⟩) n cap) (l.set k x) := by
  have e := h.len
  subst e
  have hk : Kept [g] w (w.setCell ⟨g, k, none⟩ (ptr bk x)) := (Kept.refl _ _).setCell (.inl (by simp)) _
  refine ⟨?_, fun y hy => ?_⟩
  · have h1 := (h.1.stored k (ptr bk x)).1
    rw [← flatR_set bk l k x] at h1
    rw [List.length_set]
    exact h1
  · have hy' : okR y ∧ Src w (bk y.2.2) y ∧ bk y.2.2 ∉ own (.slice (some ⟨g, 0, none⟩) l.length cap) := by
      rcases List.mem_or_eq_of_mem_set hy with hy | rfl
      · exact h.2 y hy
      · exact hx
    exact ⟨hy'.1, hy'.2.1.kept hk (by simpa [own, Value.ownBlock] using hy'.2.2), hy'.2.2⟩

end

theorem RowR.append {bk : Int → Nat} {w : World} {v x : Value} {l m : List Rc} (h : RowR bk w v l) (hx : IsR bk w x m) (hm : ∀ e ∈ m, okR e ∧ Src w (bk e.2.2) e ∧ bk e.2.2 ∉ own v) (hlen : l.length + m.length ≤ 1099511627776) (ty : TypeId) :
    ∃ v' w', (Builtin.append_ #[135, 135] ty #[v, x]).run Tryz.prog w = .ok v' w' ∧ RowR bk w' v' (l ++ m) ∧ Kept (own v) w w' ∧ Newly w (own v) (own v') := by
  obtain ⟨i0, hi, hz0, hz1, hz2⟩ := info_parts Tryz.infoSrc
  obtain ⟨ad, c, rfl, h1, h2, h3⟩ := hx
  have hall : ∀ e ∈ l ++ m, okR e ∧ Src w (bk e.2.2) e ∧ bk e.2.2 ∉ own v := fun e he => by
    rcases List.mem_append.1 he with he | he
    · exact h.2 e he
    · exact hm e he
  cases ad with
  | none =>
    obtain ⟨rfl, rfl⟩ := h2 rfl
    have hrun := run_append_owned_none (P := Tryz.prog) (w := w) 0 135 ty 79 i0 1 Tryz.underlying135 hi _ _ _ h.1
    exact ⟨v, w, hrun, by simpa using h, Kept.refl _ _, Newly.refl _ _⟩
  | some ad =>
    obtain ⟨v', w', hr, ho, hg, hn, hat⟩ := run_append_own_at (P := Tryz.prog) w 0 135 ty 79 i0 _ 1 8 Tryz.underlying135 hi hz0 hz1 hz2 rfl (by decide) v l.length _ h.1 ad m.length c (flatR bk m) (by rw [flatR_length]; omega) (h3 ad rfl) (flatR_oneCell bk m) (by unfold maxLen; omega) (by omega) (Nat.zero_le _)
    have kk : Kept (own v) w w' := Kept.of_grown hg
    have nn : Newly w (own v) (own v') := fun y hy => by
      rcases hat with e | e
      · exact .inl (by simpa [own, e] using hy)
      · simp [own, e] at hy
        subst hy
        exact .inr (Nat.le_refl _)
    refine ⟨v', w', hr, ⟨?_, fun e he => ?_⟩, kk, nn⟩
    · rw [flatR_append, List.length_append]
      exact ho
    · obtain ⟨q1, q2, q3⟩ := hall e he
      refine ⟨q1, q2.kept kk q3, fun hh => ?_⟩
      rcases nn _ hh with h | h
      · exact q3 h
      · have := q2.lt; omega

section
variable {ops : Array Oper} {rest : List Oper} {o : Oper} {a : Act} {Q : Exit → Act → World → Prop}

theorem wp_appendR {bk : Int → Nat} (w : World) (hgd : o.guard = none) (s x : Operand) (ho : o.op = .call { callee := .builtin .append, args := #[s, x], argTypes := #[135, 135] })
    (v u : Value) (l m : List Rc) (hs : a.eval s = v) (hrow : RowR bk w v l) (hx : a.eval x = u) (hu : IsR bk w u m) (hm : ∀ e ∈ m, okR e ∧ Src w (bk e.2.2) e ∧ bk e.2.2 ∉ own v) (hlen : l.length + m.length ≤ 1099511627776)
    (h : ∀ v' w', RowR bk w' v' (l ++ m) → Kept (own v) w w' → Newly w (own v) (own v') → wpList Tryz.prog ops Q rest (a.put o.dst v') w') :
    wpList Tryz.prog ops Q (o :: rest) a w := by
  refine wpList_plain hgd fun K hK => ?_
  obtain ⟨v', w', hr, h2, h3, h4⟩ := hrow.append hu hm hlen o.type
  unfold Oper.wp execOp
  simp only [ho, resolve, invoke, builtin, Sem.run_bind, Sem.run_pure, Result.andThen_ok, List.map_toArray, List.map_cons, List.map_nil, hs, hx, hr]
  exact hK _ _ (h v' w' h2 h3 h4)

theorem step_appendR {bk : Int → Nat} {K : Act → World → Prop} {E : Prop} (w : World) (hgd : o.guard = none) (s x : Operand) (ho : o.op = .call { callee := .builtin .append, args := #[s, x], argTypes := #[135, 135] })
    (v u : Value) (l m : List Rc) (hs : a.eval s = v) (hrow : RowR bk w v l) (hx : a.eval x = u) (hu : IsR bk w u m) (hm : ∀ e ∈ m, okR e ∧ Src w (bk e.2.2) e ∧ bk e.2.2 ∉ own v) (hlen : l.length + m.length ≤ 1099511627776)
    (h : ∀ v' w', RowR bk w' v' (l ++ m) → Kept (own v) w w' → Newly w (own v) (own v') → K (a.put o.dst v') w') :
    if Region.wanted o (yielded ops a.tmps) = true then Oper.wp Tryz.prog o a w K Q else E := by
  have hw : Region.wanted o (yielded ops a.tmps) = true := by simp [Region.wanted, hgd]
  rw [if_pos hw]
  obtain ⟨v', w', hr, h2, h3, h4⟩ := hrow.append hu hm hlen o.type
  unfold Oper.wp execOp
  simp only [ho, resolve, invoke, builtin, Sem.run_bind, Sem.run_pure, Result.andThen_ok, List.map_toArray, List.map_cons, List.map_nil, hs, hx, hr]
  exact h v' w' h2 h3 h4
end

/-- A row up to a place: its block stays its own. -/
theorem RowR.front {bk : Int → Nat} {w : World} {g cap : Nat} {l : List Rc} (h : RowR bk w (.slice (some ⟨g, 0, none⟩) l.length cap) l) (k : Nat) (hk : k ≤ l.length) : RowR bk w (.slice (some ⟨g, 0, none⟩) k cap) (l.take k) := by
  have hl : (l.take k).length = k := by rw [List.length_take]; omega
  refine ⟨⟨by rw [flatR_length, hl]; omega, ?_⟩, fun e he => h.2 e (List.mem_of_mem_take he)⟩
  rcases h.1.2 with ⟨e, _⟩ | ⟨g', cap', cur, e, hb, hg, hn, hm, hs, ht⟩
  · simp at e
  · simp only [Value.slice.injEq, Option.some.injEq, Addr.mk.injEq, and_true, true_and] at e
    obtain ⟨rfl, rfl⟩ := e
    refine .inr ⟨g, cap, cur, by rw [hl], hb, hg, by rw [hl]; omega, hm, hs, ?_⟩
    rw [hl, flatR_take, ← ht, List.take_take, Nat.min_eq_left (by omega), Nat.mul_one]

end Go.Proofs.YtgpbanjammipiaaGreatDoor.K

namespace Go.Proofs.YtgpbanjammipiaaGreatDoor.K

theorem ltR_iff (x y : Rc) : ltR x y = true ↔ x.1 < y.1 ∨ (x.1 = y.1 ∧ (x.2.1 < y.2.1 ∨ (x.2.1 = y.2.1 ∧ x.2.2 < y.2.2))) := by simp [ltR]
theorem ltR_irr (x : Rc) : ltR x x = false := by simp [ltR]
theorem ltR_trans {x y z : Rc} (h : ltR x y = true) (k : ltR y z = true) : ltR x z = true := by
  rw [ltR_iff] at *
  omega
theorem nlt_trans {x y z : Rc} (h : ltR y x = false) (k : ltR z y = false) : ltR z x = false := by
  rw [Bool.eq_false_iff] at *
  rw [Ne, ltR_iff] at *
  omega
theorem nlt_of_lt {x y : Rc} (h : ltR x y = true) : ltR y x = false := by
  rw [Bool.eq_false_iff, Ne]
  rw [ltR_iff] at *
  omega
theorem nlt_antisymm {x y : Rc} (h : ltR x y = false) (k : ltR y x = false) : x = y := by
  rw [Bool.eq_false_iff, Ne, ltR_iff] at h k
  obtain ⟨a, b, b'⟩ := x
  obtain ⟨c, d, d'⟩ := y
  simp only at h k
  have : a = c := by omega
  have : b = d := by omega
  have : b' = d' := by omega
  subst_vars
  rfl

/-- A row that rises. -/
def Rises (l : List Rc) : Prop := l.Pairwise (fun x y => ltR y x = false)

/-- Two rows that rise and have the same records are one. -/
theorem Rises.unique {l m : List Rc} (hl : Rises l) (hm : Rises m) (hp : l.Perm m) : l = m := by
  induction l generalizing m with
  | nil => exact (List.nil_perm.1 hp).symm
  | cons x l ih =>
    cases m with
    | nil => exact absurd hp.length_eq (by simp)
    | cons y m =>
      have hx : x ∈ y :: m := hp.subset (by simp)
      have hy : y ∈ x :: l := hp.symm.subset (by simp)
      have e : x = y := by
        rcases List.mem_cons.1 hx with rfl | hx
        · rfl
        · rcases List.mem_cons.1 hy with rfl | hy
          · rfl
          · exact nlt_antisymm ((List.pairwise_cons.1 hm).1 x hx) ((List.pairwise_cons.1 hl).1 y hy)
      subst e
      rw [ih (List.pairwise_cons.1 hl).2 (List.pairwise_cons.1 hm).2 (List.Perm.cons_inv hp)]

/-- A record put in its place. -/
def insR (x : Rc) : List Rc → List Rc
  | [] => [x]
  | y :: l => if ltR x y = true then x :: y :: l else y :: insR x l

theorem insR_perm (x : Rc) (l : List Rc) : (insR x l).Perm (x :: l) := by
  induction l with
  | nil => exact List.Perm.refl _
  | cons y l ih =>
    unfold insR
    split
    · exact List.Perm.refl _
    · exact (List.Perm.cons y ih).trans (List.Perm.swap x y l)

theorem insR_rises (x : Rc) {l : List Rc} (h : Rises l) : Rises (insR x l) := by
  induction l with
  | nil => simp [insR, Rises]
  | cons y l ih =>
    unfold insR
    obtain ⟨h1, h2⟩ := List.pairwise_cons.1 h
    split
    · rename_i hlt
      refine List.pairwise_cons.2 ⟨fun z hz => ?_, h⟩
      rcases List.mem_cons.1 hz with rfl | hz
      · exact nlt_of_lt hlt
      · exact nlt_trans (nlt_of_lt hlt) (h1 z hz)
    · rename_i hlt
      refine List.pairwise_cons.2 ⟨fun z hz => ?_, ih h2⟩
      rcases List.mem_cons.1 ((insR_perm x l).subset hz) with rfl | hz
      · exact Bool.eq_false_iff.2 hlt
      · exact h1 z hz

theorem insR_length (x : Rc) (l : List Rc) : (insR x l).length = l.length + 1 := by simpa using (insR_perm x l).length_eq

/-- Records, each put in its place. -/
def sortR : List Rc → List Rc → List Rc
  | out, [] => out
  | out, x :: l => sortR (insR x out) l

theorem sortR_append (out l m : List Rc) : sortR out (l ++ m) = sortR (sortR out l) m := by
  induction l generalizing out with
  | nil => rfl
  | cons x l ih => exact ih _

theorem sortR_rises {out : List Rc} (h : Rises out) (l : List Rc) : Rises (sortR out l) := by
  induction l generalizing out with
  | nil => exact h
  | cons x l ih => exact ih (insR_rises x h)

theorem sortR_perm (out l : List Rc) : (sortR out l).Perm (out ++ l) := by
  induction l generalizing out with
  | nil => simp [sortR]
  | cons x l ih =>
    refine (ih (insR x out)).trans ?_
    refine ((insR_perm x out).append_right l).trans ?_
    exact (List.perm_middle (a := x) (l₁ := out) (l₂ := l)).symm

/-! ### Heaps as rows -/

/-- None stands ahead of the one above it. -/
def HeapR (l : List Rc) : Prop := ∀ i, 0 < i → i < l.length → ltR l[i]! l[(i - 1) / 2]! = false

/-- The first stands behind none. -/
theorem HeapR.top {l : List Rc} (h : HeapR l) : ∀ i, i < l.length → ltR l[i]! l[0]! = false := by
  intro i
  induction i using Nat.strongRecOn with
  | ind i ih =>
    intro hi
    rcases Nat.eq_zero_or_pos i with rfl | h0
    · exact ltR_irr _
    · exact nlt_trans (ih ((i - 1) / 2) (by omega) (by omega)) (h i h0 hi)

/-- A row, that is a heap, of the records of S, which rises. -/
structure HeapOf (l S : List Rc) : Prop where
  heap : HeapR l
  perm : l.Perm S
  rises : Rises S

theorem HeapOf.nil : HeapOf [] [] := ⟨fun i _ hi => by simp at hi, List.Perm.refl _, List.Pairwise.nil⟩

theorem HeapOf.first {l S : List Rc} (h : HeapOf l S) (x : Rc) (S' : List Rc) (e : S = x :: S') : l[0]! = x := by
  subst e
  have hl : 0 < l.length := by rw [h.perm.length_eq]; simp
  have hm : l[0]! ∈ x :: S' := h.perm.subset (by rw [getElem!_pos l 0 hl]; exact List.getElem_mem hl)
  have hx : x ∈ l := h.perm.symm.subset (by simp)
  obtain ⟨i, hi, hxi⟩ := List.getElem_of_mem hx
  have h1 := h.heap.top i hi
  rw [getElem!_pos l i hi, hxi] at h1
  rcases List.mem_cons.1 hm with e | hm
  · exact e
  · exact (nlt_antisymm h1 ((List.pairwise_cons.1 h.rises).1 _ hm)).symm

/-- All but the place k are in order; and those below k are in order with the one above k. -/
structure Up (l : List Rc) (k : Nat) : Prop where
  rest : ∀ i, 0 < i → i < l.length → i ≠ k → ltR l[i]! l[(i - 1) / 2]! = false
  below : 0 < k → ∀ i, i < l.length → (i - 1) / 2 = k → 0 < i → ltR l[i]! l[(k - 1) / 2]! = false

theorem Up.done {l : List Rc} {k : Nat} (h : Up l k) (hk : k = 0 ∨ ltR l[k]! l[(k - 1) / 2]! = false) : HeapR l := by
  intro i h0 hi
  by_cases e : i = k
  · subst e
    rcases hk with rfl | hk
    · omega
    · exact hk
  · exact h.rest i h0 hi e

theorem swap_at (l : List Rc) (i j k : Nat) (_ : i < l.length) (_ : j < l.length) (hk : k < l.length) :
    ((l.set i l[j]!).set j l[i]!)[k]! = if k = j then l[i]! else if k = i then l[j]! else l[k]! := by
  rw [getElem!_pos _ k (by simpa using hk)]
  rw [List.getElem_set]
  by_cases e : j = k
  · simp [e]
  · rw [if_neg e, if_neg (fun h : k = j => e h.symm), List.getElem_set]
    by_cases e2 : i = k
    · rw [if_pos e2, if_pos e2.symm]
    · rw [if_neg e2, if_neg (fun h : k = i => e2 h.symm), getElem!_pos l k hk]

theorem swap_perm (l : List Rc) (i j : Nat) (hi : i < l.length) (hj : j < l.length) : ((l.set i l[j]!).set j l[i]!).Perm l := by
  rw [getElem!_pos l i hi, getElem!_pos l j hj]
  exact List.set_set_perm hi hj

theorem swap_len (l : List Rc) (i j : Nat) (x y : Rc) : ((l.set i x).set j y).length = l.length := by simp

theorem Up.step {l : List Rc} {k : Nat} (h : Up l k) (h0 : 0 < k) (hk : k < l.length) (hlt : ltR l[k]! l[(k - 1) / 2]! = true) : Up ((l.set k l[(k - 1) / 2]!).set ((k - 1) / 2) l[k]!) ((k - 1) / 2) := by
  have hp : (k - 1) / 2 < l.length := by omega
  have hpk : (k - 1) / 2 ≠ k := by omega
  constructor
  · intro i hi hl hne
    rw [swap_len] at hl
    rw [swap_at l k ((k - 1) / 2) i hk hp hl, swap_at l k ((k - 1) / 2) ((i - 1) / 2) hk hp (by omega), if_neg hne]
    by_cases e : i = k
    · subst e
      rw [if_pos rfl, if_pos rfl]
      exact nlt_of_lt hlt
    · rw [if_neg e]
      by_cases e1 : (i - 1) / 2 = (k - 1) / 2
      · rw [if_pos e1]
        have := h.rest i hi hl e
        rw [e1] at this
        exact nlt_trans (nlt_of_lt hlt) this
      · rw [if_neg e1]
        by_cases e2 : (i - 1) / 2 = k
        · rw [if_pos e2]
          exact h.below h0 i hl e2 hi
        · rw [if_neg e2]
          exact h.rest i hi hl e
  · intro hp0 i hl hi h1
    rw [swap_len] at hl
    rw [swap_at l k ((k - 1) / 2) i hk hp hl, swap_at l k ((k - 1) / 2) (((k - 1) / 2 - 1) / 2) hk hp (by omega)]
    have hg : ltR l[(k - 1) / 2]! l[((k - 1) / 2 - 1) / 2]! = false := h.rest _ hp0 hp hpk
    rw [if_neg (show ¬ ((k - 1) / 2 - 1) / 2 = (k - 1) / 2 by omega), if_neg (show ¬ ((k - 1) / 2 - 1) / 2 = k by omega)]
    by_cases e : i = (k - 1) / 2
    · omega
    · rw [if_neg e]
      by_cases e2 : i = k
      · rw [if_pos e2]
        exact hg
      · rw [if_neg e2]
        have := h.rest i h1 hl e2
        rw [hi] at this
        exact nlt_trans hg this

theorem Up.start {l : List Rc} (h : HeapR l) (x : Rc) : Up (l ++ [x]) l.length := by
  have hat : ∀ j, j < l.length → (l ++ [x])[j]! = l[j]! := fun j hj => by
    rw [getElem!_pos _ j (by simp; omega), getElem!_pos l j hj, List.getElem_append_left hj]
  constructor
  · intro i h0 hi hne
    have hi' : i < l.length := by simp at hi; omega
    rw [hat i hi', hat _ (by omega)]
    exact h i h0 hi'
  · intro h0 i hi hk h1
    simp at hi
    omega

/-- All but those below the place k are in order; and those below k are in order with the one above k. -/
structure Down (l : List Rc) (k : Nat) : Prop where
  rest : ∀ i, 0 < i → i < l.length → (i - 1) / 2 ≠ k → ltR l[i]! l[(i - 1) / 2]! = false
  below : 0 < k → ∀ i, i < l.length → (i - 1) / 2 = k → 0 < i → ltR l[i]! l[(k - 1) / 2]! = false

theorem Down.done {l : List Rc} {k : Nat} (h : Down l k) (hk : ∀ i, 0 < i → i < l.length → (i - 1) / 2 = k → ltR l[i]! l[k]! = false) : HeapR l := by
  intro i h0 hi
  by_cases e : (i - 1) / 2 = k
  · rw [e]; exact hk i h0 hi e
  · exact h.rest i h0 hi e

/-- f is one below k, ahead of k, and none below k is ahead of it. -/
theorem Down.step {l : List Rc} {k f : Nat} (h : Down l k) (h0 : 0 < f) (hf : f < l.length) (hk : (f - 1) / 2 = k) (hlt : ltR l[f]! l[k]! = true) (hall : ∀ i, 0 < i → i < l.length → (i - 1) / 2 = k → ltR l[i]! l[f]! = false) :
    Down ((l.set k l[f]!).set f l[k]!) f := by
  have hkl : k < l.length := by omega
  have hkf : k ≠ f := by omega
  constructor
  · intro i hi hl hne
    rw [swap_len] at hl
    rw [swap_at l k f i hkl hf hl, swap_at l k f ((i - 1) / 2) hkl hf (by omega), if_neg hne]
    by_cases e : i = f
    · subst e
      rw [if_pos rfl, if_pos hk]
      exact nlt_of_lt hlt
    · rw [if_neg e]
      by_cases e1 : (i - 1) / 2 = k
      · rw [if_pos e1, if_neg (by omega)]
        exact hall i hi hl e1
      · rw [if_neg e1]
        by_cases e2 : i = k
        · rw [if_pos e2]
          subst e2
          exact h.below hi f hf hk h0
        · rw [if_neg e2]
          exact h.rest i hi hl e1
  · intro _ i hl hi h1
    rw [swap_len] at hl
    rw [swap_at l k f i hkl hf hl, swap_at l k f ((f - 1) / 2) hkl hf (by omega), if_neg (by omega), if_neg (by omega), if_neg (by omega), if_pos hk]
    have := h.rest i h1 hl (by omega)
    rw [hi] at this
    exact this

theorem Down.start {l : List Rc} (h : HeapR l) (x : Rc) : Down ((l.set 0 x).take (l.length - 1)) 0 := by
  have hat : ∀ j, 0 < j → j < l.length - 1 → ((l.set 0 x).take (l.length - 1))[j]! = l[j]! := fun j h0 hj => by
    rw [getElem!_pos _ j (by simp; omega), getElem!_pos l j (by omega), List.getElem_take, List.getElem_set_ne (by omega)]
  constructor
  · intro i h0 hi hne
    have hi' : i < l.length - 1 := by simp at hi; omega
    rw [hat i h0 hi', hat _ (by omega) (by omega)]
    exact h i h0 (by omega)
  · intro h0
    omega

end Go.Proofs.YtgpbanjammipiaaGreatDoor.K

namespace Go.Proofs.YtgpbanjammipiaaGreatDoor.K
open Go.RowKit

theorem Src.cells {w : World} {b : Nat} {x : Rc} (h : Src w b x) : w.cell? ⟨b, 0, none⟩ = some (.int .u64 x.1) ∧ w.cell? ⟨b, 1, none⟩ = some (.int .u64 x.2.1) ∧ w.cell? ⟨b, 4, none⟩ = some (.int .i64 x.2.2) := by
  obtain ⟨i, r, h⟩ := h
  exact ⟨(cell_of_heap h 0).trans rfl, (cell_of_heap h 1).trans rfl, (cell_of_heap h 4).trans rfl⟩

set_option maxRecDepth 100000 in
set_option maxHeartbeats 2000000 in
theorem before_any {w : World} {a b : Nat} {x y : Rc} (hx : Src w a x) (hy : Src w b y) :
    Calls Tryz.prog 190 #[.pointer (some ⟨a, 0, none⟩), .pointer (some ⟨b, 0, none⟩)] w fun e w' => e = .returned (.bool (ltR x y)) ∧ Below w.heap.size w w' := by
  obtain ⟨x1, x2, x3⟩ := x
  obtain ⟨y1, y2, y3⟩ := y
  obtain ⟨a0, a1, a4⟩ := hx.cells
  obtain ⟨b0, b1, b4⟩ := hy.cells
  dsimp only at a0 a1 a4 b0 b1 b4
  have HB : Hid (∀ n, Below w.heap.size w (w.drewN n)) := fun n => ⟨rfl, rfl, rfl, Nat.le_refl _, fun _ _ => rfl⟩
  clear hx hy
  go_enter Tryz.func190, Tryz.ntmps190
  by_cases h1 : x1 = y1
  · subst h1
    by_cases h2 : x2 = y2
    · subst h2
      go_wp2
      go_quiet (fail)
      go_wp2
      go_quiet (fail)
      go_wp2
      go_quiet (fail)
      go_wp2
      go_ret
      refine ⟨?_, by simpa using HB.out _⟩
      simp [ltR]
    · go_wp2
      go_quiet (fail)
      go_wp2
      go_quiet (fail)
      go_wp2
      go_quiet (fail)
      go_wp2
      go_ret
      refine ⟨?_, by simpa using HB.out _⟩
      simp [ltR, h2]
  · go_wp2
    go_quiet (fail)
    go_wp2
    go_quiet (fail)
    go_wp2
    go_ret
    refine ⟨?_, by simpa using HB.out _⟩
    simp [ltR, h1]

theorem idle_ahead (p : Addr) (w : World) :
    CallsD Tryz.prog 155 #[.pointer (some p)] .returning w fun e u' w' => e = .returned (.tuple #[]) ∧ u' = .returning ∧ w' = w := by
  refine callsD_of_wpS Tryz.func155 rfl fun c₀ cs hu => ?_
  apply wpS_seq
  apply wpS_region
  simp [wpOpsS, go_sem, recoverD, hu, Tryz.ntmps155, Exit.thenS]
  refine wpS_cond (t := false) (by simp [Act.eval, Array.replicate]) ?_
  simp only [Bool.false_eq_true, if_false]
  refine wpS_of_wp (wp_skip ?_)
  cases c₀
  simp_all [bodyPostS, results, Tryz.results155]

theorem idle_sound (p : Addr) (w : World) :
    CallsD Tryz.prog 133 #[.pointer (some p)] .returning w fun e u' w' => e = .returned (.tuple #[]) ∧ u' = .returning ∧ w' = w := by
  refine callsD_of_wpS Tryz.func133 rfl fun c₀ cs hu => ?_
  apply wpS_seq
  apply wpS_region
  simp [wpOpsS, go_sem, recoverD, hu, Tryz.ntmps133, Exit.thenS]
  refine wpS_cond (t := false) (by simp [Act.eval, Array.replicate]) ?_
  simp only [Bool.false_eq_true, if_false]
  refine wpS_of_wp (wp_skip ?_)
  cases c₀
  simp_all [bodyPostS, results, Tryz.results133]

theorem method_any (b : Nat) (w : World) : (method 330 79 (.pointer (some ⟨b, 0, none⟩)) "Before").run Tryz.prog w = .ok (190, .pointer (some ⟨b, 0, none⟩)) w := by
  kernel_rfl

set_option maxHeartbeats 2000000 in
theorem ahead_any {w : World} {a b : Nat} {x y : Rc} (hx : Src w a x) (hy : Src w b y) :
    Calls Tryz.prog 134 #[.pointer (some ⟨a, 0, none⟩), .pointer (some ⟨b, 0, none⟩)] w fun e w' => e = .returned (.bool (ltR x y)) ∧ Below w.heap.size w w' := by
  have hmf : ∀ (fn : Fn) (first cap : Array Value) (w : World), (Instr.makeFunc fn first cap).run Tryz.prog w = .ok (.func fn first cap) w := fun _ _ _ _ => rfl
  have hmm := method_any
  have HB := hide (fun (W : World) (k : Kept [] w W) => before_any (hx.kept k (by simp)) (hy.kept k (by simp)))
  obtain ⟨t, ht⟩ : ∃ t, t = ltR x y := ⟨_, rfl⟩
  rw [← ht] at HB ⊢
  clear hx hy ht
  go_enter_defers Tryz.func134, Tryz.ntmps134
  go_wp2_with fail
  refine (HB.out _ ((Kept.refl _ _).alloc _)).mono ?_
  rintro e w2 ⟨rfl, b2⟩
  have e3 := heap_alloc_new w (.cells #[.bool false] 4)
  have e4 := (b2.block w.heap.size (by rw [World.size_alloc]; omega)).trans e3
  have hp : w2.cell? ⟨w.heap.size, 0, none⟩ = some (.bool false) := cell_of_heap e4 0
  have hf : w2.frozen? ⟨w.heap.size, 0, none⟩ = false := frozen_of_heap e4 0
  clear e3 e4
  have B2 := hide b2
  clear b2
  go_wp2
  refine leaves_cons (f := 155) (args := #[.pointer (some ⟨w.heap.size, 0, none⟩)]) (by simp) (by simp [go_sem]) ?_
  refine (idle_ahead ⟨w.heap.size, 0, none⟩ _).mono ?_
  rintro e u' w'' ⟨rfl, rfl, rfl⟩
  have hb : Below w.heap.size w (w2.setCell ⟨w.heap.size, 0, none⟩ (.bool t)) := (((Below.refl _ w).alloc (Nat.le_refl _) _).trans (B2.out.mono (by simp))).setCell (by simp) _
  simpa [Leaves, settle, results, Tryz.results134, go_sem, hp] using hb

set_option maxHeartbeats 2000000 in
theorem sound_any {w : World} {a : Nat} {x : Rc} (hx : Src w a x) :
    Calls Tryz.prog 109 #[.pointer (some ⟨a, 0, none⟩)] w fun e w' => e = .returned (.bool true) ∧ Below w.heap.size w w' := by
  have hmf : ∀ (fn : Fn) (first cap : Array Value) (w : World), (Instr.makeFunc fn first cap).run Tryz.prog w = .ok (.func fn first cap) w := fun _ _ _ _ => rfl
  have hmm := method_any
  have HB := hide (fun (W : World) (k : Kept [] w W) => before_any (hx.kept k (by simp)) (hx.kept k (by simp)))
  clear hx
  go_enter_defers Tryz.func109, Tryz.ntmps109
  go_wp2_with fail
  refine (HB.out _ ((Kept.refl _ _).alloc _)).mono ?_
  rintro e w2 ⟨rfl, b2⟩
  have hp : w2.cell? ⟨w.heap.size, 0, none⟩ = some (.bool false) := (b2.cell (p := ⟨w.heap.size, 0, none⟩) (by show w.heap.size < _; simp)).trans (by simp)
  have hf : w2.frozen? ⟨w.heap.size, 0, none⟩ = false := (World.frozen?_of_block (b2.block w.heap.size (by simp))).trans (by simp)
  have B2 := hide b2
  clear b2
  go_wp2
  refine leaves_cons (f := 133) (args := #[.pointer (some ⟨w.heap.size, 0, none⟩)]) (by simp) (by simp [go_sem]) ?_
  refine (idle_sound ⟨w.heap.size, 0, none⟩ _).mono ?_
  rintro e u' w'' ⟨rfl, rfl, rfl⟩
  have hb : Below w.heap.size w (w2.setCell ⟨w.heap.size, 0, none⟩ (.bool true)) := (((Below.refl _ w).alloc (Nat.le_refl _) _).trans (B2.out.mono (by simp))).setCell (by simp) _
  simpa [Leaves, settle, results, Tryz.results109, go_sem, hp] using hb

end Go.Proofs.YtgpbanjammipiaaGreatDoor.K

namespace Go.Proofs.YtgpbanjammipiaaGreatDoor.K
open Go.RowKit

set_option maxRecDepth 100000 in
set_option maxHeartbeats 4000000 in
theorem RowR.swapped {bk : Int → Nat} {w : World} {g n cap : Nat} {l : List Rc} (h : RowR bk w (.slice (some ⟨g, 0, none⟩) n cap) l) (i j : Nat) (hi : i < l.length) (hj : j < l.length) :
    RowR bk ((w.setCell ⟨g, i, none⟩ (ptr bk l[j]!)).setCell ⟨g, j, none⟩ (ptr bk l[i]!)) (.slice (some ⟨g, 0, none⟩) n cap) ((l.set i l[j]!).set j l[i]!) := by
  have hk : Kept [g] w (w.setCell ⟨g, i, none⟩ (ptr bk l[j]!)) := (Kept.refl _ _).setCell (.inl (by simp)) _
  obtain ⟨o1, o2, o3⟩ := h.okAt i hi
  exact (h.stored i l[j]! (h.okAt j hj)).stored j l[i]! ⟨o1, o2.kept hk (by simpa [own, Value.ownBlock] using o3), o3⟩

set_option maxRecDepth 100000 in
set_option maxHeartbeats 4000000 in
theorem rise_any {bk : Int → Nat} {w : World} {g n cap : Nat} {l : List Rc} (h : RowR bk w (.slice (some ⟨g, 0, none⟩) n cap) l) (h0 : 0 < l.length) (hmax : l.length ≤ 1000000) (hup : Up l (l.length - 1)) :
    Calls Tryz.prog 110 #[.slice (some ⟨g, 0, none⟩) n cap] w fun e w' => e = .returned (.tuple #[]) ∧ ∃ l', RowR bk w' (.slice (some ⟨g, 0, none⟩) n cap) l' ∧ HeapR l' ∧ l'.Perm l ∧ Kept [g] w w' := by
  have hn := h.len
  obtain ⟨k0, hk0⟩ : ∃ k0, n = k0 + 1 := ⟨n - 1, by omega⟩
  have hw0 : IntKind.i64.wrap ((n : Int) - 1) = (k0 : Int) := by rw [i64_small _ (by omega) (by omega)]; omega
  have hnm : n ≤ 1000000 := by omega
  have HUP := hide hup
  have HR := hide h
  have HN := hide (And.intro hn hk0)
  clear hup h hn hk0 h0 hmax
  go_enter Tryz.func110, Tryz.ntmps110
  go_wp2
  go_loopw [2] (fun v wr => ∃ (k : Nat) (lk : List Rc), v = .int .i64 k ∧ k < n ∧ Hid (lk.length = n) ∧ Hid (RowR bk wr (.slice (some ⟨g, 0, none⟩) n cap) lk) ∧ Hid (Up lk k) ∧ Hid (lk.Perm l) ∧ Hid (Kept [g] w wr)) (fun v _ => numOf v)
  case atStart =>
    exact ⟨k0, l, by first | rfl | go_num, by have := HN.out; omega, HN.out.1.symm, HR.out, (show k0 = l.length - 1 by have := HN.out; omega) ▸ HUP.out, List.Perm.refl _, Kept.refl _ _⟩
  case round =>
    obtain ⟨k, lk, rfl, hk, HL, HRk, HU, HP, HK⟩ := hrel
    by_cases hk0 : k = 0
    · subst hk0
      go_wp2
      go_end0
      exact ⟨rfl, lk, HRk.out, HU.out.done (.inl rfl), HP.out, HK.out⟩
    · obtain ⟨j, hj⟩ : ∃ j, k = j + 1 := ⟨k - 1, by omega⟩
      obtain ⟨p, hp⟩ : ∃ p, p = (k - 1) / 2 := ⟨_, rfl⟩
      have hpn : p < n := by omega
      have hw1 : IntKind.i64.wrap ((k : Int) - 1) = (j : Int) := by rw [i64_small _ (by omega) (by omega)]; omega
      have hw2 : (j : Int).tdiv 2 = (p : Int) := by rw [Int.tdiv_eq_ediv_of_nonneg (by omega)]; omega
      have hw3 : IntKind.i64.wrap (p : Int) = (p : Int) := i64_small _ (by omega) (by omega)
      have hkp : (0 : Int) < (k : Int) := by omega
      have HJ := hide (And.intro hj hp)
      clear hj hp
      have c1 := HRk.out.cell1 k (by have := HL.out; omega)
      have d1 := HRk.out.cell1 p (by have := HL.out; omega)
      obtain ⟨bx, hbx⟩ : ∃ b, b = bk lk[k]!.2.2 := ⟨_, rfl⟩
      obtain ⟨by', hby⟩ : ∃ b, b = bk lk[p]!.2.2 := ⟨_, rfl⟩
      rw [← hbx] at c1
      rw [← hby] at d1
      obtain ⟨b, hb⟩ : ∃ b, b = ltR lk[k]! lk[p]! := ⟨_, rfl⟩
      have HA : Hid (∀ W : World, W.heap = wr.heap → Calls Tryz.prog 134 #[.pointer (some ⟨bx, 0, none⟩), .pointer (some ⟨by', 0, none⟩)] W fun e w' => e = .returned (.bool b) ∧ Below W.heap.size W w') := fun W hW => by
        rw [hb, hbx, hby]
        exact ahead_any ((HRk.out.okAt k (by have := HL.out; omega)).2.1.heap hW) ((HRk.out.okAt p (by have := HL.out; omega)).2.1.heap hW)
      have HX := hide (And.intro hbx hby)
      have HB := hide hb
      clear hb hbx hby
      go_wp2
      go_region_law (go_simp; go_at_call 134; refine (HA.out _ ?_).mono ?_; rfl; rintro e w5 ⟨rfl, b5⟩)
      all_goals
        have r5 : RowR bk w5 (.slice (some ⟨g, 0, none⟩) n cap) lk := HRk.out.kept (Kept.of_below (fp := []) (a := wr) ⟨b5.os, b5.tape, b5.output, b5.size, b5.block⟩) (fun _ _ => by simp) (fun _ _ => by simp)
        have k5 : Kept [g] w w5 := HK.out.trans (fp' := []) (Kept.of_below (a := wr) ⟨b5.os, b5.tape, b5.output, b5.size, b5.block⟩) (fun _ hx => by simp at hx)
        have c1' := r5.cell1 k (by have := HL.out; omega)
        have d1' := r5.cell1 p (by have := HL.out; omega)
        rw [← HX.out.1] at c1'
        rw [← HX.out.2] at d1'
        have z1 := r5.frozenAt k
        have z3 := r5.frozenAt p
        have R5 := hide r5
        have K5 := hide k5
        clear r5 k5 b5 c1 d1
        cases b with
        | false =>
          go_wp2
          refine bodyPost_ret (results_none rfl _ _ _) rfl ?_
          refine ⟨rfl, lk, R5.out, HU.out.done (.inr ?_), HP.out, K5.out⟩
          have e2 := HJ.out
          have e3 := HB.out
          rw [← e2.2, ← e3]
        | true =>
          have hne : ¬ k = p := by have := HJ.out; omega
          go_wp2
          go_region
          all_goals
            go_wp2
            go_roundw
            case rel =>
              have e1 := HX.out
              have e2 := HJ.out
              have e3 := HB.out
              have e4 := HL.out
              have q := R5.out.swapped k p (by omega) (by omega)
              refine ⟨p, (lk.set k lk[p]!).set p lk[k]!, by first | rfl | go_num, hpn, by show _ = _; rw [swap_len]; exact e4, ?_, ?_, (swap_perm lk k p (by omega) (by omega)).trans HP.out, ?_⟩
              · rw [e1.2, e1.1]
                exact q
              · rw [e2.2] at e3 ⊢
                exact HU.out.step (by omega) (by omega) e3.symm
              · exact ((K5.out.setCell (.inl (by simp)) _).setCell (.inl (by simp)) _).drew
            case measure =>
              have := HJ.out
              simp [numOf]
              omega

end Go.Proofs.YtgpbanjammipiaaGreatDoor.K

namespace Go.Proofs.YtgpbanjammipiaaGreatDoor.K
open Go.RowKit

set_option maxRecDepth 100000 in
set_option maxHeartbeats 4000000 in
theorem sink_any {bk : Int → Nat} {w : World} {g n cap : Nat} {l : List Rc} (h : RowR bk w (.slice (some ⟨g, 0, none⟩) n cap) l) (hmax : l.length ≤ 1000000) (hdn : Down l 0) :
    Calls Tryz.prog 113 #[.slice (some ⟨g, 0, none⟩) n cap] w fun e w' => e = .returned (.tuple #[]) ∧ ∃ l', RowR bk w' (.slice (some ⟨g, 0, none⟩) n cap) l' ∧ HeapR l' ∧ l'.Perm l ∧ Kept [g] w w' := by
  have hn := h.len
  have hnm : n ≤ 1000000 := by omega
  have HDN := hide hdn
  have HR := hide h
  have HN := hide hn
  clear hdn h hn hmax
  go_enter Tryz.func113, Tryz.ntmps113
  go_wp2
  go_loopw [2] (fun v wr => ∃ (k : Nat) (lk : List Rc), v = .int .i64 k ∧ k ≤ n ∧ Hid (lk.length = n) ∧ Hid (RowR bk wr (.slice (some ⟨g, 0, none⟩) n cap) lk) ∧ Hid (Down lk k) ∧ Hid (lk.Perm l) ∧ Hid (Kept [g] w wr)) (fun v _ => n + 1 - numOf v)
  case atStart =>
    exact ⟨0, l, by first | rfl | go_num, Nat.zero_le _, HN.out.symm, HR.out, HDN.out, List.Perm.refl _, Kept.refl _ _⟩
  case round =>
    obtain ⟨k, lk, rfl, hk, HL, HRk, HD, HP, HK⟩ := hrel
    have hw1 : IntKind.i64.wrap (2 * (k : Int)) = 2 * (k : Int) := i64_small _ (by omega) (by omega)
    have hw2 : IntKind.i64.wrap (2 * (k : Int) + 1) = 2 * (k : Int) + 1 := i64_small _ (by omega) (by omega)
    have hw3 : IntKind.i64.wrap (2 * (k : Int) + 2) = 2 * (k : Int) + 2 := i64_small _ (by omega) (by omega)
    go_wp2
    obtain ⟨wo, hwo⟩ : ∃ wo, wo = wr := ⟨_, rfl⟩
    subst hwo
    go_loopw [3, 4] (fun v3 v4 wr2 => ∃ (f b : Nat), v3 = .int .i64 f ∧ v4 = .int .i64 b ∧ f ≤ n ∧ 2 * k + 1 ≤ b ∧ b ≤ 2 * k + 3 ∧ Hid (f = k ∨ (0 < f ∧ f < n ∧ (f - 1) / 2 = k ∧ ltR lk[f]! lk[k]! = true)) ∧ Hid (∀ i, 2 * k + 1 ≤ i → i < b → i < n → ltR lk[i]! lk[f]! = false) ∧ Hid (RowR bk wr2 (.slice (some ⟨g, 0, none⟩) n cap) lk) ∧ Hid (Kept [g] w wr2)) (fun _ v4 _ => 2 * k + 4 - numOf v4)
    case atStart => exact ⟨k, 2 * k + 1, rfl, by go_num, hk, Nat.le_refl _, by omega, .inl rfl, fun i h1 h2 => by omega, HRk.out, HK.out⟩
    case round =>
      obtain ⟨f, b, rfl, rfl, hf, hb1, hb2, HF, HS, HRb, HKb⟩ := hrel
      have hw4 : IntKind.i64.wrap ((b : Int) + 1) = (b : Int) + 1 := i64_small _ (by omega) (by omega)
      by_cases h1 : b ≤ 2 * k + 2
      · by_cases h2 : b < n
        · have h1' : (b : Int) ≤ 2 * (k : Int) + 2 := by omega
          have hfn : f < n := by rcases HF.out with e | e <;> omega
          have c1 := HRb.out.cell1 b (by have := HL.out; omega)
          have d1 := HRb.out.cell1 f (by have := HL.out; omega)
          obtain ⟨bx, hbx⟩ : ∃ b', b' = bk lk[b]!.2.2 := ⟨_, rfl⟩
          obtain ⟨by', hby⟩ : ∃ b', b' = bk lk[f]!.2.2 := ⟨_, rfl⟩
          rw [← hbx] at c1
          rw [← hby] at d1
          obtain ⟨t, ht⟩ : ∃ t, t = ltR lk[b]! lk[f]! := ⟨_, rfl⟩
          have HA : Hid (∀ W : World, W.heap = wr.heap → Calls Tryz.prog 134 #[.pointer (some ⟨bx, 0, none⟩), .pointer (some ⟨by', 0, none⟩)] W fun e w' => e = .returned (.bool t) ∧ Below W.heap.size W w') := fun W hW => by
            rw [ht, hbx, hby]
            exact ahead_any ((HRb.out.okAt b (by have := HL.out; omega)).2.1.heap hW) ((HRb.out.okAt f (by have := HL.out; omega)).2.1.heap hW)
          have HX := hide (And.intro hbx hby)
          have HB := hide ht
          clear ht hbx hby
          go_wp2
          go_region_law (go_simp; go_at_call 134; refine (HA.out _ ?_).mono ?_; rfl; rintro e w5 ⟨rfl, b5⟩)
          all_goals
            have r5 : RowR bk w5 (.slice (some ⟨g, 0, none⟩) n cap) lk := HRb.out.kept (Kept.of_below (fp := []) (a := wr) ⟨b5.os, b5.tape, b5.output, b5.size, b5.block⟩) (fun _ _ => by simp) (fun _ _ => by simp)
            have k5 : Kept [g] w w5 := HKb.out.trans (fp' := []) (Kept.of_below (a := wr) ⟨b5.os, b5.tape, b5.output, b5.size, b5.block⟩) (fun _ hx => by simp at hx)
            have R5 := hide r5
            have K5 := hide k5
            clear r5 k5 b5 c1 d1
            cases t with
            | false =>
              go_wp2
              go_roundw
              case rel =>
                have e3 := HB.out
                refine ⟨f, b + 1, rfl, by go_num, hf, by omega, by omega, HF.out, ?_, R5.out, K5.out⟩
                intro i hi hib hin
                rcases Nat.lt_or_ge i b with hlt | hge
                · exact HS.out i hi hlt hin
                · rw [show i = b by omega]
                  exact e3.symm
              case measure => simp [numOf]; omega
            | true =>
              go_wp2
              go_roundw
              case rel =>
                have e3 := HB.out
                refine ⟨b, b + 1, rfl, by go_num, by omega, by omega, by omega, .inr ⟨by omega, h2, by omega, ?_⟩, ?_, R5.out, K5.out⟩
                · rcases HF.out with e | e
                  · rw [e] at e3
                    exact e3.symm
                  · exact ltR_trans e3.symm e.2.2.2
                · intro i hi hib hin
                  rcases Nat.lt_or_ge i b with hlt | hge
                  · exact nlt_trans (nlt_of_lt e3.symm) (HS.out i hi hlt hin)
                  · rw [show i = b by omega]
                    exact ltR_irr _
              case measure => simp [numOf]; omega
        · have h1' : (b : Int) ≤ 2 * (k : Int) + 2 := by omega
          have ALL : Hid (∀ i, 0 < i → i < lk.length → (i - 1) / 2 = k → ltR lk[i]! lk[f]! = false) := fun i h0 hi he => HS.out i (by omega) (by have := HL.out; omega) (by have := HL.out; omega)
          by_cases hfk : f = k
          · subst hfk
            go_wp2
            refine bodyPost_ret (results_none rfl _ _ _) rfl ?_
            exact ⟨rfl, lk, HRb.out, HD.out.done ALL.out, HP.out, HKb.out⟩
          · have hkf : ¬ k = f := fun e => hfk e.symm
            have hF : Hid (0 < f ∧ f < n ∧ (f - 1) / 2 = k ∧ ltR lk[f]! lk[k]! = true) := by rcases HF.out with e | e; exact absurd e hfk; exact e
            have hfn : f < n := hF.out.2.1
            have hkn : k < n := by have := hF.out; omega
            have c1 := HRb.out.cell1 k (by have := HL.out; omega)
            have d1 := HRb.out.cell1 f (by have := HL.out; omega)
            obtain ⟨bx, hbx⟩ : ∃ b', b' = bk lk[k]!.2.2 := ⟨_, rfl⟩
            obtain ⟨by', hby⟩ : ∃ b', b' = bk lk[f]!.2.2 := ⟨_, rfl⟩
            rw [← hbx] at c1
            rw [← hby] at d1
            have HX := hide (And.intro hbx hby)
            clear hbx hby
            have z1 := HRb.out.frozenAt k
            have z3 := HRb.out.frozenAt f
            go_wp2
            go_region
            all_goals
              go_wp2
              go_roundw
              case rel =>
                have e1 := HX.out
                have e2 := hF.out
                have e4 := HL.out
                have q := HRb.out.swapped k f (by omega) (by omega)
                refine ⟨f, (lk.set k lk[f]!).set f lk[k]!, by first | rfl | go_num, by omega, by show _ = _; rw [swap_len]; exact e4, ?_, HD.out.step e2.1 (by omega) e2.2.2.1 e2.2.2.2 ALL.out, (swap_perm lk k f (by omega) (by omega)).trans HP.out, ?_⟩
                · rw [e1.2, e1.1]
                  exact q
                · exact ((HKb.out.setCell (.inl (by simp)) _).setCell (.inl (by simp)) _).drew
              case measure =>
                have := hF.out
                simp [numOf]
                omega
      · have h1' : ¬ (b : Int) ≤ 2 * (k : Int) + 2 := by omega
        have ALL : Hid (∀ i, 0 < i → i < lk.length → (i - 1) / 2 = k → ltR lk[i]! lk[f]! = false) := fun i h0 hi he => HS.out i (by omega) (by have := HL.out; omega) (by have := HL.out; omega)
        by_cases hfk : f = k
        · subst hfk
          go_wp2
          refine bodyPost_ret (results_none rfl _ _ _) rfl ?_
          exact ⟨rfl, lk, HRb.out, HD.out.done ALL.out, HP.out, HKb.out⟩
        · have hkf : ¬ k = f := fun e => hfk e.symm
          have hF : Hid (0 < f ∧ f < n ∧ (f - 1) / 2 = k ∧ ltR lk[f]! lk[k]! = true) := by rcases HF.out with e | e; exact absurd e hfk; exact e
          have hfn : f < n := hF.out.2.1
          have hkn : k < n := by have := hF.out; omega
          have c1 := HRb.out.cell1 k (by have := HL.out; omega)
          have d1 := HRb.out.cell1 f (by have := HL.out; omega)
          obtain ⟨bx, hbx⟩ : ∃ b', b' = bk lk[k]!.2.2 := ⟨_, rfl⟩
          obtain ⟨by', hby⟩ : ∃ b', b' = bk lk[f]!.2.2 := ⟨_, rfl⟩
          rw [← hbx] at c1
          rw [← hby] at d1
          have HX := hide (And.intro hbx hby)
          clear hbx hby
          have z1 := HRb.out.frozenAt k
          have z3 := HRb.out.frozenAt f
          go_wp2
          go_region
          all_goals
            go_wp2
            go_roundw
            case rel =>
              have e1 := HX.out
              have e2 := hF.out
              have e4 := HL.out
              have q := HRb.out.swapped k f (by omega) (by omega)
              refine ⟨f, (lk.set k lk[f]!).set f lk[k]!, by first | rfl | go_num, by omega, by show _ = _; rw [swap_len]; exact e4, ?_, HD.out.step e2.1 (by omega) e2.2.2.1 e2.2.2.2 ALL.out, (swap_perm lk k f (by omega) (by omega)).trans HP.out, ?_⟩
              · rw [e1.2, e1.1]
                exact q
              · exact ((HKb.out.setCell (.inl (by simp)) _).setCell (.inl (by simp)) _).drew
            case measure =>
              have := hF.out
              simp [numOf]
              omega

end Go.Proofs.YtgpbanjammipiaaGreatDoor.K

namespace Go.Proofs.YtgpbanjammipiaaGreatDoor.K
open Go.RowKit

/-- A heap in block p: its row is v, of which l are the sources' records; nothing is odd. -/
structure HeapAt (bk : Int → Nat) (w : World) (p : Nat) (v : Value) (l : List Rc) : Prop where
  cells : w.heap[p]? = some (.cells #[v, .slice none 0 0] 137 (0, 0))
  row : RowR bk w v l
  apart : p ∉ own v

section
variable {bk : Int → Nat} {w w' : World} {p : Nat} {v : Value} {l : List Rc}

theorem HeapAt.kept {fp : List Nat} (h : HeapAt bk w p v l) (hk : Kept fp w w') (hp : p ∉ fp) (hf : ∀ x ∈ own v, x ∉ fp) (hs : ∀ e ∈ l, bk e.2.2 ∉ fp) : HeapAt bk w' p v l :=
  ⟨hk.heap h.cells hp, h.row.kept hk hf hs, h.apart⟩

theorem HeapAt.cellAt (h : HeapAt bk w p v l) : w.cell? ⟨p, 0, none⟩ = some v ∧ w.cell? ⟨p, 1, none⟩ = some (.slice none 0 0) :=
  ⟨(cell_of_heap h.cells 0).trans rfl, (cell_of_heap h.cells 1).trans rfl⟩

theorem HeapAt.frozen (h : HeapAt bk w p v l) (j : Nat) : w.frozen? ⟨p, j, none⟩ = false := frozen_of_heap h.cells j

/-- A source is no heap. -/
theorem Src.ne {x : Rc} {b : Nat} (h : Src w b x) (hp : w.heap[p]? = some (.cells #[v, .slice none 0 0] 137 (0, 0))) : b ≠ p := by
  rintro rfl
  obtain ⟨i, r, h⟩ := h
  rw [h] at hp
  simp at hp

set_option maxRecDepth 100000 in
set_option maxHeartbeats 4000000 in
theorem push_any (h : HeapAt bk w p v l) (hmax : l.length ≤ 100000) (hheap : HeapR l) {x : Rc} (hx : okR x) (hs : Src w (bk x.2.2) x) (ha : bk x.2.2 ∉ own v) :
    Calls Tryz.prog 84 #[.pointer (some ⟨p, 0, none⟩), .pointer (some ⟨bk x.2.2, 0, none⟩)] w fun e w' => e = .returned (.tuple #[]) ∧
      ∃ v' l', HeapAt bk w' p v' l' ∧ HeapR l' ∧ l'.Perm (l ++ [x]) ∧ Kept (p :: own v) w w' ∧ Newly w (own v) (own v') := by
  have S := hide (sound_any hs)
  have HX := hide (And.intro hx (And.intro hs ha))
  have H := hide (And.intro h (And.intro hheap hmax))
  obtain ⟨bx, hbx⟩ : ∃ b, b = bk x.2.2 := ⟨_, rfl⟩
  rw [← hbx] at S ⊢
  have HBX := hide hbx
  clear h hheap hx hs ha hbx hmax
  go_enter Tryz.func84, Tryz.ntmps84
  go_wp2_with fail
  refine S.out.mono ?_
  rintro e w2 ⟨rfl, b2⟩
  have k2 : Kept [] w w2 := Kept.of_below b2
  have h2 : HeapAt bk w2 p v l := H.out.1.kept k2 (by simp) (by simp) (by simp)
  obtain ⟨c0, c1⟩ := h2.cellAt
  have z0 := h2.frozen 0
  obtain ⟨W, hW⟩ : ∃ W, W = w2.alloc (.cells #[.pointer (some ⟨bx, 0, none⟩)] 79) := ⟨_, rfl⟩
  have kW : Kept [] w2 W := by rw [hW]; exact (Kept.refl _ _).alloc _
  have h3 : HeapAt bk W p v l := h2.kept kW (by simp) (by simp) (by simp)
  have i3 : IsR bk W (.slice (some ⟨w2.heap.size, 0, none⟩) 1 1) [x] := by
    rw [hW]
    refine ⟨_, 1, rfl, Nat.le_refl _, by simp, fun y hy j u hu => ?_⟩
    simp only [Option.some.injEq] at hy
    subst hy
    rw [Addr.add_lit, Nat.zero_add, cell_of_heap (heap_alloc_new w2 _)]
    match j, hu with
    | 0, hu => simp only [flatR, List.map_cons, List.map_nil, List.getElem?_cons_zero, ptr, ← HBX.out] at hu; simpa using hu
    | j + 1, hu => simp [flatR] at hu
  have hm : ∀ e ∈ [x], okR e ∧ Src W (bk e.2.2) e ∧ bk e.2.2 ∉ own v := by
    intro e he
    simp only [List.mem_singleton] at he
    subst he
    exact ⟨HX.out.1, (HX.out.2.1.kept k2 (by simp)).kept kW (by simp), HX.out.2.2⟩
  have hlen : Hid (l.length + [x].length ≤ 1099511627776) := by show _ ≤ _; have := H.out.2.2; simp; omega
  have R3 := hide (And.intro h3.row (And.intro i3 hm))
  have H3 := hide h3
  have KW := hide (And.intro k2 kW)
  rw [hW] at R3 H3 KW
  clear h2 h3 i3 hm k2 kW b2 hW
  clear W
  go_wp2_with (first | (at_builtin; refine wp_appendR (bk := bk) _ rfl (.tmp 21) (.tmp 23) rfl v (.slice (some ⟨w2.heap.size, 0, none⟩) 1 1) l [x] rfl R3.out.1 rfl R3.out.2.1 R3.out.2.2 hlen.out ?_; intro v4 w4 r4 k4 n4; obtain ⟨lm, hlm⟩ : ∃ lm, lm = l ++ [x] := ⟨_, rfl⟩; rw [← hlm] at r4; obtain ⟨g4, cap4, e5, q4⟩ := r4.blk (by rw [hlm]; simp); subst e5; have HLM := hide hlm; clear hlm; have e4 := k4.heap H3.out.cells H3.out.apart; have c4 : w4.cell? ⟨p, 0, none⟩ = some v := cell_of_heap e4 0; have f4 : w4.frozen? ⟨p, 0, none⟩ = false := frozen_of_heap e4 0; have HR4 := hide (And.intro r4 (And.intro k4 (And.intro n4 e4))); clear r4 k4 n4 e4) | fail)
  obtain ⟨r4, k4, n4, e4⟩ := HR4.out
  have hlm := HLM.out
  have hll : lm.length = l.length + 1 := by rw [hlm]; simp
  have hpg : p ≠ g4 := by
    intro e
    rcases n4 g4 (by simp [own, Value.ownBlock]) with h | h
    · exact H3.out.apart (e ▸ h)
    · have := (Array.getElem?_eq_some_iff.1 H3.out.cells).1
      simp at h this
      omega
  obtain ⟨w5, hw5⟩ : ∃ w5, w5 = w4.setCell ⟨p, 0, none⟩ (.slice (some ⟨g4, 0, none⟩) lm.length cap4) := ⟨_, rfl⟩
  have k5 : Kept [p] w4 w5 := by rw [hw5]; exact (Kept.refl _ _).setCell (.inl (by simp)) _
  have r5 : RowR bk w5 (.slice (some ⟨g4, 0, none⟩) lm.length cap4) lm := r4.kept k5 (by simp [own, Value.ownBlock]; exact fun e => hpg e.symm) (fun e he => by simpa using (r4.2 e he).2.1.ne e4)
  have e5 : w5.heap[p]? = some (.cells #[.slice (some ⟨g4, 0, none⟩) lm.length cap4, .slice none 0 0] 137 (0, 0)) := by rw [hw5]; exact heap_setCell e4 0 _
  have hmax := H.out.2.2
  have hrise := rise_any r5 (by omega) (by omega) (by rw [hll, hlm]; exact Up.start H.out.2.1 x)
  rw [← hw5]
  refine hrise.mono ?_
  rintro e w6 ⟨rfl, l6, r6, h6, p6, k6⟩
  go_wp2
  go_end0
  have hn4 : Newly w (own v) [g4] := fun x hx => by
    simp only [List.mem_singleton] at hx
    subst hx
    rcases n4 x (by simp [own, Value.ownBlock]) with h | h
    · exact .inl h
    · refine .inr ?_
      have := KW.out.1.size
      simp at h
      omega
  refine ⟨rfl, _, l6, ⟨k6.heap e5 (by simpa using hpg), r6, by simp [own, Value.ownBlock]; exact hpg⟩, h6, p6.trans (by rw [hlm]), ?_, ?_⟩
  · have k3 : Kept (p :: own v) w (w2.alloc (.cells #[.pointer (some ⟨bx, 0, none⟩)] 79)) := (KW.out.1.trans KW.out.2 (Newly.refl _ _)).mono (by simp)
    have k4' := k3.trans k4 (Newly.of_sub (by intro x hx; simp [hx]))
    have k5' := k4'.trans k5 (Newly.of_sub (by simp))
    refine k5'.trans k6 (fun x hx => ?_)
    rcases hn4 x hx with h | h
    · exact .inl (by simp [h])
    · exact .inr h
  · intro x hx
    exact hn4 x (by simpa [own, Value.ownBlock] using hx)

end

end Go.Proofs.YtgpbanjammipiaaGreatDoor.K
