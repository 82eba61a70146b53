/-
  Rows of edges of the call's own. A lemma file: no statement of the seat is proved here.
-/
import Derived.Laws.OwnMore
import Derived.Test.YtjkdnibfppjolaaOwn
namespace Go.Proofs.Ytjkdnibfppjolaa
open Go.RowKit

/-- All cells of a row of edges. -/
def flatE (es : List Ed) : List Value := es.flatMap encE

theorem encE_length (x : Ed) : (encE x).length = 3 := rfl
theorem flatE_length (es : List Ed) : (flatE es).length = es.length * 3 := by
  induction es with
  | nil => rfl
  | cons x es ih => rw [flatE, List.flatMap_cons, List.length_append, encE_length]; rw [flatE] at ih; rw [ih]; simp; omega
theorem flatE_cons (x : Ed) (es : List Ed) : flatE (x :: es) = encE x ++ flatE es := by simp [flatE]
theorem flatE_append (es fs : List Ed) : flatE (es ++ fs) = flatE es ++ flatE fs := by simp [flatE]
theorem flatE_at (es : List Ed) (j i : Nat) (hj : j < es.length) (hi : i < 3) : (flatE es)[j * 3 + i]? = (encE es[j]!)[i]? := by
  induction es generalizing j with
  | nil => simp at hj
  | cons x es ih =>
    rw [flatE_cons]
    cases j with
    | zero => rw [List.getElem?_append_left (by rw [encE_length]; omega)]; simp
    | succ j =>
      rw [List.getElem?_append_right (by rw [encE_length]; omega), encE_length, show (j + 1) * 3 + i - 3 = j * 3 + i by omega, ih j (by simpa using hj)]
      simp
theorem flatE_set (es : List Ed) (k : Nat) (hk : k < es.length) (x : Ed) : flatE (es.set k x) = (((flatE es).set (k * 3) (.int .u32 x.1)).set (k * 3 + 1) (.int .u32 x.2.1)).set (k * 3 + 2) (.int .u32 x.2.2) := by
  induction es generalizing k with
  | nil => simp at hk
  | cons y es ih =>
    cases k with
    | zero => simp [flatE_cons, encE]
    | succ k =>
      rw [List.set_cons_succ, flatE_cons, ih k (by simpa using hk), flatE_cons]
      have h3 : ∀ (l : List Value) (i : Nat) (v : Value), (encE y ++ l).set (i + 3) v = encE y ++ l.set i v := fun l i v => by simp [encE]
      rw [show (k + 1) * 3 = k * 3 + 3 by omega, h3, show k * 3 + 3 + 1 = (k * 3 + 1) + 3 by omega, h3, show k * 3 + 3 + 2 = (k * 3 + 2) + 3 by omega, h3]
theorem flatE_oneCell (es : List Ed) : ∀ v ∈ flatE es, v.oneCell' = true := by
  intro v hv
  simp only [flatE, List.mem_flatMap] at hv
  obtain ⟨x, _, hv⟩ := hv
  simp only [encE, List.mem_cons, List.not_mem_nil, or_false] at hv
  rcases hv with rfl | rfl | rfl <;> rfl

/-- The slice at the head of block g, of the call's own blocks from B on, holds the edges es; t: the elements' type. -/
def OwnE (t B : Nat) (w : World) (g cap : Nat) (es : List Ed) : Prop :=
  w.ownsRow B t 3 (.slice (some ⟨g, 0, none⟩) es.length cap) es.length (flatE es) ∧ ∀ e ∈ es, okE e

theorem OwnE.base {t B : Nat} {w : World} {g cap : Nat} {es : List Ed} (h : OwnE t B w g cap es) : B ≤ g ∧ g < w.heap.size := h.1.lt g rfl

theorem OwnE.cellAt {t B : Nat} {w : World} {g cap : Nat} {es : List Ed} (h : OwnE t B w g cap es) (j i : Nat) (u : Value) (hj : j < es.length) (hu : (encE es[j]!)[i]? = some u) : w.cell? ⟨g, j * 3 + i, none⟩ = some u := by
  have hi : i < 3 := by have := (List.getElem?_eq_some_iff.1 hu).1; rw [encE_length] at this; exact this
  have := h.1.cells rfl (j * 3 + i) u (by rw [flatE_at es j i hj hi]; exact hu)
  rw [Addr.add_lit, Nat.zero_add] at this
  exact this

theorem OwnE.frozenAt {t B : Nat} {w : World} {g cap : Nat} {es : List Ed} (h : OwnE t B w g cap es) (j : Nat) : w.frozen? ⟨g, j, none⟩ = false := h.1.frozenAt j

theorem OwnE.len_le {t B : Nat} {w : World} {g cap : Nat} {es : List Ed} (h : OwnE t B w g cap es) : es.length ≤ cap := by
  rcases h.1.2 with ⟨h', _⟩ | ⟨g', cap', cur, h', _, _, hn, _⟩
  · simp at h'
  · simp at h'
    omega

theorem OwnE.isE {t B : Nat} {w : World} {g cap : Nat} {es : List Ed} (h : OwnE t B w g cap es) : IsE w (.slice (some ⟨g, 0, none⟩) es.length cap) es := by
  refine ⟨_, cap, rfl, h.len_le, by simp, fun x hx j hj i u hu => ?_, h.2⟩
  simp only [Option.some.injEq] at hx
  subst hx
  rw [Addr.add_lit, Nat.zero_add]
  exact h.cellAt j i u hj hu

theorem OwnE.below {t B : Nat} {w w' : World} {g cap : Nat} {es : List Ed} (h : OwnE t B w g cap es) (hb : Below w.heap.size w w') : OwnE t B w' g cap es := by
  have hlt := h.base
  obtain ⟨⟨h1, h2⟩, h3⟩ := h
  refine ⟨⟨h1, ?_⟩, h3⟩
  rcases h2 with ⟨h, _⟩ | ⟨g', cap', cur, he, hg, hh, r⟩
  · simp at h
  · have hg' : g' = g := by simp at he; omega
    subst hg'
    exact .inr ⟨g', cap', cur, he, hg, by rw [hb.block _ hlt.2]; exact hh, r⟩

theorem OwnE.alloc {t B : Nat} {w : World} {g cap : Nat} {es : List Ed} (h : OwnE t B w g cap es) (o : Obj) : OwnE t B (w.alloc o) g cap es := h.below ((Below.refl _ w).alloc (Nat.le_refl _) o)

theorem OwnE.mono {t B B' : Nat} {w : World} {g cap : Nat} {es : List Ed} (h : OwnE t B w g cap es) (hB : B' ≤ B) : OwnE t B' w g cap es := by
  obtain ⟨⟨h1, h2⟩, h3⟩ := h
  refine ⟨⟨h1, ?_⟩, h3⟩
  rcases h2 with h | ⟨g', cap', cur, he, hg, r⟩
  · exact .inl h
  · exact .inr ⟨g', cap', cur, he, by omega, r⟩

/-- 'row[k] = x'. -/
theorem OwnE.stored {t B : Nat} {w : World} {g cap : Nat} {es : List Ed} (h : OwnE t B w g cap es) (k : Nat) (hk : k < es.length) (x : Ed) (hx : okE x) :
    OwnE t B (((w.setCell ⟨g, k * 3, none⟩ (.int .u32 x.1)).setCell ⟨g, k * 3 + 1, none⟩ (.int .u32 x.2.1)).setCell ⟨g, k * 3 + 2, none⟩ (.int .u32 x.2.2)) g cap (es.set k x) := by
  refine ⟨?_, fun y hy => ?_⟩
  · have h1 := (h.1.stored (k * 3) (.int .u32 x.1)).1
    have h2 := (h1.stored (k * 3 + 1) (.int .u32 x.2.1)).1
    have h3 := (h2.stored (k * 3 + 2) (.int .u32 x.2.2)).1
    rw [← flatE_set es k hk x] at h3
    rw [List.length_set]
    exact h3
  · rcases List.mem_or_eq_of_mem_set hy with hy | rfl
    · exact h.2 y hy
    · exact hx

/-- A new row of edges, all of zeros. -/
theorem flatE_zeros (c : Nat) : flatE (List.replicate c (0, 0, 0)) = List.replicate (c * 3) (Value.int .u32 0) := by
  induction c with
  | zero => rfl
  | succ c ih => rw [List.replicate_succ, flatE_cons, ih, show (c + 1) * 3 = c * 3 + 1 + 1 + 1 by omega, List.replicate_succ, List.replicate_succ, List.replicate_succ]; rfl

theorem infoEdge : (Try.prog.info? 39).map (fun i => (i.zero, i.size, i.bytes)) = some (some (.agg #[.int .u32 0, .int .u32 0, .int .u32 0]), 3, 12) := by kernel_rfl
theorem infoRow : (Try.prog.info? 50).map (fun i => (i.zero, i.size, i.bytes)) = some (some (.agg #[.int .u32 0, .int .u32 0, .int .u32 0]), 3, 12) := by kernel_rfl

theorem made3 (n : Nat) : (madeCells (Value.agg #[.int .u32 0, .int .u32 0, .int .u32 0]).cells n).toList = List.replicate n (Value.int .u32 0) := by
  apply List.ext_getElem?
  intro j
  by_cases hj : j < n
  · simp only [madeCells, Value.cells]
    have h3 : j % 3 < 3 := Nat.mod_lt _ (by omega)
    match h : j % 3, h3 with
    | 0, _ => simp [hj, h]
    | 1, _ => simp [hj, h]
    | 2, _ => simp [hj, h]
  · simp [madeCells, hj]

/-- 'make([]api.Edge, c)': the row under a name. -/
theorem makeE (c : Nat) (hc : c ≤ 1048576) : ∃ row : Array Value, (∀ w, (Instr.makeSlice 22 (.int .i64 c) (.int .i64 c)).run Try.prog w = .ok (.slice (some ⟨w.heap.size, 0, none⟩) c c) (w.alloc (.cells row 39))) ∧
    ∀ (w : World) (B : Nat), B ≤ w.heap.size → OwnE 39 B (w.alloc (.cells row 39)) w.heap.size c (List.replicate c (0, 0, 0)) := by
  obtain ⟨i0, hi, hz0, hz1, hz2⟩ := info_parts infoEdge
  refine ⟨madeCells (Value.agg #[.int .u32 0, .int .u32 0, .int .u32 0]).cells (c * 3), fun w => ?_, fun w B hB => ⟨?_, ?_⟩⟩
  · have := run_make (P := Try.prog) w 22 39 i0 _ Try.underlying22 hi hz0 .i64 .i64 c c (by omega) (by omega) (by rw [hz2]; omega) (by omega)
    rw [hz1] at this
    exact this
  · have := World.ownsRow_lit (base := B) (e := 39) (size := 3) w (madeCells (Value.agg #[.int .u32 0, .int .u32 0, .int .u32 0]).cells (c * 3)) c hB (by unfold maxLen; omega) (size_madeCells _ _)
    rw [made3, ← flatE_zeros] at this
    simpa using this
  · intro e he
    rw [List.mem_replicate] at he
    rw [he.2]
    simp [okE]
/-- 'make([]edges.numbers, c)': the row under a name. -/
theorem makeR (c : Nat) (hc : c ≤ 1048576) : ∃ row : Array Value, (∀ w, (Instr.makeSlice 60 (.int .i64 c) (.int .i64 c)).run Try.prog w = .ok (.slice (some ⟨w.heap.size, 0, none⟩) c c) (w.alloc (.cells row 50))) ∧
    ∀ (w : World) (B : Nat), B ≤ w.heap.size → OwnE 50 B (w.alloc (.cells row 50)) w.heap.size c (List.replicate c (0, 0, 0)) := by
  obtain ⟨i0, hi, hz0, hz1, hz2⟩ := info_parts infoRow
  refine ⟨madeCells (Value.agg #[.int .u32 0, .int .u32 0, .int .u32 0]).cells (c * 3), fun w => ?_, fun w B hB => ⟨?_, ?_⟩⟩
  · have := run_make (P := Try.prog) w 60 50 i0 _ Try.underlying60 hi hz0 .i64 .i64 c c (by omega) (by omega) (by rw [hz2]; omega) (by omega)
    rw [hz1] at this
    exact this
  · have := World.ownsRow_lit (base := B) (e := 50) (size := 3) w (madeCells (Value.agg #[.int .u32 0, .int .u32 0, .int .u32 0]).cells (c * 3)) c hB (by unfold maxLen; omega) (size_madeCells _ _)
    rw [made3, ← flatE_zeros] at this
    simpa using this
  · intro e he
    rw [List.mem_replicate] at he
    rw [he.2]
    simp [okE]

end Go.Proofs.Ytjkdnibfppjolaa
