/-
  Steps of regions that draw their order, guarded or not; rows of edges behind a store elsewhere. A lemma file: no statement of the seat is proved here.
-/
import Derived.Test.YtjkdnibfppjolaaRefEnc
namespace Go.Proofs.Ytjkdnibfppjolaa
open Go.RowKit

/-- 'append(row, more...)' at rows of edges, as a step that is wanted. -/
theorem step_appendW {ops : Array Oper} {o : Oper} {a : Act} {K : Act → World → Prop} {Q : Exit → Act → World → Prop} {E : Prop} (w : World) (hw : Region.wanted o (yielded ops a.tmps) = true) (s x : Operand)
    (ho : o.op = .call { callee := .builtin .append, args := #[s, x], argTypes := #[22, 22] })
    (B : Nat) (v u : Value) (es fs : List Ed) (hs : a.eval s = v) (hown : OwnV B w v es) (hx : a.eval x = u) (hu : IsE w u fs) (hlen : es.length + fs.length ≤ 1048576000) (hB : B ≤ w.heap.size)
    (h : ∀ a' cap' w', OwnV B w' (.slice a' (es.length + fs.length) cap') (es ++ fs) → w.grownBy w' v.ownBlock → (v.ownBlock ≠ none → a' ≠ none) → K (a.put o.dst (.slice a' (es.length + fs.length) cap')) w') :
    if Region.wanted o (yielded ops a.tmps) = true then Oper.wp Try.prog o a w K Q else E := by
  rw [if_pos hw]
  obtain ⟨a', cap', w', hr, h1, h2, h3⟩ := run_appendE w o.type B v u es fs hown hu hlen hB
  unfold Oper.wp execOp
  simp only [ho, resolve, invoke, builtin, Sem.run_bind, Sem.run_pure, Result.andThen_ok, List.map_toArray, List.map_cons, List.map_nil, hs, hx, hr]
  exact h a' cap' w' h1 h2 h3

/-- A store into a graph's box leaves rows of edges. -/
theorem IsE.boxed {w : World} {v : Value} {es : List Ed} (h : IsE w v es) {q i t : Nat} {n : Int} {b : Option Addr} {c d : Nat} (u : Value) (hq : w.heap[q]? = some (.cells #[.int .i64 n, .slice b c d] t (0, 0))) : IsE (w.setCell ⟨q, i, none⟩ u) v es := by
  by_cases h0 : 0 < es.length
  · obtain ⟨b', off, cap, rfl, hcap, hb', hc'⟩ := h.opened h0
    refine ⟨_, cap, rfl, hcap, by simp, fun x hx j hj k z hz => ?_, h.ok⟩
    simp only [Option.some.injEq] at hx
    subst hx
    rw [Addr.add_lit, ← Nat.add_assoc]
    have hc := hc' j hj k z hz
    by_cases e : b' = q
    · exfalso
      subst e
      have hk3 : k < 3 := by have := (List.getElem?_eq_some_iff.1 hz).1; rw [encE_length] at this; exact this
      have hzu : ∃ m, z = .int .u32 m := by
        match k, hk3 with
        | 0, _ => simp [encE] at hz; exact ⟨_, hz.symm⟩
        | 1, _ => simp [encE] at hz; exact ⟨_, hz.symm⟩
        | 2, _ => simp [encE] at hz; exact ⟨_, hz.symm⟩
      obtain ⟨m, rfl⟩ := hzu
      simp only [World.cell?, hq] at hc
      match hoff : off + j * 3 + k with
      | 0 => simp [hoff] at hc
      | 1 => simp [hoff] at hc
      | r + 2 => simp [hoff] at hc
    · rw [World.cell?_of_block (w := w) (heap_setCell_other w ⟨q, i, none⟩ _ u e)]
      exact hc
  · obtain rfl : es = [] := List.eq_nil_of_length_eq_zero (by omega)
    obtain ⟨a, cap, rfl, h1, h2, h3, h4⟩ := h
    exact ⟨a, cap, rfl, h1, h2, by simp, h4⟩

/-- What holds of a row of edges where all blocks but one, of bytes, stay. -/
theorem OwnV.kept {B B' : Nat} {w w' : World} {v : Value} {es : List Ed} (h : OwnV B w v es) {g cap : Nat} {bs : List Int} (ho : OwnB B' w g cap bs) (hk : ∀ k, k < w.heap.size → k ≠ g → w'.heap[k]? = w.heap[k]?) : OwnV B w' v es := by
  refine ⟨⟨h.1.1, ?_⟩, h.2⟩
  rcases h.1.2 with h0 | ⟨g', cap', cur, he, hg, hh, r⟩
  · exact .inl h0
  · exact .inr ⟨g', cap', cur, he, hg, by rw [hk _ (Array.getElem?_eq_some_iff.1 hh).1 (ho.block_ne hh (by decide))]; exact hh, r⟩

/-- While the bytes of edges are told: the row of bytes, the row of edges, the numbers' block. -/
def TellSt (w : World) (lv : Value) (L : List Ed) (q : Nat) (A : Array Value) (wi : World) (g cap : Nat) (acc : List Int) : Prop :=
  OwnB w.heap.size wi g cap acc ∧ Below w.heap.size w wi ∧ OwnV w.heap.size wi lv L ∧ wi.heap[q]? = some (.cells A 37 (0, 0))

theorem TellSt.push {w : World} {lv : Value} {L : List Ed} {q : Nat} {A : Array Value} {wi w' : World} {g cap g' cap' : Nat} {acc acc' : List Int} (h : TellSt w lv L q A wi g cap acc) (ho : OwnB w.heap.size w' g' cap' acc') (hb : Below w.heap.size wi w') (hk : ∀ k, k < wi.heap.size → k ≠ g → w'.heap[k]? = wi.heap[k]?) : TellSt w lv L q A w' g' cap' acc' := by
  obtain ⟨h1, h2, h3, h4⟩ := h
  exact ⟨ho, h2.trans hb, h3.kept h1 hk, (hk _ (Array.getElem?_eq_some_iff.1 h4).1 (h1.block_ne h4 (by decide))).trans h4⟩

theorem OwnV.one (w : World) (B : Nat) (hB : B ≤ w.heap.size) (x y z : Int) (h : okE (x, y, z)) : OwnV B (w.alloc (.cells #[.int .u32 x, .int .u32 y, .int .u32 z] 39)) (.slice (some ⟨w.heap.size, 0, none⟩) 1 1) [(x, y, z)] :=
  ⟨World.ownsRow_lit (base := B) (e := 39) (size := 3) w #[.int .u32 x, .int .u32 y, .int .u32 z] 1 hB (by unfold maxLen; omega) rfl, fun e he => by simp at he; subst he; exact h⟩

/-- An edge's twelve bytes, as shifts tell them. -/
theorem bytes12 (x y z : Int) (hx : 0 ≤ x ∧ x < 4294967296) (hy : 0 ≤ y ∧ y < 4294967296) (hz : 0 ≤ z ∧ z < 4294967296) :
    edgeB (x, y, z) = [x % 256, x / 256 % 256, x / 65536 % 256, x / 16777216, y % 256, y / 256 % 256, y / 65536 % 256, y / 16777216, z % 256, z / 256 % 256, z / 65536 % 256, z / 16777216] := by
  simp only [edgeB, putB, List.cons_append, List.nil_append]
  have e : ∀ v : Int, 0 ≤ v → v < 4294967296 → v / 256 / 256 % 256 = v / 65536 % 256 ∧ v / 256 / 256 / 256 % 256 = v / 16777216 := fun v h0 h1 => by omega
  obtain ⟨a1, a2⟩ := e x hx.1 hx.2
  obtain ⟨b1, b2⟩ := e y hy.1 hy.2
  obtain ⟨c1, c2⟩ := e z hz.1 hz.2
  rw [a1, a2, b1, b2, c1, c2]

/-- The first edge that is wrong is told, behind right ones. -/
theorem badAt_first (n : Int) (es : List Ed) (x : Ed) (more : List Ed) (i : Nat) (h : (es.any fun x => decide (0 ≤ wrongE n x)) = false) (hx : 0 ≤ wrongE n x) : badAt n (es ++ x :: more) i = some (4 + ((i + es.length : Nat) : Int) * 12 + wrongE n x * 4) := by
  induction es generalizing i with
  | nil =>
    rw [List.nil_append, badAt, if_pos hx]
    simp
  | cons y es ih =>
    simp only [List.any_cons, Bool.or_eq_false_iff, decide_eq_false_iff_not] at h
    rw [List.cons_append, badAt, if_neg h.1, ih (i + 1) h.2]
    congr 2
    simp
    omega

end Go.Proofs.Ytjkdnibfppjolaa
