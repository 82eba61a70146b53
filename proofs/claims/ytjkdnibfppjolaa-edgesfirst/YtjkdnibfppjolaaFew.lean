/-
  Appending to rows of edges; what few does. A lemma file: no statement of the seat is proved here.
-/
import Derived.Test.YtjkdnibfppjolaaShown2
namespace Go.Proofs.Ytjkdnibfppjolaa
open Go.RowKit

/-- The slice v, nil or of the call's own blocks from B on, holds the edges es. -/
def OwnV (B : Nat) (w : World) (v : Value) (es : List Ed) : Prop := w.ownsRow B 39 3 v es.length (flatE es) ∧ ∀ e ∈ es, okE e

theorem OwnV.form {B : Nat} {w : World} {v : Value} {es : List Ed} (h : OwnV B w v es) : ∃ a cap, v = .slice a es.length cap := by
  rcases h.1.2 with ⟨rfl, h0⟩ | ⟨g, cap, cur, rfl, _⟩
  · exact ⟨none, 0, by rw [h0]⟩
  · exact ⟨_, _, rfl⟩

theorem OwnV.isE {B : Nat} {w : World} {v : Value} {es : List Ed} (h : OwnV B w v es) : IsE w v es := by
  rcases h.1.2 with ⟨rfl, h0⟩ | ⟨g, cap, cur, rfl, _⟩
  · obtain rfl : es = [] := List.eq_nil_of_length_eq_zero h0
    exact IsE.nil w
  · exact OwnE.isE (t := 39) (B := B) h

theorem OwnV.nil (B : Nat) (w : World) : OwnV B w (.slice none 0 0) [] := ⟨World.ownsRow_nil w B _ _, by simp⟩

theorem OwnV.mono {B B' : Nat} {w : World} {v : Value} {es : List Ed} (h : OwnV B w v es) (hB : B' ≤ B) : OwnV B' w v es := by
  obtain ⟨⟨h1, h2⟩, h3⟩ := h
  refine ⟨⟨h1, ?_⟩, h3⟩
  rcases h2 with h | ⟨g', cap', cur, he, hg, r⟩
  · exact .inl h
  · exact .inr ⟨g', cap', cur, he, by omega, r⟩

theorem OwnV.below {B : Nat} {w w' : World} {v : Value} {es : List Ed} (h : OwnV B w v es) (hb : Below w.heap.size w w') : OwnV B w' v es := by
  refine ⟨⟨h.1.1, ?_⟩, h.2⟩
  rcases h.1.2 with h0 | ⟨g', cap', cur, he, hg, hh, r⟩
  · exact .inl h0
  · exact .inr ⟨g', cap', cur, he, hg, by rw [hb.block _ (Array.getElem?_eq_some_iff.1 hh).1]; exact hh, r⟩

theorem cells_newsE {w : World} {x : Addr} {es : List Ed} (hc : ∀ j, j < es.length → ∀ i u, (encE es[j]!)[i]? = some u → w.cell? (x.add (j * 3 + i)) = some u) :
    ∀ j u, (flatE es)[j]? = some u → w.cell? (x.add j) = some u := by
  intro j u hu
  have hj : j < es.length * 3 := by rw [← flatE_length]; exact (List.getElem?_eq_some_iff.1 hu).1
  have e := flatE_at es (j / 3) (j % 3) (by omega) (by omega)
  rw [show j / 3 * 3 + j % 3 = j by omega, hu] at e
  have := hc (j / 3) (by omega) (j % 3) u e.symm
  rw [show j / 3 * 3 + j % 3 = j by omega] at this
  exact this

/-- 'append(row, more...)' at rows of edges, as a run. -/
theorem run_appendE (w : World) (ty : TypeId) (B : Nat) (v u : Value) (es fs : List Ed) (hown : OwnV B w v es) (hu : IsE w u fs) (hlen : es.length + fs.length ≤ 1048576000) (hB : B ≤ w.heap.size) :
    ∃ a' cap' w', (Builtin.append_ #[22, 22] ty #[v, u]).run Try.prog w = .ok (.slice a' (es.length + fs.length) cap') w' ∧ OwnV B w' (.slice a' (es.length + fs.length) cap') (es ++ fs) ∧ w.grownBy w' v.ownBlock ∧ (v.ownBlock ≠ none → a' ≠ none) := by
  obtain ⟨i0, hi, hz0, hz1, hz2⟩ := info_parts infoEdge
  obtain ⟨ad, c, rfl, h1, h2, h3, h4⟩ := hu
  have hok : ∀ e ∈ es ++ fs, okE e := fun e he => by
    rcases List.mem_append.1 he with he | he
    · exact hown.2 e he
    · exact h4 e he
  cases ad with
  | none =>
    obtain ⟨rfl, rfl⟩ := h2 rfl
    obtain ⟨a, cap, rfl⟩ := hown.form
    have hrun := run_append_owned_none (P := Try.prog) (w := w) B 22 ty 39 i0 3 Try.underlying22 hi _ _ _ hown.1
    refine ⟨a, cap, w, by simpa using hrun, by simpa using hown, ⟨rfl, rfl, rfl, Nat.le_refl _, fun _ _ _ => rfl⟩, fun h => ?_⟩
    rintro rfl
    exact h rfl
  | some ad =>
    obtain ⟨v', w', hr, ho, hg, hn⟩ := run_append_own (P := Try.prog) w B 22 ty 39 i0 _ 3 12 Try.underlying22 hi hz0 hz1 hz2 rfl (by decide) v es.length (flatE es) hown.1 ad fs.length c (flatE fs) (flatE_length fs) (cells_newsE (h3 ad rfl)) (flatE_oneCell fs) (by unfold maxLen; omega) (by omega) hB
    have hl : (es ++ fs).length = es.length + fs.length := List.length_append
    rw [← flatE_append] at ho
    have hO : OwnV B w' v' (es ++ fs) := ⟨by rw [hl]; exact ho, hok⟩
    obtain ⟨a', cap', rfl⟩ := hO.form
    rw [hl] at hr hO hn
    refine ⟨a', cap', w', hr, hO, hg, fun h => ?_⟩
    rintro rfl
    rcases ho.2 with ⟨_, h0⟩ | ⟨g, cap, cur, he, _⟩
    · have hnil : v = .slice none 0 0 := (hn.1 (by
        rcases ho.2 with ⟨he, _⟩ | ⟨g, cap, cur, he, _⟩
        · rw [hl] at he; exact he
        · simp at he)).1
      rw [hnil] at h
      exact h rfl
    · simp at he

/-- The same, as a step of a region that draws its order. -/
theorem step_appendE {ops : Array Oper} {o : Oper} {a : Act} {K : Act → World → Prop} {Q : Exit → Act → World → Prop} {E : Prop} (w : World) (hgd : o.guard = none) (s x : Operand)
    (ho : o.op = .call { callee := .builtin .append, args := #[s, x], argTypes := #[22, 22] })
    (B : Nat) (v u : Value) (es fs : List Ed) (hs : a.eval s = v) (hown : OwnV B w v es) (hx : a.eval x = u) (hu : IsE w u fs) (hlen : es.length + fs.length ≤ 1048576000) (hB : B ≤ w.heap.size)
    (h : ∀ a' cap' w', OwnV B w' (.slice a' (es.length + fs.length) cap') (es ++ fs) → w.grownBy w' v.ownBlock → (v.ownBlock ≠ none → a' ≠ none) → K (a.put o.dst (.slice a' (es.length + fs.length) cap')) w') :
    if Region.wanted o (yielded ops a.tmps) = true then Oper.wp Try.prog o a w K Q else E := by
  have hw : Region.wanted o (yielded ops a.tmps) = true := by simp [Region.wanted, hgd]
  rw [if_pos hw]
  obtain ⟨a', cap', w', hr, h1, h2, h3⟩ := run_appendE w o.type B v u es fs hown hu hlen hB
  unfold Oper.wp execOp
  simp only [ho, resolve, invoke, builtin, Sem.run_bind, Sem.run_pure, Result.andThen_ok, List.map_toArray, List.map_cons, List.map_nil, hs, hx, hr]
  exact h a' cap' w' h1 h2 h3

/-- The same, in a walk. -/
theorem wp_appendE {ops : Array Oper} {rest : List Oper} {o : Oper} {a : Act} {Q : Exit → Act → World → Prop} (w : World) (hgd : o.guard = none) (s x : Operand)
    (ho : o.op = .call { callee := .builtin .append, args := #[s, x], argTypes := #[22, 22] })
    (B : Nat) (v u : Value) (es fs : List Ed) (hs : a.eval s = v) (hown : OwnV B w v es) (hx : a.eval x = u) (hu : IsE w u fs) (hlen : es.length + fs.length ≤ 1048576000) (hB : B ≤ w.heap.size)
    (h : ∀ a' cap' w', OwnV B w' (.slice a' (es.length + fs.length) cap') (es ++ fs) → w.grownBy w' v.ownBlock → (v.ownBlock ≠ none → a' ≠ none) → wpList Try.prog ops Q rest (a.put o.dst (.slice a' (es.length + fs.length) cap')) w') :
    wpList Try.prog ops Q (o :: rest) a w :=
  wpList_plain hgd fun _ hK => by
    obtain ⟨a', cap', w', hr, h1, h2, h3⟩ := run_appendE w o.type B v u es fs hown hu hlen hB
    unfold Oper.wp execOp
    simp only [ho, resolve, invoke, builtin, Sem.run_bind, Sem.run_pure, Result.andThen_ok, List.map_toArray, List.map_cons, List.map_nil, hs, hx, hr]
    exact hK _ _ (h a' cap' w' h1 h2 h3)

theorem OwnV.empty (w : World) (B : Nat) (hB : B ≤ w.heap.size) : OwnV B (w.alloc (.cells #[] 39)) (.slice (some ⟨w.heap.size, 0, none⟩) 0 0) [] :=
  ⟨World.ownsRow_made w #[] 0 hB (by unfold maxLen; omega) rfl, by simp⟩

end Go.Proofs.Ytjkdnibfppjolaa
