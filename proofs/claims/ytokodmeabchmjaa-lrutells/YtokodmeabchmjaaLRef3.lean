/-
  Rows of texts, rows of numbers: append. A lemma file: no statement of the seat is proved here.
-/
import Derived.Test.YtokodmeabchmjaaLRef2
import Derived.Laws.AppendOwnNone
import Derived.Maps.AppendAt
namespace Go.Proofs.Ytokodmeabchmjaa
open Go.RowKit Go.Maps Go.Sort

/-- A row of one-celled values of its own; t is what it is a row of. -/
def RowV (w : World) (t : TypeId) (v : Value) (xs : List Value) : Prop := w.ownsRow 0 t 1 v xs.length xs
/-- A slice that holds one-celled values. -/
def IsV (w : World) (v : Value) (xs : List Value) : Prop :=
  ∃ a cap, v = .slice a xs.length cap ∧ (a = none → xs = [] ∧ cap = 0) ∧ (∀ x, a = some x → ∀ j u, xs[j]? = some u → w.cell? (x.add j) = some u) ∧ ∀ u ∈ xs, u.oneCell' = true

theorem Try.infoStr : (Try.prog.info? 9).map (fun i => (i.zero, i.size, i.bytes)) = some (some (.string ByteArray.empty), 1, 16) := by kernel_rfl
theorem Try.infoInt : (Try.prog.info? 3).map (fun i => (i.zero, i.size, i.bytes)) = some (some (.int .i64 0), 1, 8) := by kernel_rfl

theorem RowV.appendS {w : World} {v x : Value} {xs ys : List Value} (h : RowV w 9 v xs) (hx : IsV w x ys) (hlen : xs.length + ys.length ≤ 1000000) (ty : TypeId) :
    ∃ v' w', (Builtin.append_ #[35, 35] ty #[v, x]).run Try.prog w = .ok v' w' ∧ RowV w' 9 v' (xs ++ ys) ∧ Kept (own v) w w' ∧ Newly w (own v) (own v') := by
  obtain ⟨i0, hi, hz0, hz1, hz2⟩ := info_parts Try.infoStr
  obtain ⟨ad, c, rfl, h2, h3, h4⟩ := hx
  cases ad with
  | none =>
    obtain ⟨rfl, rfl⟩ := h2 rfl
    have hrun := run_append_owned_none (P := Try.prog) (w := w) 0 35 ty 9 i0 1 Try.underlying35 hi _ _ _ h
    exact ⟨v, w, hrun, by simpa using h, Kept.refl _ _, Newly.refl _ _⟩
  | some ad =>
    obtain ⟨v', w', hr, ho, hg, hn, hat⟩ := run_append_own_at (P := Try.prog) w 0 35 ty 9 i0 _ 1 16 Try.underlying35 hi hz0 hz1 hz2 rfl (by decide) v xs.length _ h ad ys.length c ys (by simp) (h3 ad rfl) h4 (by unfold maxLen; omega) (by omega) (Nat.zero_le _)
    refine ⟨v', w', hr, ?_, Kept.of_grown hg, ?_⟩
    · unfold RowV
      rw [List.length_append]
      exact ho
    · intro y hy
      rcases hat with e | e
      · exact .inl (by simpa [own, e] using hy)
      · simp [own, e] at hy
        subst hy
        exact .inr (Nat.le_refl _)

theorem RowV.appendI {w : World} {v x : Value} {xs ys : List Value} (h : RowV w 3 v xs) (hx : IsV w x ys) (hlen : xs.length + ys.length ≤ 1000000) (ty : TypeId) :
    ∃ v' w', (Builtin.append_ #[37, 37] ty #[v, x]).run Try.prog w = .ok v' w' ∧ RowV w' 3 v' (xs ++ ys) ∧ Kept (own v) w w' ∧ Newly w (own v) (own v') := by
  obtain ⟨i0, hi, hz0, hz1, hz2⟩ := info_parts Try.infoInt
  obtain ⟨ad, c, rfl, h2, h3, h4⟩ := hx
  cases ad with
  | none =>
    obtain ⟨rfl, rfl⟩ := h2 rfl
    have hrun := run_append_owned_none (P := Try.prog) (w := w) 0 37 ty 3 i0 1 Try.underlying37 hi _ _ _ h
    exact ⟨v, w, hrun, by simpa using h, Kept.refl _ _, Newly.refl _ _⟩
  | some ad =>
    obtain ⟨v', w', hr, ho, hg, hn, hat⟩ := run_append_own_at (P := Try.prog) w 0 37 ty 3 i0 _ 1 8 Try.underlying37 hi hz0 hz1 hz2 rfl (by decide) v xs.length _ h ad ys.length c ys (by simp) (h3 ad rfl) h4 (by unfold maxLen; omega) (by omega) (Nat.zero_le _)
    refine ⟨v', w', hr, ?_, Kept.of_grown hg, ?_⟩
    · unfold RowV
      rw [List.length_append]
      exact ho
    · intro y hy
      rcases hat with e | e
      · exact .inl (by simpa [own, e] using hy)
      · simp [own, e] at hy
        subst hy
        exact .inr (Nat.le_refl _)

section
variable {ops : Array Oper} {o : Oper} {a : Act} {Q : Exit → Act → World → Prop}

theorem step_appendVS {K : Act → World → Prop} {E : Prop} (w : World) (hgd : o.guard = none) (s x : Operand) (ho : o.op = .call { callee := .builtin .append, args := #[s, x], argTypes := #[35, 35] })
    (v u : Value) (xs ys : List Value) (hs : a.eval s = v) (hrow : RowV w 9 v xs) (hx : a.eval x = u) (hu : IsV w u ys) (hlen : xs.length + ys.length ≤ 1000000)
    (h : ∀ v' w', RowV w' 9 v' (xs ++ ys) → Kept (own v) w w' → Newly w (own v) (own v') → K (a.put o.dst v') w') :
    if Region.wanted o (yielded ops a.tmps) = true then Oper.wp Try.prog o a w K Q else E := by
  have hw : Region.wanted o (yielded ops a.tmps) = true := by simp [Region.wanted, hgd]
  rw [if_pos hw]
  obtain ⟨v', w', hr, h2, h3, h4⟩ := hrow.appendS hu hlen o.type
  unfold Oper.wp execOp
  simp only [ho, resolve, invoke, builtin, Sem.run_bind, Sem.run_pure, Result.andThen_ok, List.map_toArray, List.map_cons, List.map_nil, hs, hx, hr]
  exact h v' w' h2 h3 h4

theorem step_appendVI {K : Act → World → Prop} {E : Prop} (w : World) (hgd : o.guard = none) (s x : Operand) (ho : o.op = .call { callee := .builtin .append, args := #[s, x], argTypes := #[37, 37] })
    (v u : Value) (xs ys : List Value) (hs : a.eval s = v) (hrow : RowV w 3 v xs) (hx : a.eval x = u) (hu : IsV w u ys) (hlen : xs.length + ys.length ≤ 1000000)
    (h : ∀ v' w', RowV w' 3 v' (xs ++ ys) → Kept (own v) w w' → Newly w (own v) (own v') → K (a.put o.dst v') w') :
    if Region.wanted o (yielded ops a.tmps) = true then Oper.wp Try.prog o a w K Q else E := by
  have hw : Region.wanted o (yielded ops a.tmps) = true := by simp [Region.wanted, hgd]
  rw [if_pos hw]
  obtain ⟨v', w', hr, h2, h3, h4⟩ := hrow.appendI hu hlen o.type
  unfold Oper.wp execOp
  simp only [ho, resolve, invoke, builtin, Sem.run_bind, Sem.run_pure, Result.andThen_ok, List.map_toArray, List.map_cons, List.map_nil, hs, hx, hr]
  exact h v' w' h2 h3 h4
end

/-- A row up to a place, and from a place on. -/
theorem RowV.take {w : World} {t : TypeId} {a : Option Addr} {n cap : Nat} {xs : List Value} (h : RowV w t (.slice a n cap) xs) (h1 : ∀ u ∈ xs, u.oneCell' = true) (k : Nat) (hk : k ≤ xs.length) : IsV w (.slice a k cap) (xs.take k) := by
  refine ⟨a, cap, by rw [List.length_take, Nat.min_eq_left hk], ?_, ?_, fun u hu => h1 u (List.mem_of_mem_take hu)⟩
  · intro e0
    rcases h.2 with ⟨e, h0⟩ | ⟨g, c2, cur, e, _⟩
    · simp only [Value.slice.injEq] at e
      exact ⟨by rw [List.eq_nil_of_length_eq_zero h0]; simp, e.2.2⟩
    · simp only [Value.slice.injEq] at e
      rw [e0] at e
      cases e.1
  · intro x hx j u hu
    have hj : j < k := by
      have := (List.getElem?_eq_some_iff.1 hu).1
      simp at this
      omega
    rw [List.getElem?_take_of_lt hj] at hu
    rcases h.2 with ⟨e, h0⟩ | ⟨g, c2, cur, e, _⟩
    · simp only [Value.slice.injEq] at e
      rw [hx] at e
      cases e.1
    · simp only [Value.slice.injEq] at e
      rw [hx] at e
      simp only [Option.some.injEq] at e
      rw [e.1]
      exact World.ownsRow.cells h (g := g) (by rw [hx, e.1]; rfl) j u hu

theorem RowV.drop {w : World} {t : TypeId} {g n cap : Nat} {xs : List Value} (h : RowV w t (.slice (some ⟨g, 0, none⟩) n cap) xs) (h1 : ∀ u ∈ xs, u.oneCell' = true) (k : Nat) :
    IsV w (.slice (if cap = k then some ⟨g, 0, none⟩ else some ((⟨g, 0, none⟩ : Addr).add (k * 1))) (xs.length - k) (cap - k)) (xs.drop k) := by
  have hcap : xs.length ≤ cap := by
    rcases h.2 with ⟨e2, _⟩ | ⟨g2, cap2, cur, e2, hb, hg, hn, _⟩
    · cases e2
    · simp only [Value.slice.injEq] at e2; omega
  refine ⟨_, _, by rw [List.length_drop], ?_, ?_, fun u hu => h1 u (List.mem_of_mem_drop hu)⟩
  · intro e0
    split at e0 <;> cases e0
  · intro x hx j u hu
    rw [List.getElem?_drop] at hu
    have hc := World.ownsRow.cells h (g := g) rfl _ u hu
    split at hx
    · have := (List.getElem?_eq_some_iff.1 hu).1
      omega
    · simp only [Option.some.injEq] at hx
      rw [← hx]
      rw [Addr.add_lit] at hc
      rw [Addr.add_lit, Addr.add_lit, Nat.add_assoc, Nat.mul_one]
      exact hc

theorem RowV.empty (w : World) (t : TypeId) : RowV (w.alloc (.cells #[] t)) t (.slice (some ⟨w.heap.size, 0, none⟩) 0 0) [] := World.ownsRow_made w #[] 0 (Nat.zero_le _) (by unfold maxLen; omega) rfl

end Go.Proofs.Ytokodmeabchmjaa
