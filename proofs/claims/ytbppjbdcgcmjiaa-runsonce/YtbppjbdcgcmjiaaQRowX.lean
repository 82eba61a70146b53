/-
  Rows of slices of records of the call's own, whose records lie outside of some blocks. A lemma file: no statement of the seat is proved here.
-/
import Derived.RangeFuncNested
import Derived.RangeFuncBound
import Derived.RangeFuncCalls
import Derived.RangeFuncLeaves
import Derived.OwnWalkIn
import Derived.Test.YtbppjbdcgcmjiaaQPure
namespace Go.Proofs.Ytbppjbdcgcmjiaa
open Go.RowKit Go.Maps

/-- The slice v, nil or a row of its own, holds slices of these records; the records lie neither in v's block nor in those of bx. -/
def RowX (bx : Nat → Prop) (w : World) (v : Value) (ls : List (List Rc)) : Prop :=
  ∃ us : List Value, w.ownsRow 0 22 1 v us.length us ∧ us.length = ls.length ∧ ∀ (j : Nat) u, us[j]? = some u → IsR w u (ls[j]?.getD []) ∧ (ls[j]?.getD [] ≠ [] → ∀ x ∈ own u, x ∉ own v ∧ ¬ bx x)

section
variable {bx : Nat → Prop} {w w' : World} {v : Value} {ls : List (List Rc)}

theorem RowX.nil (bx : Nat → Prop) (w : World) : RowX bx w (.slice none 0 0) [] := ⟨[], World.ownsRow_nil w 0 _ _, rfl, by simp⟩

theorem RowX.form (h : RowX bx w v ls) : (v = .slice none 0 0 ∧ ls = []) ∨ ∃ g cap, v = .slice (some ⟨g, 0, none⟩) ls.length cap ∧ ls.length ≤ cap := by
  obtain ⟨us, ⟨h1, h2⟩, hl, h3⟩ := h
  rcases h2 with ⟨rfl, h⟩ | ⟨g, cap, cur, rfl, hb, hgg, hn, rest⟩
  · exact .inl ⟨rfl, List.eq_nil_of_length_eq_zero (by omega)⟩
  · exact .inr ⟨g, cap, by rw [hl], by omega⟩

theorem RowX.slice (h : RowX bx w v ls) : ∃ a cap, v = .slice a ls.length cap := by
  rcases h.form with ⟨rfl, rfl⟩ | ⟨g, cap, rfl, _⟩
  · exact ⟨_, _, rfl⟩
  · exact ⟨_, _, rfl⟩

theorem RowX.lt (h : RowX bx w v ls) : ∀ x ∈ own v, x < w.heap.size := by
  obtain ⟨us, h1, _⟩ := h
  exact fun x hx => (h1.lt x (by simpa [own] using hx)).2

theorem RowX.isRR (h : RowX bx w v ls) : IsRR w v ls := by
  obtain ⟨us, hr, hl, h3⟩ := h
  rcases hr.2 with ⟨rfl, h⟩ | ⟨g, cap, cur, rfl, hb, hgg, hn, hm, hs, ht⟩
  · obtain rfl : ls = [] := List.eq_nil_of_length_eq_zero (by omega)
    exact IsRR.nil w
  · refine ⟨some ⟨g, 0, none⟩, cap, by rw [hl], by omega, by simp, fun x hx j hj => ?_⟩
    simp only [Option.some.injEq] at hx
    subst hx
    have hju : j < us.length := by omega
    have hu := List.getElem?_eq_getElem hju
    exact ⟨us[j], World.ownsRow.cells hr (g := g) rfl j _ hu, (h3 j _ hu).1⟩

theorem RowX.kept {fp : List Nat} (h : RowX bx w v ls) (hk : Kept fp w w') (hv : ∀ x ∈ own v, x ∉ fp) (ht : ∀ x < w.heap.size, x ∈ fp → x ∈ own v ∨ bx x) : RowX bx w' v ls := by
  obtain ⟨us, hr, hl, h3⟩ := h
  refine ⟨us, ownsRow_kept hr hk hv, hl, fun j u hu => ⟨(h3 j u hu).1.keptN hk fun hne x hx hxf => ?_, (h3 j u hu).2⟩⟩
  have h4 := (h3 j u hu).2 hne x hx
  rcases ht x ((h3 j u hu).1.lt hne x hx) hxf with h5 | h5
  · exact h4.1 h5
  · exact h4.2 h5

theorem RowX.below (h : RowX bx w v ls) (hb : Below w.heap.size w w') : RowX bx w' v ls :=
  h.kept (Kept.of_below (fp := []) hb) (by simp) (by simp)

theorem RowX.mono {bx' : Nat → Prop} (h : RowX bx w v ls) (hm : ∀ x, bx' x → bx x) : RowX bx' w v ls := by
  obtain ⟨us, hr, hl, h3⟩ := h
  exact ⟨us, hr, hl, fun j u hu => ⟨(h3 j u hu).1, fun hne x hx => ⟨((h3 j u hu).2 hne x hx).1, fun hb => ((h3 j u hu).2 hne x hx).2 (hm x hb)⟩⟩⟩

theorem RowX.ok (h : RowX bx w v ls) : ∀ l ∈ ls, ∀ e ∈ l, okR e := by
  obtain ⟨us, hr, hl, h3⟩ := h
  intro l hm e he
  obtain ⟨j, hj⟩ := List.getElem?_of_mem hm
  have hjl := (List.getElem?_eq_some_iff.1 hj).1
  have := (h3 j us[j]! (by rw [getElem!_pos us j (by omega)]; exact List.getElem?_eq_getElem (by omega))).1
  rw [hj] at this
  obtain ⟨_, _, _, _, _, _, h4⟩ := this
  exact h4 e he

/-- 'append(row, text)': the text's slice has just been laid in a new block. -/
theorem RowX.push {u : Value} {bs : List Rc} (h : RowX bx w v ls) (hu : IsR w u bs) (hd : bs ≠ [] → ∀ x ∈ own u, x ∉ own v ∧ ¬ bx x) (hlen : ls.length + 1 ≤ 1099511627776) (ty : TypeId) :
    ∃ v' w', (Builtin.append_ #[28, 28] ty #[v, .slice (some ⟨w.heap.size, 0, none⟩) 1 1]).run Try.prog (w.alloc (.cells #[u] 22)) = .ok v' w' ∧ RowX bx w' v' (ls ++ [bs]) ∧ Kept (own v) w w' ∧ Newly w (own v) (own v') := by
  obtain ⟨i0, hi, hz0, hz1, hz2⟩ := info_parts Try.infoRecs
  have hvl := h.lt
  have h' := h.below ((Below.refl _ w).alloc (Nat.le_refl _) (.cells #[u] 22))
  have hu' := hu.below ((Below.refl _ w).alloc (Nat.le_refl _) (.cells #[u] 22))
  obtain ⟨us, hr, hl, h3⟩ := h'
  obtain ⟨ua, uc, rfl, _⟩ := hu.form
  obtain ⟨v', w', hrun, ho, hg, hn, hat⟩ := run_append_own_at (P := Try.prog) (w.alloc (.cells #[.slice ua bs.length uc] 22)) 0 28 ty 22 i0 (.slice none 0 0) 1 24 Try.underlying28 hi hz0 hz1 hz2 rfl (by decide) v us.length _ hr ⟨w.heap.size, 0, none⟩ 1 1 [.slice ua bs.length uc] rfl (cell_one_new _ _ _) (by simp [Value.oneCell']) (by unfold maxLen; omega) (by omega) (Nat.zero_le _)
  have hk : Kept (own v) (w.alloc (.cells #[.slice ua bs.length uc] 22)) w' := Kept.of_grown hg
  have hnew : Newly w (own v) (own v') := by
    intro y hy
    rcases hat with e | e
    · exact .inl (by simpa [own, e] using hy)
    · simp [own, e] at hy
      subst hy
      exact .inr (by omega)
  have hkk : Kept (own v) w w' := ((Kept.refl (own v) w).alloc _).trans hk (Newly.refl _ _)
  refine ⟨v', w', hrun, ⟨us ++ [.slice ua bs.length uc], by simpa using ho, by simp [hl], fun j y hy => ?_⟩, hkk, hnew⟩
  have old : ∀ (cs : List Rc) (y : Value), IsR w y cs → (cs ≠ [] → ∀ x ∈ own y, x ∉ own v ∧ ¬ bx x) → IsR w' y cs ∧ (cs ≠ [] → ∀ x ∈ own y, x ∉ own v' ∧ ¬ bx x) := fun cs y hy hd => ⟨hy.keptN hkk (fun hne x hx => (hd hne x hx).1), fun hne x hx => ⟨fun hx' => by
    rcases hnew x hx' with h1 | h1
    · exact (hd hne x hx).1 h1
    · have := hy.lt hne x hx
      omega, (hd hne x hx).2⟩⟩
  by_cases hj : j < us.length
  · rw [List.getElem?_append_left hj] at hy
    rw [List.getElem?_append_left (by omega)]
    have hy1 := (h3 j y hy)
    refine ⟨hy1.1.keptN hk (fun hne x hx => (hy1.2 hne x hx).1), fun hne x hx => ⟨fun hx' => ?_, (hy1.2 hne x hx).2⟩⟩
    rcases hat with e | e
    · exact (hy1.2 hne x hx).1 (by simpa [own, e] using hx')
    · simp [own, e] at hx'
      have := hy1.1.lt hne x hx
      simp at this
      omega
  · have hj2 : j = us.length := by
      have := (List.getElem?_eq_some_iff.1 hy).1
      simp at this
      omega
    subst hj2
    simp at hy
    subst hy
    rw [List.getElem?_append_right (by omega), hl, Nat.sub_self]
    exact old bs _ hu (fun hne => hd hne)

/-- A slot of the row is written. -/
theorem RowX.stored {g cap n : Nat} (h : RowX bx w (.slice (some ⟨g, 0, none⟩) n cap) ls) (j : Nat) (hj : j < ls.length) (u : Value) (bs : List Rc) (hu : IsR w u bs) (hd : bs ≠ [] → ∀ x ∈ own u, x ≠ g ∧ ¬ bx x) :
    RowX bx (w.setCell ⟨g, j, none⟩ u) (.slice (some ⟨g, 0, none⟩) n cap) (ls.set j bs) := by
  obtain ⟨us, hr, hl, h3⟩ := h
  have en : n = us.length := by
    rcases hr.2 with ⟨h', h0⟩ | ⟨g', cap', cur, h', _⟩
    · simp at h'
    · simp at h'
      omega
  subst en
  have hk : Kept [g] w (w.setCell ⟨g, j, none⟩ u) := (Kept.refl _ _).setCell (.inl (by simp)) _
  have hs := (World.ownsRow.stored hr j u).1
  refine ⟨us.set j u, by simpa [hl] using hs, by simp [hl], fun i y hy => ?_⟩
  have hi : i < us.length := by simpa using (List.getElem?_eq_some_iff.1 hy).1
  by_cases e : i = j
  · subst e
    rw [List.getElem?_set_self hi] at hy
    simp only [Option.some.injEq] at hy
    subst hy
    rw [List.getElem?_set_self (by omega)]
    exact ⟨hu.keptN hk (fun hne x hx => by simpa using (hd hne x hx).1), fun hne x hx => ⟨by simpa [Value.ownBlock] using Ne.symm (hd hne x hx).1, (hd hne x hx).2⟩⟩
  · rw [List.getElem?_set_ne (by omega)] at hy
    rw [List.getElem?_set_ne (by omega)]
    have h4 := h3 i y hy
    exact ⟨h4.1.keptN hk (fun hne x hx => by simpa [own, Value.ownBlock, eq_comm] using (h4.2 hne x hx).1), h4.2⟩

/-- A slot of the row. -/
theorem RowX.at {g cap n : Nat} (h : RowX bx w (.slice (some ⟨g, 0, none⟩) n cap) ls) (k : Nat) (hk : k < ls.length) :
    n = ls.length ∧ n ≤ cap ∧ w.frozen? ⟨g, k, none⟩ = false ∧ ∃ a c, w.cell? ⟨g, k, none⟩ = some (.slice a (ls[k]?.getD []).length c) ∧ IsR w (.slice a (ls[k]?.getD []).length c) (ls[k]?.getD []) ∧ (ls[k]?.getD [] ≠ [] → ∀ x ∈ own (.slice a (ls[k]?.getD []).length c), x ≠ g ∧ ¬ bx x) := by
  obtain ⟨us, hr, hl, h3⟩ := h
  have en : n = us.length := by
    rcases hr.2 with ⟨h', h0⟩ | ⟨g', cap', cur, h', _⟩
    · simp at h'
    · simp at h'
      omega
  subst en
  have hf := World.ownsRow.frozenAt hr k
  have hc : us.length = ls.length ∧ us.length ≤ cap := by
    rcases hr.2 with ⟨h', _⟩ | ⟨g', cap', cur, h', _, _, hn, _⟩
    · simp at h'
    · simp at h'
      omega
  have hku : k < us.length := by omega
  have hu := List.getElem?_eq_getElem hku
  have hcell := World.ownsRow.cells hr (g := g) rfl k _ hu
  rw [Addr.add_lit, Nat.zero_add] at hcell
  obtain ⟨hi, hd⟩ := h3 k _ hu
  obtain ⟨a, c, he, _⟩ := hi.form
  rw [he] at hcell hi hd
  exact ⟨hc.1, hc.2, hf, a, c, hcell, hi, fun hne x hx => ⟨by simpa [own, Value.ownBlock, eq_comm] using (hd hne x hx).1, (hd hne x hx).2⟩⟩

end

/-- 'append(row, x)' of which is known what it leaves: at the operation, in a round too. -/
theorem wpListIn_appendX {F : Fence} {n : Nat} {ops : Array Oper} {rest : List Oper} {o : Oper} {a : Act} {Q : Exit → Act → World → Prop} (R : Value → World → Prop) (w : World) (hgd : o.guard = none) (t : TypeId) (s x : Operand) (ho : o.op = .call { callee := .builtin .append, args := #[s, x], argTypes := #[t, t] })
    (v u : Value) (hs : a.eval s = v) (hx : a.eval x = u) (hr : ∃ v' w', (Builtin.append_ #[t, t] o.type #[v, u]).run Try.prog w = .ok v' w' ∧ R v' w')
    (h : ∀ v' w', R v' w' → wpListIn F n Try.prog ops Q rest (a.put o.dst v') w') :
    wpListIn F n Try.prog ops Q (o :: rest) a w := by
  refine wpListIn_plain hgd fun K hK => ?_
  obtain ⟨v', w', hrun, h2⟩ := hr
  unfold Oper.wpIn
  refine ⟨?_, ?_⟩
  · simp [Oper.about, ho, resolve, Target.leads, Sem.run_pure]
  · rw [Oper.semAt_plain F _ _ (by rw [ho]; intro c hc'; cases hc')]
    simp [execOp, ho, resolve, invoke, builtin, hs, hx, hrun, Result.andThen]
    exact hK _ _ (h v' w' h2)

end Go.Proofs.Ytbppjbdcgcmjiaa
