/-
  Rows of slices of records: those that came in, and those of the call's own. A lemma file: no statement of the seat is proved here.
-/
import Derived.Deep.Slices
import Derived.Test.YtbppjbdcgcmjiaaQBase
namespace Go.Proofs.Ytbppjbdcgcmjiaa
open Go.RowKit Go.Maps Go.ChangeShapes Go.WideShapes Go.ChangeAt

theorem IsR.nil (w : World) : IsR w (.slice none 0 0) [] := ⟨none, 0, rfl, Nat.le_refl _, fun _ => ⟨rfl, rfl⟩, by simp, by simp⟩
theorem IsR.lt {w : World} {v : Value} {l : List Rc} (h : IsR w v l) (hne : l ≠ []) : ∀ x ∈ own v, x < w.heap.size := h.low (List.length_pos_iff.2 hne)
theorem IsR.keptN {fp : List Nat} {w w' : World} {v : Value} {l : List Rc} (h : IsR w v l) (hk : Kept fp w w') (hf : l ≠ [] → ∀ x ∈ own v, x ∉ fp) : IsR w' v l := by
  obtain ⟨a, cap, rfl, h1, h2, h3, h4⟩ := h
  refine ⟨a, cap, rfl, h1, h2, fun x hx j u hu => ?_, h4⟩
  subst hx
  have hne : l ≠ [] := fun e => by subst e; simp [flatR] at hu
  refine hk.cell (h3 x rfl j u hu) ?_
  have hb : (x.add j).block = x.block := by unfold Addr.add; split <;> rfl
  rw [hb]
  exact hf hne x.block (by simp [own, Value.ownBlock])

/-- The slice v holds slices of these bytes. -/
def IsRR (w : World) (v : Value) (bss : List (List Rc)) : Prop :=
  ∃ (a : Option Addr) (cap : Nat), v = .slice a bss.length cap ∧ bss.length ≤ cap ∧ (a = none → bss = [] ∧ cap = 0) ∧
    ∀ x, a = some x → ∀ j, j < bss.length → ∃ u, w.cell? (x.add j) = some u ∧ IsR w u (bss[j]?.getD [])

theorem IsRR.nil (w : World) : IsRR w (.slice none 0 0) [] := ⟨none, 0, rfl, Nat.le_refl _, fun _ => ⟨rfl, rfl⟩, by simp⟩

theorem IsRR.below {w w' : World} {v : Value} {bss : List (List Rc)} (h : IsRR w v bss) (hb : Below w.heap.size w w') : IsRR w' v bss := by
  obtain ⟨a, cap, rfl, h1, h2, h3⟩ := h
  refine ⟨a, cap, rfl, h1, h2, fun x hx j hj => ?_⟩
  obtain ⟨u, hu, hi⟩ := h3 x hx j hj
  exact ⟨u, (World.cell?_of_block (w := w) (hb.block _ (World.block_lt_of_cell? w _ hu))).trans hu, hi.below hb⟩

theorem IsRR.form {w : World} {v : Value} {bss : List (List Rc)} (h : IsRR w v bss) : ∃ a cap, v = .slice a bss.length cap ∧ bss.length ≤ cap := by
  obtain ⟨a, cap, rfl, h1, _⟩ := h
  exact ⟨a, cap, rfl, h1⟩

/-- A slice that is not empty leads to memory. -/
theorem IsRR.opened {w : World} {v : Value} {bss : List (List Rc)} (h : IsRR w v bss) (h0 : 0 < bss.length) :
    ∃ b off cap, v = .slice (some ⟨b, off, none⟩) bss.length cap ∧ bss.length ≤ cap ∧ ∀ j, j < bss.length → ∃ a c, w.cell? ⟨b, off + j, none⟩ = some (.slice a (bss[j]?.getD []).length c) ∧ IsR w (.slice a (bss[j]?.getD []).length c) (bss[j]?.getD []) := by
  obtain ⟨a, cap, rfl, h1, h2, h3⟩ := h
  cases a with
  | none => simp [(h2 rfl).1] at h0
  | some x =>
    obtain ⟨b, off, spot⟩ := x
    obtain ⟨u, hc, _⟩ := h3 _ rfl 0 h0
    have hspot : spot = none := by simpa [Addr.add] using World.cell?_spot hc
    subst hspot
    refine ⟨b, off, cap, rfl, h1, fun j hj => ?_⟩
    obtain ⟨u, hu, hi⟩ := h3 _ rfl j hj
    rw [Addr.add_lit] at hu
    obtain ⟨a, c, rfl, _⟩ := hi.form
    exact ⟨a, c, hu, hi⟩

theorem Try.infoRecs : (Try.prog.info? 22).map (fun i => (i.zero, i.size, i.bytes)) = some (some (.slice none 0 0), 1, 24) := by kernel_rfl

/-- The slice v, nil or a row of its own, holds slices of these bytes. -/
def RowT (w : World) (v : Value) (bss : List (List Rc)) : Prop :=
  ∃ us : List Value, w.ownsRow 0 22 1 v us.length us ∧ us.length = bss.length ∧ ∀ (j : Nat) u, us[j]? = some u → IsR w u (bss[j]?.getD []) ∧ (bss[j]?.getD [] ≠ [] → ∀ x ∈ own u, x ∉ own v)

theorem RowT.nil (w : World) : RowT w (.slice none 0 0) [] := ⟨[], World.ownsRow_nil w 0 _ _, rfl, by simp⟩

/-- A new row of no slices. -/
theorem RowT.empty (w : World) : RowT (w.alloc (.cells #[] 22)) (.slice (some ⟨w.heap.size, 0, none⟩) 0 0) [] :=
  ⟨[], World.ownsRow_made w #[] 0 (Nat.zero_le _) (by unfold maxLen; omega) rfl, rfl, by simp⟩

theorem RowT.form {w : World} {v : Value} {bss : List (List Rc)} (h : RowT w v bss) : (v = .slice none 0 0 ∧ bss = []) ∨ ∃ g cap, v = .slice (some ⟨g, 0, none⟩) bss.length cap := by
  obtain ⟨us, ⟨h1, h2⟩, hl, h3⟩ := h
  rcases h2 with ⟨rfl, h⟩ | ⟨g, cap, cur, rfl, hb, hgg, rest⟩
  · exact .inl ⟨rfl, List.eq_nil_of_length_eq_zero (by omega)⟩
  · exact .inr ⟨g, cap, by rw [hl]⟩

theorem RowT.slice {w : World} {v : Value} {bss : List (List Rc)} (h : RowT w v bss) : ∃ a cap, v = .slice a bss.length cap := by
  rcases h.form with ⟨rfl, rfl⟩ | ⟨g, cap, rfl⟩
  · exact ⟨_, _, rfl⟩
  · exact ⟨_, _, rfl⟩

theorem RowT.lt {w : World} {v : Value} {bss : List (List Rc)} (h : RowT w v bss) : ∀ x ∈ own v, x < w.heap.size := by
  obtain ⟨us, h1, _⟩ := h
  exact fun x hx => (h1.lt x (by simpa [own] using hx)).2

theorem RowT.isBB {w : World} {v : Value} {bss : List (List Rc)} (h : RowT w v bss) : IsRR w v bss := by
  obtain ⟨us, hr, hl, h3⟩ := h
  rcases hr.2 with ⟨rfl, h⟩ | ⟨g, cap, cur, rfl, hb, hgg, hn, hm, hs, ht⟩
  · obtain rfl : bss = [] := List.eq_nil_of_length_eq_zero (by omega)
    exact IsRR.nil w
  · refine ⟨some ⟨g, 0, none⟩, cap, by rw [hl], by omega, by simp, fun x hx j hj => ?_⟩
    simp only [Option.some.injEq] at hx
    subst hx
    have hju : j < us.length := by omega
    have hu := List.getElem?_eq_getElem hju
    exact ⟨us[j], World.ownsRow.cells hr (g := g) rfl j _ hu, (h3 j _ hu).1⟩

theorem RowT.kept {fp : List Nat} {w w' : World} {v : Value} {bss : List (List Rc)} (h : RowT w v bss) (hk : Kept fp w w') (hv : ∀ x ∈ own v, x ∉ fp) (ht : ∀ x < w.heap.size, x ∈ fp → x ∈ own v) : RowT w' v bss := by
  obtain ⟨us, hr, hl, h3⟩ := h
  refine ⟨us, ownsRow_kept hr hk hv, hl, fun j u hu => ⟨(h3 j u hu).1.keptN hk fun hne x hx hxf => ?_, (h3 j u hu).2⟩⟩
  exact (h3 j u hu).2 hne x hx (ht x ((h3 j u hu).1.lt hne x hx) hxf)

theorem RowT.below {w w' : World} {v : Value} {bss : List (List Rc)} (h : RowT w v bss) (hb : Below w.heap.size w w') : RowT w' v bss :=
  h.kept (Kept.of_below (fp := []) hb) (by simp) (by simp)

/-- 'append(row, text)': the text's slice has just been laid in a new block. -/
theorem RowT.push {w : World} {v u : Value} {bss : List (List Rc)} {bs : List Rc} (h : RowT w v bss) (hu : IsR w u bs) (hd : bs ≠ [] → ∀ x ∈ own u, x ∉ own v) (hlen : bss.length + 1 ≤ 1099511627776) (ty : TypeId) :
    ∃ v' w', (Builtin.append_ #[28, 28] ty #[v, .slice (some ⟨w.heap.size, 0, none⟩) 1 1]).run Try.prog (w.alloc (.cells #[u] 22)) = .ok v' w' ∧ RowT w' v' (bss ++ [bs]) ∧ Kept (own v) w w' ∧ Newly w (own v) (own v') := by
  obtain ⟨i0, hi, hz0, hz1, hz2⟩ := info_parts Try.infoRecs
  have hvl := h.lt
  have h' := h.below ((Below.refl _ w).alloc (Nat.le_refl _) (.cells #[u] 22))
  have hu' := hu.below ((Below.refl _ w).alloc (Nat.le_refl _) (.cells #[u] 22))
  obtain ⟨us, hr, hl, h3⟩ := h'
  obtain ⟨ua, uc, rfl, _⟩ := hu.form
  obtain ⟨v', w', hrun, ho, hg, hn, hat⟩ := run_append_own_at (P := Try.prog) (w.alloc (.cells #[.slice ua bs.length uc] 22)) 0 28 ty 22 i0 (.slice none 0 0) 1 24 Try.underlying28 hi hz0 hz1 hz2 rfl (by decide) v us.length _ hr ⟨w.heap.size, 0, none⟩ 1 1 [.slice ua bs.length uc] rfl (cell_one_new _ _ _) (by simp [Value.oneCell']) (by unfold maxLen; omega) (by omega) (Nat.zero_le _)
  have hk : Kept (own v) (w.alloc (.cells #[.slice ua bs.length uc] 22)) w' := Kept.of_grown hg
  have hnew : Newly w (own v) (own v') := by
    intro y hy
    rcases hat with e | e
    · exact .inl (by simpa [own, e] using hy)
    · simp [own, e] at hy
      subst hy
      exact .inr (by omega)
  have hkk : Kept (own v) w w' := ((Kept.refl (own v) w).alloc _).trans hk (Newly.refl _ _)
  refine ⟨v', w', hrun, ⟨us ++ [.slice ua bs.length uc], by simpa using ho, by simp [hl], fun j y hy => ?_⟩, hkk, hnew⟩
  have old : ∀ (cs : List Rc) (y : Value), IsR w y cs → (cs ≠ [] → ∀ x ∈ own y, x ∉ own v) → IsR w' y cs ∧ (cs ≠ [] → ∀ x ∈ own y, x ∉ own v') := fun cs y hy hd => ⟨hy.keptN hkk hd, fun hne x hx hx' => by
    rcases hnew x hx' with h1 | h1
    · exact hd hne x hx h1
    · have := hy.lt hne x hx
      omega⟩
  by_cases hj : j < us.length
  · rw [List.getElem?_append_left hj] at hy
    rw [List.getElem?_append_left (by omega)]
    have hy1 := (h3 j y hy)
    refine ⟨hy1.1.keptN hk hy1.2, fun hne x hx hx' => ?_⟩
    rcases hat with e | e
    · exact hy1.2 hne x hx (by simpa [own, e] using hx')
    · simp [own, e] at hx'
      have := hy1.1.lt hne x hx
      simp at this
      omega
  · have hj2 : j = us.length := by
      have := (List.getElem?_eq_some_iff.1 hy).1
      simp at this
      omega
    subst hj2
    simp at hy
    subst hy
    rw [List.getElem?_append_right (by omega), hl, Nat.sub_self]
    exact old bs _ hu (fun hne => hd hne)

/-- A slot of the row is written. -/
theorem RowT.stored {w : World} {g cap : Nat} {bss : List (List Rc)} (h : RowT w (.slice (some ⟨g, 0, none⟩) bss.length cap) bss) (j : Nat) (hj : j < bss.length) (u : Value) (bs : List Rc) (hu : IsR w u bs) (hd : bs ≠ [] → ∀ x ∈ own u, x ≠ g) :
    RowT (w.setCell ⟨g, j, none⟩ u) (.slice (some ⟨g, 0, none⟩) bss.length cap) (bss.set j bs) := by
  obtain ⟨us, hr, hl, h3⟩ := h
  have hk : Kept [g] w (w.setCell ⟨g, j, none⟩ u) := (Kept.refl _ _).setCell (.inl (by simp)) _
  rw [hl] at hr
  have hs := (World.ownsRow.stored hr j u).1
  refine ⟨us.set j u, by simpa [hl] using hs, by simp [hl], fun i y hy => ?_⟩
  have hi : i < us.length := by simpa using (List.getElem?_eq_some_iff.1 hy).1
  by_cases e : i = j
  · subst e
    rw [List.getElem?_set_self hi] at hy
    simp only [Option.some.injEq] at hy
    subst hy
    rw [List.getElem?_set_self (by omega)]
    exact ⟨hu.keptN hk (fun hne x hx => by simpa using hd hne x hx), fun hne x hx => by simpa [Value.ownBlock] using Ne.symm (hd hne x hx)⟩
  · rw [List.getElem?_set_ne (by omega)] at hy
    rw [List.getElem?_set_ne (by omega)]
    have h4 := h3 i y hy
    exact ⟨h4.1.keptN hk (fun hne x hx => by simpa [own, Value.ownBlock, eq_comm] using h4.2 hne x hx), h4.2⟩

section
variable {ops : Array Oper} {rest : List Oper} {o : Oper} {a : Act} {Q : Exit → Act → World → Prop}

theorem wp_pushT (w : World) (hgd : o.guard = none) (s x : Operand) (ho : o.op = .call { callee := .builtin .append, args := #[s, x], argTypes := #[28, 28] })
    (v u : Value) (bss : List (List Rc)) (bs : List Rc) (hs : a.eval s = v) (hrow : RowT w v bss) (hx : a.eval x = .slice (some ⟨w.heap.size, 0, none⟩) 1 1) (hu : IsR w u bs) (hd : bs ≠ [] → ∀ x ∈ own u, x ∉ own v) (hlen : bss.length + 1 ≤ 1099511627776)
    (h : ∀ v' w', RowT w' v' (bss ++ [bs]) → Kept (own v) w w' → Newly w (own v) (own v') → wpList Try.prog ops Q rest (a.put o.dst v') w') :
    wpList Try.prog ops Q (o :: rest) a (w.alloc (.cells #[u] 22)) := by
  refine wpList_plain hgd fun K hK => ?_
  obtain ⟨v', w', hr, h2, h3, h4⟩ := hrow.push hu hd hlen o.type
  unfold Oper.wp execOp
  simp only [ho, resolve, invoke, builtin, Sem.run_bind, Sem.run_pure, Result.andThen_ok, List.map_toArray, List.map_cons, List.map_nil, hs, hx, hr]
  exact hK _ _ (h v' w' h2 h3 h4)
end

theorem IsRR.values {w : World} {u : Value} {css : List (List Rc)} (h : IsRR w u css) :
    (u = .slice none 0 0 ∧ css = []) ∨ ∃ (a : Addr) (cap : Nat) (us : List Value), u = .slice (some a) css.length cap ∧ us.length = css.length ∧ (∀ (j : Nat) y, us[j]? = some y → w.cell? (a.add j) = some y ∧ IsR w y (css[j]?.getD [])) := by
  obtain ⟨a, cap, rfl, h1, h2, h3⟩ := h
  cases a with
  | none =>
    obtain ⟨rfl, rfl⟩ := h2 rfl
    exact .inl ⟨rfl, rfl⟩
  | some a =>
    right
    have key := h3 a rfl
    obtain ⟨f, hf⟩ : ∃ f : Nat → Value, ∀ i, i < css.length → w.cell? (a.add i) = some (f i) ∧ IsR w (f i) (css[i]?.getD []) := ⟨fun i => if hi : i < css.length then Classical.choose (key i hi) else undef, fun i hi => by simp only [hi, dif_pos]; exact Classical.choose_spec (key i hi)⟩
    refine ⟨a, cap, (List.range css.length).map f, rfl, by simp, fun j y hy => ?_⟩
    have hj : j < css.length := by simpa using (List.getElem?_eq_some_iff.1 hy).1
    simp [hj] at hy
    subst hy
    exact hf j hj

/-- 'append(row, texts...)': the texts were there when the row was made. -/
theorem RowT.appendAll {w0 w : World} {v u : Value} {bss css : List (List Rc)} (h : RowT w v bss) (hu : IsRR w0 u css) (hb : Below w0.heap.size w0 w) (hv : ∀ x ∈ own v, w0.heap.size ≤ x) (hlen : bss.length + css.length ≤ 1099511627776) (ty : TypeId) :
    ∃ v' w', (Builtin.append_ #[28, 28] ty #[v, u]).run Try.prog w = .ok v' w' ∧ RowT w' v' (bss ++ css) ∧ Kept (own v) w w' ∧ Newly w (own v) (own v') := by
  obtain ⟨i0, hi, hz0, hz1, hz2⟩ := info_parts Try.infoRecs
  rcases hu.values with ⟨rfl, rfl⟩ | ⟨a, cap, news, rfl, hnl, hn⟩
  · obtain ⟨us, hr, hl, h3⟩ := h
    have hrun := run_append_owned_none (P := Try.prog) (w := w) 0 28 ty 22 i0 1 Try.underlying28 hi _ _ _ hr
    exact ⟨v, w, hrun, ⟨us, hr, by simpa using hl, by simpa using h3⟩, Kept.refl _ _, Newly.refl _ _⟩
  · obtain ⟨us, hr, hl, h3⟩ := h
    have cellw : ∀ (j : Nat) y, news[j]? = some y → w.cell? (a.add j) = some y := fun j y hy => (World.cell?_of_block (w := w0) (hb.block _ (World.block_lt_of_cell? w0 _ (hn j y hy).1))).trans (hn j y hy).1
    obtain ⟨v', w', hrun, ho, hg, hnil, hat⟩ := run_append_own_at (P := Try.prog) w 0 28 ty 22 i0 (.slice none 0 0) 1 24 Try.underlying28 hi hz0 hz1 hz2 rfl (by decide) v us.length _ hr a css.length cap news (by simpa using hnl) cellw (fun y hy => by
      obtain ⟨j, hj⟩ := List.getElem?_of_mem hy
      obtain ⟨a', c', rfl, _⟩ := (hn j y hj).2.form
      rfl) (by unfold maxLen; omega) (by omega) (Nat.zero_le _)
    have hk : Kept (own v) w w' := Kept.of_grown hg
    have hnew : Newly w (own v) (own v') := by
      intro y hy
      rcases hat with e | e
      · exact .inl (by simpa [own, e] using hy)
      · simp [own, e] at hy
        subst hy
        exact .inr (Nat.le_refl _)
    refine ⟨v', w', hrun, ⟨us ++ news, by simpa [hnl] using ho, by simp [hl, hnl], fun j y hy => ?_⟩, hk, hnew⟩
    have old : ∀ (cs : List Rc) (y : Value), IsR w y cs → (cs ≠ [] → ∀ x ∈ own y, x ∉ own v) → IsR w' y cs ∧ (cs ≠ [] → ∀ x ∈ own y, x ∉ own v') := fun cs y hy hd => ⟨hy.keptN hk hd, fun hne x hx hx' => by
      rcases hnew x hx' with h1 | h1
      · exact hd hne x hx h1
      · have := hy.lt hne x hx
        omega⟩
    by_cases hj : j < us.length
    · rw [List.getElem?_append_left hj] at hy
      rw [List.getElem?_append_left (by omega)]
      exact old _ y (h3 j y hy).1 (h3 j y hy).2
    · rw [List.getElem?_append_right (by omega)] at hy
      rw [List.getElem?_append_right (by omega), ← hl]
      have h4 := (hn _ y hy).2
      refine old _ y (h4.below hb) fun hne x hx hxv => ?_
      have h5 := h4.lt hne x hx
      have h6 := hv x hxv
      omega

theorem wp_appendT {ops : Array Oper} {rest : List Oper} {o : Oper} {a : Act} {Q : Exit → Act → World → Prop} (w0 w : World) (hgd : o.guard = none) (s x : Operand) (ho : o.op = .call { callee := .builtin .append, args := #[s, x], argTypes := #[28, 28] })
    (v u : Value) (bss css : List (List Rc)) (hs : a.eval s = v) (hrow : RowT w v bss) (hx : a.eval x = u) (hu : IsRR w0 u css) (hb : Below w0.heap.size w0 w) (hv : ∀ x ∈ own v, w0.heap.size ≤ x) (hlen : bss.length + css.length ≤ 1099511627776)
    (h : ∀ v' w', RowT w' v' (bss ++ css) → Kept (own v) w w' → Newly w (own v) (own v') → wpList Try.prog ops Q rest (a.put o.dst v') w') :
    wpList Try.prog ops Q (o :: rest) a w := by
  refine wpList_plain hgd fun K hK => ?_
  obtain ⟨v', w', hr, h2, h3, h4⟩ := hrow.appendAll hu hb hv hlen o.type
  unfold Oper.wp execOp
  simp only [ho, resolve, invoke, builtin, Sem.run_bind, Sem.run_pure, Result.andThen_ok, List.map_toArray, List.map_cons, List.map_nil, hs, hx, hr]
  exact hK _ _ (h v' w' h2 h3 h4)

theorem own_len (a : Option Addr) (n m c c' : Nat) : own (.slice a n c) = own (.slice a m c') := by cases a <;> rfl

/-- A slot of the row. -/
theorem RowT.at {w : World} {g cap : Nat} {bss : List (List Rc)} (h : RowT w (.slice (some ⟨g, 0, none⟩) bss.length cap) bss) (k : Nat) (hk : k < bss.length) :
    bss.length ≤ cap ∧ w.frozen? ⟨g, k, none⟩ = false ∧ ∃ a c, w.cell? ⟨g, k, none⟩ = some (.slice a (bss[k]?.getD []).length c) ∧ IsR w (.slice a (bss[k]?.getD []).length c) (bss[k]?.getD []) ∧ (bss[k]?.getD [] ≠ [] → ∀ x ∈ own (.slice a (bss[k]?.getD []).length c), x ≠ g) := by
  obtain ⟨us, hr, hl, h3⟩ := h
  rw [hl] at hr
  have hf := World.ownsRow.frozenAt hr k
  have hc : bss.length ≤ cap := by
    rcases hr.2 with ⟨h', _⟩ | ⟨g', cap', cur, h', _, _, hn, _⟩
    · simp at h'
    · simp at h'
      omega
  have hku : k < us.length := by omega
  have hu := List.getElem?_eq_getElem hku
  have hcell := World.ownsRow.cells hr (g := g) rfl k _ hu
  rw [Addr.add_lit, Nat.zero_add] at hcell
  obtain ⟨hi, hd⟩ := h3 k _ hu
  obtain ⟨a, c, he, _⟩ := hi.form
  rw [he] at hcell hi hd
  exact ⟨hc, hf, a, c, hcell, hi, fun hne x hx => by simpa [own, Value.ownBlock, eq_comm] using hd hne x hx⟩

/-- The row's front. -/
theorem RowT.take {w : World} {a : Option Addr} {n cap : Nat} {bss : List (List Rc)} (h : RowT w (.slice a n cap) bss) (m : Nat) (hm : m ≤ bss.length) : RowT w (.slice a m cap) (bss.take m) := by
  obtain ⟨us, hr, hl, h3⟩ := h
  refine ⟨us.take m, ⟨by simp, ?_⟩, by simp; omega, fun j u hu => ?_⟩
  · have e : (us.take m).length = m := by simp; omega
    rw [e]
    rcases hr.2 with ⟨h', h0⟩ | ⟨g', cap', cur, h', hb, hg, hn, hcm, hs, ht⟩
    · simp only [Value.slice.injEq] at h'
      obtain ⟨rfl, rfl, rfl⟩ := h'
      obtain rfl : m = 0 := by omega
      exact .inl ⟨rfl, rfl⟩
    · simp only [Value.slice.injEq] at h'
      obtain ⟨rfl, rfl, rfl⟩ := h'
      refine .inr ⟨g', cap, cur, rfl, hb, hg, by omega, hcm, hs, ?_⟩
      rw [← ht, List.take_take]
      congr 1
      omega
  · have hj : j < m := by
      have := (List.getElem?_eq_some_iff.1 hu).1
      simp at this
      omega
    rw [List.getElem?_take_of_lt hj] at hu ⊢
    rw [own_len a m n cap cap]
    exact h3 j u hu

end Go.Proofs.Ytbppjbdcgcmjiaa
