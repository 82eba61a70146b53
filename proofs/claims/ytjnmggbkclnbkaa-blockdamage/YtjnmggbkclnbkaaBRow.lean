/-
  Rows of slices of bytes: those that came in, and those of the call's own. A lemma file: no statement of the seat is proved here.
-/
import Derived.Deep.Slices
import Derived.ProofKit
import Derived.OpenShut
import Derived.Test.YtjnmggbkclnbkaaKept
namespace Go.Proofs.Ytjnmggbkclnbkaa
open Go.RowKit Go.Maps Go.ChangeShapes Go.WideShapes Go.ChangeAt

/-- The slice v holds slices of these bytes. -/
def IsBB (w : World) (v : Value) (bss : List (List Int)) : Prop :=
  ∃ (a : Option Addr) (cap : Nat), v = .slice a bss.length cap ∧ bss.length ≤ cap ∧ (a = none → bss = [] ∧ cap = 0) ∧
    ∀ x, a = some x → ∀ j, j < bss.length → ∃ u, w.cell? (x.add j) = some u ∧ IsB w u (bss[j]?.getD [])

theorem IsBB.nil (w : World) : IsBB w (.slice none 0 0) [] := ⟨none, 0, rfl, Nat.le_refl _, fun _ => ⟨rfl, rfl⟩, by simp⟩

theorem IsBB.below {w w' : World} {v : Value} {bss : List (List Int)} (h : IsBB w v bss) (hb : Below w.heap.size w w') : IsBB w' v bss := by
  obtain ⟨a, cap, rfl, h1, h2, h3⟩ := h
  refine ⟨a, cap, rfl, h1, h2, fun x hx j hj => ?_⟩
  obtain ⟨u, hu, hi⟩ := h3 x hx j hj
  exact ⟨u, (World.cell?_of_block (w := w) (hb.block _ (World.block_lt_of_cell? w _ hu))).trans hu, hi.below hb⟩

theorem IsBB.form {w : World} {v : Value} {bss : List (List Int)} (h : IsBB w v bss) : ∃ a cap, v = .slice a bss.length cap ∧ bss.length ≤ cap := by
  obtain ⟨a, cap, rfl, h1, _⟩ := h
  exact ⟨a, cap, rfl, h1⟩

/-- A slice that is not empty leads to memory. -/
theorem IsBB.opened {w : World} {v : Value} {bss : List (List Int)} (h : IsBB w v bss) (h0 : 0 < bss.length) :
    ∃ b off cap, v = .slice (some ⟨b, off, none⟩) bss.length cap ∧ bss.length ≤ cap ∧ ∀ j, j < bss.length → ∃ a c, w.cell? ⟨b, off + j, none⟩ = some (.slice a (bss[j]?.getD []).length c) ∧ IsB w (.slice a (bss[j]?.getD []).length c) (bss[j]?.getD []) := by
  obtain ⟨a, cap, rfl, h1, h2, h3⟩ := h
  cases a with
  | none => simp [(h2 rfl).1] at h0
  | some x =>
    obtain ⟨b, off, spot⟩ := x
    obtain ⟨u, hc, _⟩ := h3 _ rfl 0 h0
    have hspot : spot = none := by simpa [Addr.add] using World.cell?_spot hc
    subst hspot
    refine ⟨b, off, cap, rfl, h1, fun j hj => ?_⟩
    obtain ⟨u, hu, hi⟩ := h3 _ rfl j hj
    rw [Addr.add_lit] at hu
    obtain ⟨a, c, rfl, _⟩ := hi.form
    exact ⟨a, c, hu, hi⟩

theorem open_byterows {H : Type} {enc : TypeId × Value → H} {W : World} {held : Bool} {fuel : Nat} {cs : List Value} {x : DataW H × List MemPlace} (h : DataW.trod enc Try.prog W 0 (fun _ => true) held fuel 22 cs = some x) :
    (cs = [.slice none 0 0]) ∨ ∃ (a : Addr) (len cap : Nat) (bss : List (List Int)), cs = [.slice (some a) len cap] ∧ bss.length = len ∧ len ≤ cap ∧ cap ≤ maxLen ∧ IsBB W (.slice (some a) len cap) bss := by
  rcases Go.Deep.open_slice1 Try.underlying22 (by kernel_rfl) h with ⟨h0, _⟩ | ⟨a, len, cap, m, n, V, D, Pl, rfl, hb, hl, hm, hmm, rfl, hx⟩
  · exact .inl h0
  · right
    simp only [if_true] at hmm
    subst hmm
    have key : ∀ i, i < len → ∃ b, IsB W (V i) b := fun i hi => by
      rcases open_ints Try.underlying25 Try.underlying5 (by kernel_rfl) (hx i (by omega)).2 with ⟨hcs, _⟩ | ⟨y, l, c, zs, hcs, _, hl2, hm2, hz, _, hcell, hwz⟩
      · simp only [List.cons.injEq, and_true] at hcs
        rw [hcs]
        exact ⟨[], IsB.nil W⟩
      · simp only [List.cons.injEq, and_true] at hcs
        rw [hcs]
        simp only [if_true] at hz
        have e : (zs.take l).length = l := by simp; omega
        refine ⟨zs.take l, some y, c, by rw [e], by rw [e]; exact hl2, by simp, fun q hq j hj => ?_, fun z hz => bounds_u8 (hwz z (List.mem_of_mem_take hz))⟩
        simp only [Option.some.injEq] at hq
        subst hq
        rw [e] at hj
        rw [hcell j (by omega), List.getElem?_take_of_lt hj]
        rfl
    obtain ⟨f, hf⟩ : ∃ f : Nat → List Int, ∀ i, i < len → IsB W (V i) (f i) := ⟨fun i => if hi : i < len then Classical.choose (key i hi) else [], fun i hi => by simp only [hi, dif_pos]; exact Classical.choose_spec (key i hi)⟩
    refine ⟨a, len, m, (List.range len).map f, rfl, by simp, hl, hm, some a, m, by simp, by simp; exact hl, by simp, fun q hq j hj => ?_⟩
    simp only [Option.some.injEq] at hq
    subst hq
    simp at hj
    refine ⟨V j, (hx j (by omega)).1, ?_⟩
    simp [hj]
    exact hf j hj

/-! ### Rows of the call's own -/

theorem Try.infoBytes : (Try.prog.info? 25).map (fun i => (i.zero, i.size, i.bytes)) = some (some (.slice none 0 0), 1, 24) := by kernel_rfl

/-- The slice v, nil or a row of its own, holds slices of these bytes. -/
def RowT (w : World) (v : Value) (bss : List (List Int)) : Prop :=
  ∃ us : List Value, w.ownsRow 0 25 1 v us.length us ∧ us.length = bss.length ∧ ∀ (j : Nat) u, us[j]? = some u → IsB w u (bss[j]?.getD []) ∧ (bss[j]?.getD [] ≠ [] → ∀ x ∈ own u, x ∉ own v)

theorem RowT.nil (w : World) : RowT w (.slice none 0 0) [] := ⟨[], World.ownsRow_nil w 0 _ _, rfl, by simp⟩

/-- A new row of no slices. -/
theorem RowT.empty (w : World) : RowT (w.alloc (.cells #[] 25)) (.slice (some ⟨w.heap.size, 0, none⟩) 0 0) [] :=
  ⟨[], World.ownsRow_made w #[] 0 (Nat.zero_le _) (by unfold maxLen; omega) rfl, rfl, by simp⟩

theorem RowT.form {w : World} {v : Value} {bss : List (List Int)} (h : RowT w v bss) : (v = .slice none 0 0 ∧ bss = []) ∨ ∃ g cap, v = .slice (some ⟨g, 0, none⟩) bss.length cap := by
  obtain ⟨us, ⟨h1, h2⟩, hl, h3⟩ := h
  rcases h2 with ⟨rfl, h⟩ | ⟨g, cap, cur, rfl, hb, hgg, rest⟩
  · exact .inl ⟨rfl, List.eq_nil_of_length_eq_zero (by omega)⟩
  · exact .inr ⟨g, cap, by rw [hl]⟩

theorem RowT.slice {w : World} {v : Value} {bss : List (List Int)} (h : RowT w v bss) : ∃ a cap, v = .slice a bss.length cap := by
  rcases h.form with ⟨rfl, rfl⟩ | ⟨g, cap, rfl⟩
  · exact ⟨_, _, rfl⟩
  · exact ⟨_, _, rfl⟩

theorem RowT.lt {w : World} {v : Value} {bss : List (List Int)} (h : RowT w v bss) : ∀ x ∈ own v, x < w.heap.size := by
  obtain ⟨us, h1, _⟩ := h
  exact fun x hx => (h1.lt x (by simpa [own] using hx)).2

theorem RowT.isBB {w : World} {v : Value} {bss : List (List Int)} (h : RowT w v bss) : IsBB w v bss := by
  obtain ⟨us, hr, hl, h3⟩ := h
  rcases hr.2 with ⟨rfl, h⟩ | ⟨g, cap, cur, rfl, hb, hgg, hn, hm, hs, ht⟩
  · obtain rfl : bss = [] := List.eq_nil_of_length_eq_zero (by omega)
    exact IsBB.nil w
  · refine ⟨some ⟨g, 0, none⟩, cap, by rw [hl], by omega, by simp, fun x hx j hj => ?_⟩
    simp only [Option.some.injEq] at hx
    subst hx
    have hju : j < us.length := by omega
    have hu := List.getElem?_eq_getElem hju
    exact ⟨us[j], World.ownsRow.cells hr (g := g) rfl j _ hu, (h3 j _ hu).1⟩

theorem RowT.kept {fp : List Nat} {w w' : World} {v : Value} {bss : List (List Int)} (h : RowT w v bss) (hk : Kept fp w w') (hv : ∀ x ∈ own v, x ∉ fp) (ht : ∀ x < w.heap.size, x ∈ fp → x ∈ own v) : RowT w' v bss := by
  obtain ⟨us, hr, hl, h3⟩ := h
  refine ⟨us, ownsRow_kept hr hk hv, hl, fun j u hu => ⟨(h3 j u hu).1.kept hk fun hne x hx hxf => ?_, (h3 j u hu).2⟩⟩
  exact (h3 j u hu).2 hne x hx (ht x ((h3 j u hu).1.lt hne x hx) hxf)

theorem RowT.below {w w' : World} {v : Value} {bss : List (List Int)} (h : RowT w v bss) (hb : Below w.heap.size w w') : RowT w' v bss :=
  h.kept (Kept.of_below (fp := []) hb) (by simp) (by simp)

/-- 'append(row, text)': the text's slice has just been laid in a new block. -/
theorem RowT.push {w : World} {v u : Value} {bss : List (List Int)} {bs : List Int} (h : RowT w v bss) (hu : IsB w u bs) (hd : bs ≠ [] → ∀ x ∈ own u, x ∉ own v) (hlen : bss.length + 1 ≤ 1099511627776) (ty : TypeId) :
    ∃ v' w', (Builtin.append_ #[22, 22] ty #[v, .slice (some ⟨w.heap.size, 0, none⟩) 1 1]).run Try.prog (w.alloc (.cells #[u] 25)) = .ok v' w' ∧ RowT w' v' (bss ++ [bs]) ∧ Kept (own v) w w' ∧ Newly w (own v) (own v') := by
  obtain ⟨i0, hi, hz0, hz1, hz2⟩ := info_parts Try.infoBytes
  have hvl := h.lt
  have h' := h.below ((Below.refl _ w).alloc (Nat.le_refl _) (.cells #[u] 25))
  have hu' := hu.below ((Below.refl _ w).alloc (Nat.le_refl _) (.cells #[u] 25))
  obtain ⟨us, hr, hl, h3⟩ := h'
  obtain ⟨ua, uc, rfl, _⟩ := hu.form
  obtain ⟨v', w', hrun, ho, hg, hn, hat⟩ := run_append_own_at (P := Try.prog) (w.alloc (.cells #[.slice ua bs.length uc] 25)) 0 22 ty 25 i0 (.slice none 0 0) 1 24 Try.underlying22 hi hz0 hz1 hz2 rfl (by decide) v us.length _ hr ⟨w.heap.size, 0, none⟩ 1 1 [.slice ua bs.length uc] rfl (cell_one_new _ _ _) (by simp [Value.oneCell']) (by unfold maxLen; omega) (by omega) (Nat.zero_le _)
  have hk : Kept (own v) (w.alloc (.cells #[.slice ua bs.length uc] 25)) w' := Kept.of_grown hg
  have hnew : Newly w (own v) (own v') := by
    intro y hy
    rcases hat with e | e
    · exact .inl (by simpa [own, e] using hy)
    · simp [own, e] at hy
      subst hy
      exact .inr (by omega)
  have hkk : Kept (own v) w w' := ((Kept.refl (own v) w).alloc _).trans hk (Newly.refl _ _)
  refine ⟨v', w', hrun, ⟨us ++ [.slice ua bs.length uc], by simpa using ho, by simp [hl], fun j y hy => ?_⟩, hkk, hnew⟩
  have old : ∀ (cs : List Int) (y : Value), IsB w y cs → (cs ≠ [] → ∀ x ∈ own y, x ∉ own v) → IsB w' y cs ∧ (cs ≠ [] → ∀ x ∈ own y, x ∉ own v') := fun cs y hy hd => ⟨hy.kept hkk hd, fun hne x hx hx' => by
    rcases hnew x hx' with h1 | h1
    · exact hd hne x hx h1
    · have := hy.lt hne x hx
      omega⟩
  by_cases hj : j < us.length
  · rw [List.getElem?_append_left hj] at hy
    rw [List.getElem?_append_left (by omega)]
    have hy1 := (h3 j y hy)
    refine ⟨hy1.1.kept hk hy1.2, fun hne x hx hx' => ?_⟩
    rcases hat with e | e
    · exact hy1.2 hne x hx (by simpa [own, e] using hx')
    · simp [own, e] at hx'
      have := hy1.1.lt hne x hx
      simp at this
      omega
  · have hj2 : j = us.length := by
      have := (List.getElem?_eq_some_iff.1 hy).1
      simp at this
      omega
    subst hj2
    simp at hy
    subst hy
    rw [List.getElem?_append_right (by omega), hl, Nat.sub_self]
    exact old bs _ hu (fun hne => hd hne)

/-- A slot of the row is written. -/
theorem RowT.stored {w : World} {g cap : Nat} {bss : List (List Int)} (h : RowT w (.slice (some ⟨g, 0, none⟩) bss.length cap) bss) (j : Nat) (hj : j < bss.length) (u : Value) (bs : List Int) (hu : IsB w u bs) (hd : bs ≠ [] → ∀ x ∈ own u, x ≠ g) :
    RowT (w.setCell ⟨g, j, none⟩ u) (.slice (some ⟨g, 0, none⟩) bss.length cap) (bss.set j bs) := by
  obtain ⟨us, hr, hl, h3⟩ := h
  have hk : Kept [g] w (w.setCell ⟨g, j, none⟩ u) := (Kept.refl _ _).setCell (.inl (by simp)) _
  rw [hl] at hr
  have hs := (World.ownsRow.stored hr j u).1
  refine ⟨us.set j u, by simpa [hl] using hs, by simp [hl], fun i y hy => ?_⟩
  have hi : i < us.length := by simpa using (List.getElem?_eq_some_iff.1 hy).1
  by_cases e : i = j
  · subst e
    rw [List.getElem?_set_self hi] at hy
    simp only [Option.some.injEq] at hy
    subst hy
    rw [List.getElem?_set_self (by omega)]
    exact ⟨hu.kept hk (fun hne x hx => by simpa using hd hne x hx), fun hne x hx => by simpa [Value.ownBlock] using Ne.symm (hd hne x hx)⟩
  · rw [List.getElem?_set_ne (by omega)] at hy
    rw [List.getElem?_set_ne (by omega)]
    have h4 := h3 i y hy
    exact ⟨h4.1.kept hk (fun hne x hx => by simpa [own, Value.ownBlock, eq_comm] using h4.2 hne x hx), h4.2⟩

section
variable {ops : Array Oper} {rest : List Oper} {o : Oper} {a : Act} {Q : Exit → Act → World → Prop}

theorem wp_pushT (w : World) (hgd : o.guard = none) (s x : Operand) (ho : o.op = .call { callee := .builtin .append, args := #[s, x], argTypes := #[22, 22] })
    (v u : Value) (bss : List (List Int)) (bs : List Int) (hs : a.eval s = v) (hrow : RowT w v bss) (hx : a.eval x = .slice (some ⟨w.heap.size, 0, none⟩) 1 1) (hu : IsB w u bs) (hd : bs ≠ [] → ∀ x ∈ own u, x ∉ own v) (hlen : bss.length + 1 ≤ 1099511627776)
    (h : ∀ v' w', RowT w' v' (bss ++ [bs]) → Kept (own v) w w' → Newly w (own v) (own v') → wpList Try.prog ops Q rest (a.put o.dst v') w') :
    wpList Try.prog ops Q (o :: rest) a (w.alloc (.cells #[u] 25)) := by
  refine wpList_plain hgd fun K hK => ?_
  obtain ⟨v', w', hr, h2, h3, h4⟩ := hrow.push hu hd hlen o.type
  unfold Oper.wp execOp
  simp only [ho, resolve, invoke, builtin, Sem.run_bind, Sem.run_pure, Result.andThen_ok, List.map_toArray, List.map_cons, List.map_nil, hs, hx, hr]
  exact hK _ _ (h v' w' h2 h3 h4)

/-- 'append(row, b...)', row nil or of its own, b whatever: at the operation. -/
theorem wp_appendR (w : World) (hgd : o.guard = none) (s x : Operand) (ho : o.op = .call { callee := .builtin .append, args := #[s, x], argTypes := #[25, 25] })
    (v u : Value) (bs cs : List Int) (hs : a.eval s = v) (hrow : RowB w v bs) (hx : a.eval x = u) (hu : IsB w u cs) (hlen : bs.length + cs.length ≤ 1099511627776)
    (h : ∀ v' w', RowB w' v' (bs ++ cs) → Kept (own v) w w' → Newly w (own v) (own v') → (v' = .slice none 0 0 → v = .slice none 0 0 ∧ cs = []) → wpList Try.prog ops Q rest (a.put o.dst v') w') :
    wpList Try.prog ops Q (o :: rest) a w := by
  refine wpList_plain hgd fun K hK => ?_
  obtain ⟨v', w', hr, h2, h3, h4, h5⟩ := hrow.append hu hlen o.type
  unfold Oper.wp execOp
  simp only [ho, resolve, invoke, builtin, Sem.run_bind, Sem.run_pure, Result.andThen_ok, List.map_toArray, List.map_cons, List.map_nil, hs, hx, hr]
  exact hK _ _ (h v' w' h2 h3 h4 h5)
end

end Go.Proofs.Ytjnmggbkclnbkaa
