/-
  Rows of slices of bytes, one behind the other. A lemma file: no statement of the seat is proved here.
-/
import Derived.Test.YtjnmggbkclnbkaaBFew
import Derived.Test.YtjnmggbkclnbkaaBRef2
namespace Go.Proofs.Ytjnmggbkclnbkaa
open Go.RowKit Go.Maps

theorem IsBB.values {w : World} {u : Value} {css : List (List Int)} (h : IsBB w u css) :
    (u = .slice none 0 0 ∧ css = []) ∨ ∃ (a : Addr) (cap : Nat) (us : List Value), u = .slice (some a) css.length cap ∧ us.length = css.length ∧ (∀ (j : Nat) y, us[j]? = some y → w.cell? (a.add j) = some y ∧ IsB w y (css[j]?.getD [])) := by
  obtain ⟨a, cap, rfl, h1, h2, h3⟩ := h
  cases a with
  | none =>
    obtain ⟨rfl, rfl⟩ := h2 rfl
    exact .inl ⟨rfl, rfl⟩
  | some a =>
    right
    have key := h3 a rfl
    obtain ⟨f, hf⟩ : ∃ f : Nat → Value, ∀ i, i < css.length → w.cell? (a.add i) = some (f i) ∧ IsB w (f i) (css[i]?.getD []) := ⟨fun i => if hi : i < css.length then Classical.choose (key i hi) else undef, fun i hi => by simp only [hi, dif_pos]; exact Classical.choose_spec (key i hi)⟩
    refine ⟨a, cap, (List.range css.length).map f, rfl, by simp, fun j y hy => ?_⟩
    have hj : j < css.length := by simpa using (List.getElem?_eq_some_iff.1 hy).1
    simp [hj] at hy
    subst hy
    exact hf j hj

/-- 'append(row, texts...)': the texts were there when the row was made. -/
theorem RowT.appendAll {w0 w : World} {v u : Value} {bss css : List (List Int)} (h : RowT w v bss) (hu : IsBB w0 u css) (hb : Below w0.heap.size w0 w) (hv : ∀ x ∈ own v, w0.heap.size ≤ x) (hlen : bss.length + css.length ≤ 1099511627776) (ty : TypeId) :
    ∃ v' w', (Builtin.append_ #[22, 22] ty #[v, u]).run Try.prog w = .ok v' w' ∧ RowT w' v' (bss ++ css) ∧ Kept (own v) w w' ∧ Newly w (own v) (own v') := by
  obtain ⟨i0, hi, hz0, hz1, hz2⟩ := info_parts Try.infoBytes
  rcases hu.values with ⟨rfl, rfl⟩ | ⟨a, cap, news, rfl, hnl, hn⟩
  · obtain ⟨us, hr, hl, h3⟩ := h
    have hrun := run_append_owned_none (P := Try.prog) (w := w) 0 22 ty 25 i0 1 Try.underlying22 hi _ _ _ hr
    exact ⟨v, w, hrun, ⟨us, hr, by simpa using hl, by simpa using h3⟩, Kept.refl _ _, Newly.refl _ _⟩
  · obtain ⟨us, hr, hl, h3⟩ := h
    have cellw : ∀ (j : Nat) y, news[j]? = some y → w.cell? (a.add j) = some y := fun j y hy => (World.cell?_of_block (w := w0) (hb.block _ (World.block_lt_of_cell? w0 _ (hn j y hy).1))).trans (hn j y hy).1
    obtain ⟨v', w', hrun, ho, hg, hnil, hat⟩ := run_append_own_at (P := Try.prog) w 0 22 ty 25 i0 (.slice none 0 0) 1 24 Try.underlying22 hi hz0 hz1 hz2 rfl (by decide) v us.length _ hr a css.length cap news (by simpa using hnl) cellw (fun y hy => by
      obtain ⟨j, hj⟩ := List.getElem?_of_mem hy
      obtain ⟨a', c', rfl, _⟩ := (hn j y hj).2.form
      rfl) (by unfold maxLen; omega) (by omega) (Nat.zero_le _)
    have hk : Kept (own v) w w' := Kept.of_grown hg
    have hnew : Newly w (own v) (own v') := by
      intro y hy
      rcases hat with e | e
      · exact .inl (by simpa [own, e] using hy)
      · simp [own, e] at hy
        subst hy
        exact .inr (Nat.le_refl _)
    refine ⟨v', w', hrun, ⟨us ++ news, by simpa [hnl] using ho, by simp [hl, hnl], fun j y hy => ?_⟩, hk, hnew⟩
    have old : ∀ (cs : List Int) (y : Value), IsB w y cs → (cs ≠ [] → ∀ x ∈ own y, x ∉ own v) → IsB w' y cs ∧ (cs ≠ [] → ∀ x ∈ own y, x ∉ own v') := fun cs y hy hd => ⟨hy.kept hk hd, fun hne x hx hx' => by
      rcases hnew x hx' with h1 | h1
      · exact hd hne x hx h1
      · have := hy.lt hne x hx
        omega⟩
    by_cases hj : j < us.length
    · rw [List.getElem?_append_left hj] at hy
      rw [List.getElem?_append_left (by omega)]
      exact old _ y (h3 j y hy).1 (h3 j y hy).2
    · rw [List.getElem?_append_right (by omega)] at hy
      rw [List.getElem?_append_right (by omega), ← hl]
      have h4 := (hn _ y hy).2
      refine old _ y (h4.below hb) fun hne x hx hxv => ?_
      have h5 := h4.lt hne x hx
      have h6 := hv x hxv
      omega

theorem wp_appendT {ops : Array Oper} {rest : List Oper} {o : Oper} {a : Act} {Q : Exit → Act → World → Prop} (w0 w : World) (hgd : o.guard = none) (s x : Operand) (ho : o.op = .call { callee := .builtin .append, args := #[s, x], argTypes := #[22, 22] })
    (v u : Value) (bss css : List (List Int)) (hs : a.eval s = v) (hrow : RowT w v bss) (hx : a.eval x = u) (hu : IsBB w0 u css) (hb : Below w0.heap.size w0 w) (hv : ∀ x ∈ own v, w0.heap.size ≤ x) (hlen : bss.length + css.length ≤ 1099511627776)
    (h : ∀ v' w', RowT w' v' (bss ++ css) → Kept (own v) w w' → Newly w (own v) (own v') → wpList Try.prog ops Q rest (a.put o.dst v') w') :
    wpList Try.prog ops Q (o :: rest) a w := by
  refine wpList_plain hgd fun K hK => ?_
  obtain ⟨v', w', hr, h2, h3, h4⟩ := hrow.appendAll hu hb hv hlen o.type
  unfold Oper.wp execOp
  simp only [ho, resolve, invoke, builtin, Sem.run_bind, Sem.run_pure, Result.andThen_ok, List.map_toArray, List.map_cons, List.map_nil, hs, hx, hr]
  exact hK _ _ (h v' w' h2 h3 h4)

theorem joinB_append (l k : List (List Int)) : joinB (l ++ k) = joinB l ++ joinB k := by simp [joinB]
theorem okL_append (l k : List (List Int)) : okL (l ++ k) = (okL l && okL k) := by simp [okL]

theorem fewT_len (l : List (List Int)) : (fewT l).length ≤ 20 := by simp [fewT]; omega
theorem fewT_each (l : List (List Int)) : ∀ t ∈ fewT l, t.length ≤ 1010 := by
  intro t ht
  simp only [fewT, List.mem_map] at ht
  obtain ⟨s, _, rfl⟩ := ht
  simp
  omega
theorem IsBB.bytes {w : World} {v : Value} {bss : List (List Int)} (h : IsBB w v bss) : ∀ t ∈ bss, ∀ z ∈ t, 0 ≤ z ∧ z ≤ 255 := by
  intro t ht
  obtain ⟨j, hj⟩ := List.getElem?_of_mem ht
  have hjl := (List.getElem?_eq_some_iff.1 hj).1
  obtain ⟨_, _, _, _, _, h4⟩ := h.opened (by omega)
  obtain ⟨_, _, _, h5⟩ := h4 j hjl
  have := h5.bytes
  rw [hj] at this
  exact this
theorem fewT_bytes (l : List (List Int)) (h : ∀ t ∈ l, ∀ z ∈ t, 0 ≤ z ∧ z ≤ 255) : ∀ t ∈ fewT l, ∀ z ∈ t, 0 ≤ z ∧ z ≤ 255 := by
  intro t ht z hz
  simp only [fewT, List.mem_map] at ht
  obtain ⟨s, hs, rfl⟩ := ht
  exact h s (List.mem_of_mem_take hs) z (List.mem_of_mem_take hz)
theorem strOfNums_append (a b : List Int) : strOfNums (a ++ b) = strOfNums a ++ strOfNums b := by
  unfold strOfNums
  apply ByteArray.ext
  simp

end Go.Proofs.Ytjnmggbkclnbkaa
