/-
  Copies of slices; what is appended to rows. A lemma file: no statement of the seat is proved here.
-/
import Derived.Test.YtbhjdcoehgajcaaDNames
namespace Go.Proofs.Ytbhjdcoehgajcaa
open Go.RowKit Go.Maps Go.Sort Go.Shelf

/-- The slice value v holds the truths ks. -/
def IsK (w : World) (v : Value) (ks : List Bool) : Prop :=
  ∃ (a : Option Addr) (cap : Nat), v = .slice a ks.length cap ∧ ks.length ≤ cap ∧ (a = none → ks = [] ∧ cap = 0) ∧
    (∀ x, a = some x → ∀ j, j < ks.length → w.cell? (x.add j) = some (.bool (ks[j]?.getD false)))

theorem IsK.nil (w : World) : IsK w (.slice none 0 0) [] := ⟨none, 0, rfl, Nat.le_refl _, fun _ => ⟨rfl, rfl⟩, by simp⟩

theorem IsK.kept {fp : List Nat} {w w' : World} {v : Value} {ks : List Bool} (h : IsK w v ks) (hk : Kept fp w w') (hf : ks ≠ [] → ∀ x ∈ own v, x ∉ fp) : IsK w' v ks := by
  obtain ⟨a, cap, rfl, h1, h2, h3⟩ := h
  refine ⟨a, cap, rfl, h1, h2, fun x hx j hj => ?_⟩
  subst hx
  exact hk.cell (h3 x rfl j hj) (hf (fun e => by subst e; simp at hj) _ (by simp [Value.ownBlock, Addr.add]; split <;> rfl))

theorem IsK.below {w w' : World} {v : Value} {ks : List Bool} (h : IsK w v ks) (hb : Below w.heap.size w w') : IsK w' v ks :=
  h.kept (Kept.of_below (fp := []) hb) (fun _ _ _ => by simp)

theorem IsK.lt {w : World} {v : Value} {ks : List Bool} (h : IsK w v ks) (hne : ks ≠ []) : ∀ x ∈ own v, x < w.heap.size := by
  obtain ⟨a, cap, rfl, h1, h2, h3⟩ := h
  intro x hx
  cases a with
  | none => simp [own, Value.ownBlock] at hx
  | some a =>
    have := World.block_lt_of_cell? w _ (h3 a rfl 0 (List.length_pos_iff.2 hne))
    simp [own, Value.ownBlock] at hx
    subst hx
    simpa [Addr.add] using this

theorem RowK.isK {w : World} {v : Value} {ks : List Bool} (h : RowK w v ks) : IsK w v ks := by
  obtain ⟨h1, h2⟩ := id h
  rcases h2 with ⟨rfl, e⟩ | ⟨g, cap, cur, rfl, hb, hg, hn, hm, hs, ht⟩
  · obtain rfl : ks = [] := List.eq_nil_of_length_eq_zero e
    exact IsK.nil w
  · refine ⟨_, cap, rfl, hn, by simp, fun x hx j hj => ?_⟩
    simp only [Option.some.injEq] at hx
    subst hx
    have := World.ownsRow.cells h (g := g) rfl j (.bool (ks[j]?.getD false)) (by simp [hj])
    exact this

theorem Try.infoBool : (Try.prog.info? 4).map (fun i => (i.zero, i.size, i.bytes)) = some (some (.bool false), 1, 1) := by kernel_rfl

section
variable {ops : Array Oper} {rest : List Oper} {o : Oper} {a : Act} {Q : Exit → Act → World → Prop}

/-- 'append(row, b...)', row nil or of its own, b whatever: at the operation. -/
theorem wp_appendR (w : World) (hgd : o.guard = none) (s x : Operand) (ho : o.op = .call { callee := .builtin .append, args := #[s, x], argTypes := #[28, 28] })
    (v u : Value) (bs cs : List Int) (hs : a.eval s = v) (hrow : RowB w v bs) (hx : a.eval x = u) (hu : IsB w u cs) (hlen : bs.length + cs.length ≤ 1099511627776)
    (h : ∀ v' w', RowB w' v' (bs ++ cs) → Kept (own v) w w' → Newly w (own v) (own v') → (v' = .slice none 0 0 → v = .slice none 0 0 ∧ cs = []) → wpList Try.prog ops Q rest (a.put o.dst v') w') :
    wpList Try.prog ops Q (o :: rest) a w := by
  refine wpList_plain hgd fun K hK => ?_
  obtain ⟨v', w', hr, h2, h3, h4, h5⟩ := hrow.append hu hlen o.type
  unfold Oper.wp execOp
  simp only [ho, resolve, invoke, builtin, Sem.run_bind, Sem.run_pure, Result.andThen_ok, List.map_toArray, List.map_cons, List.map_nil, hs, hx, hr]
  exact hK _ _ (h v' w' h2 h3 h4 h5)

/-- .. as a step of a region that draws its order. -/
theorem step_appendR {K : Act → World → Prop} {E : Prop} (w : World) (hgd : o.guard = none) (s x : Operand) (ho : o.op = .call { callee := .builtin .append, args := #[s, x], argTypes := #[28, 28] })
    (v u : Value) (bs cs : List Int) (hs : a.eval s = v) (hrow : RowB w v bs) (hx : a.eval x = u) (hu : IsB w u cs) (hlen : bs.length + cs.length ≤ 1099511627776)
    (h : ∀ v' w', RowB w' v' (bs ++ cs) → Kept (own v) w w' → Newly w (own v) (own v') → K (a.put o.dst v') w') :
    if Region.wanted o (yielded ops a.tmps) = true then Oper.wp Try.prog o a w K Q else E := by
  have hw : Region.wanted o (yielded ops a.tmps) = true := by simp [Region.wanted, hgd]
  rw [if_pos hw]
  obtain ⟨v', w', hr, h2, h3, h4, h5⟩ := hrow.append hu hlen o.type
  unfold Oper.wp execOp
  simp only [ho, resolve, invoke, builtin, Sem.run_bind, Sem.run_pure, Result.andThen_ok, List.map_toArray, List.map_cons, List.map_nil, hs, hx, hr]
  exact h v' w' h2 h3 h4

/-- 'append(row, b...)' of truths. -/
theorem wp_appendK (w : World) (hgd : o.guard = none) (s x : Operand) (ho : o.op = .call { callee := .builtin .append, args := #[s, x], argTypes := #[78, 78] })
    (v u : Value) (ks ls : List Bool) (hs : a.eval s = v) (hrow : RowK w v ks) (hx : a.eval x = u) (hu : IsK w u ls) (hlen : ks.length + ls.length ≤ 1099511627776)
    (h : ∀ v' w', RowK w' v' (ks ++ ls) → Kept (own v) w w' → Newly w (own v) (own v') → wpList Try.prog ops Q rest (a.put o.dst v') w') :
    wpList Try.prog ops Q (o :: rest) a w := by
  refine wpList_plain hgd fun K hK => ?_
  obtain ⟨i0, hi, hz0, hz1, hz2⟩ := info_parts Try.infoBool
  obtain ⟨ad, c, rfl, h1, h2, h3⟩ := hu
  cases ad with
  | none =>
    obtain ⟨rfl, rfl⟩ := h2 rfl
    have hr := run_append_owned_none (P := Try.prog) (w := w) 0 78 o.type 4 i0 1 Try.underlying78 hi _ _ _ hrow
    simp only [List.length_nil] at hx
    unfold Oper.wp execOp
    simp only [ho, resolve, invoke, builtin, Sem.run_bind, Sem.run_pure, Result.andThen_ok, List.map_toArray, List.map_cons, List.map_nil, hs, hx, hr]
    exact hK _ _ (h v w (by simpa using hrow) (Kept.refl _ _) (Newly.refl _ _))
  | some ad =>
    obtain ⟨v', w', hr, ho', hg, hn, hat⟩ := run_append_own_at (P := Try.prog) w 0 78 o.type 4 i0 (.bool false) 1 1 Try.underlying78 hi hz0 hz1 hz2 rfl (by decide) v ks.length _ hrow ad ls.length c (ls.map Value.bool) (by simp) (fun j u hu => by
      have hj : j < ls.length := by simpa using (List.getElem?_eq_some_iff.1 hu).1
      rw [h3 ad rfl j hj]
      simp [hj] at hu
      simp [hj, hu]) (fun u hu => by obtain ⟨k, _, rfl⟩ := List.mem_map.1 hu; rfl) (by unfold maxLen; omega) (by omega) (Nat.zero_le _)
    unfold Oper.wp execOp
    simp only [ho, resolve, invoke, builtin, Sem.run_bind, Sem.run_pure, Result.andThen_ok, List.map_toArray, List.map_cons, List.map_nil, hs, hx, hr]
    refine hK _ _ (h v' w' (by simpa [RowK] using ho') (Kept.of_grown hg) ?_)
    intro y hy
    rcases hat with e | e
    · exact .inl (by simpa [own, e] using hy)
    · simp [own, e] at hy
      subst hy
      exact .inr (Nat.le_refl _)
end

theorem Try.eqlNone (w : World) : (binOp .eql 28 (.slice none 0 0) (.slice none 0 0)).run Try.prog w = .ok (.bool true) w := by kernel_rfl
theorem Try.eqlSome (ad : Addr) (n c : Nat) (w : World) : (binOp .eql 28 (.slice (some ad) n c) (.slice none 0 0)).run Try.prog w = .ok (.bool false) w := by kernel_rfl
theorem Try.eqlNoneK (w : World) : (binOp .eql 78 (.slice none 0 0) (.slice none 0 0)).run Try.prog w = .ok (.bool true) w := by kernel_rfl
theorem Try.eqlSomeK (ad : Addr) (n c : Nat) (w : World) : (binOp .eql 78 (.slice (some ad) n c) (.slice none 0 0)).run Try.prog w = .ok (.bool false) w := by kernel_rfl

set_option maxRecDepth 100000 in
set_option maxHeartbeats 1000000 in
/-- slices.Clone, of bytes. -/
theorem cloneB_any (v : Value) (bs : List Int) (w : World) (hv : IsB w v bs) (hl : bs.length ≤ 1099511627776) :
    Calls Try.prog 55 #[v] w fun e w' => ∃ v', e = .returned v' ∧ RowB w' v' bs ∧ Below w.heap.size w w' ∧ (∀ x ∈ own v', w.heap.size ≤ x) := by
  obtain ⟨ad, c, rfl, h1⟩ := hv.form
  have HV := hide hv
  cases ad with
  | none =>
    obtain ⟨a', c', he, _, h2, _⟩ := hv
    simp only [Value.slice.injEq] at he
    obtain ⟨rfl, _, rfl⟩ := he
    obtain ⟨rfl, rfl⟩ := h2 rfl
    have q := Try.eqlNone
    go_enter Try.func55, Try.ntmps55
    go_wp2
    go_ret
    exact ⟨.slice none 0 0, rfl, RowB.nil _, Below.refl _ _, by simp [Value.ownBlock]⟩
  | some ad =>
    clear hv
    have R0 := hide ((OwnB.empty w 0 (Nat.zero_le _)).rowB)
    have HB := hide (HV.out.below ((Below.refl _ w).alloc (Nat.le_refl _) (.cells #[] 5)))
    have q := Try.eqlSome ad
    go_enter Try.func55, Try.ntmps55
    go_wp2_with (first | (at_builtin; refine wp_appendR _ rfl _ _ rfl (.slice (some ⟨w.heap.size, 0, none⟩) 0 0) _ [] bs rfl R0.out rfl HB.out (by simpa using hl) ?_; intro v' w' hrow hk hn hnil) | go_in)
    go_ret
    refine ⟨v', rfl, by simpa using hrow, ((Below.refl _ w).alloc (Nat.le_refl _) _).trans (hk.below (by simp) (by simp [Value.ownBlock])), fun x hx => ?_⟩
    rcases hn x hx with h | h
    · simp [Value.ownBlock] at h
      omega
    · simp at h
      omega

set_option maxRecDepth 100000 in
set_option maxHeartbeats 1000000 in
/-- slices.Clone, of truths. -/
theorem cloneK_any (v : Value) (ks : List Bool) (w : World) (hv : IsK w v ks) (hl : ks.length ≤ 1099511627776) :
    Calls Try.prog 57 #[v] w fun e w' => ∃ v', e = .returned v' ∧ RowK w' v' ks ∧ Below w.heap.size w w' ∧ (∀ x ∈ own v', w.heap.size ≤ x) := by
  have HV := hide hv
  obtain ⟨ad, c, rfl, h1, h2, _⟩ := hv
  cases ad with
  | none =>
    obtain ⟨rfl, rfl⟩ := h2 rfl
    have q := Try.eqlNoneK
    go_enter Try.func57, Try.ntmps57
    go_wp2
    go_ret
    exact ⟨.slice none 0 0, rfl, World.ownsRow_nil _ _ _ _, Below.refl _ _, by simp [Value.ownBlock]⟩
  | some ad =>
    clear h2
    have R0 : Hid (RowK (w.alloc (.cells #[] 4)) (.slice (some ⟨w.heap.size, 0, none⟩) 0 0) []) := World.ownsRow_made w #[] 0 (Nat.zero_le _) (by unfold maxLen; omega) rfl
    have HB := hide (HV.out.below ((Below.refl _ w).alloc (Nat.le_refl _) (.cells #[] 4)))
    have q := Try.eqlSomeK ad
    go_enter Try.func57, Try.ntmps57
    go_wp2_with (first | (at_builtin; refine wp_appendK _ rfl _ _ rfl (.slice (some ⟨w.heap.size, 0, none⟩) 0 0) _ [] ks rfl R0.out rfl HB.out (by simpa using hl) ?_; intro v' w' hrow hk hn) | go_in)
    go_ret
    refine ⟨v', rfl, by simpa using hrow, ((Below.refl _ w).alloc (Nat.le_refl _) _).trans (hk.below (by simp) (by simp [Value.ownBlock])), fun x hx => ?_⟩
    rcases hn x hx with h | h
    · simp [Value.ownBlock] at h
      omega
    · simp at h
      omega

end Go.Proofs.Ytbhjdcoehgajcaa
