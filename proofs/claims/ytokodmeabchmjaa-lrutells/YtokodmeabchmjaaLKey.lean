/-
  Caches in memory: a frame taken out, a frame laid in; the two types of keys. A lemma file: no statement of the seat is proved here.
-/
import Derived.Test.YtokodmeabchmjaaLMem
namespace Go.Proofs.Ytokodmeabchmjaa
open Go.RowKit Go.Maps

theorem ownsMap_fit {k : TypeId} {R : Value → Option (DataW Unit × List MemPlace)} {w : World} {b n m : Nat} {D : DataW Unit} (h : w.ownsMap Try.prog k R b n D) (hm : Maps.size D = m) : w.ownsMap Try.prog k R b m D := by
  obtain ⟨es, clock, hb, F, hle, hD2⟩ := h
  refine ⟨es, clock, hb, F, ?_, hD2⟩
  rw [← hm, hD2]
  simp [Maps.size, length_sorted]

section
variable {α : Type} [DecidableEq α] {κ : KT α} {w w' : World} {p bh bl : Nat} {fr : Int} {us : Nat}

theorem CacheAt.del {ds rs : List (Fr α)} {e : Fr α} (h : CacheAt κ w p bh bl fr us (ds ++ e :: rs)) (hk : Kept [bh, bl] w w') {D D' : DataW Unit} {n n' : Nat} (hh : w'.ownsMap Try.prog 56 ptrE bh n D) (hh2 : HeldIs D (ds ++ rs)) (hl : w'.ownsMap Try.prog κ.tk uElem bl n' D') (hl2 : LastIs κ D' (ds ++ rs)) :
    CacheAt κ w' p bh bl fr us (ds ++ rs) := by
  obtain ⟨n1, n2, n3, n4⟩ := h.ne
  have hsub : (ds ++ rs).Sublist (ds ++ e :: rs) := List.Sublist.append_left (List.sublist_cons_self e rs) ds
  have hmem : ∀ x ∈ ds ++ rs, x ∈ ds ++ e :: rs := fun x hx => hsub.subset hx
  refine ⟨hk.heap h.cells (by simp [n1, n2]), ⟨D, ownsMap_fit hh hh2.size, hh2⟩, ⟨D', ownsMap_fit hl hl2.size, hl2⟩, fun x hx => hk.heap (h.frames x (hmem x hx)) ?_, ?_, ?_, fun x hx => h.up x (hmem x hx), ?_, fun x hx => h.ok x (hmem x hx), h.few, ?_⟩
  · have := n4 x (hmem x hx)
    simp [this.2.1, this.2.2]
  · exact h.apart.sublist ((((hsub.map Fr.blk).cons_cons bl).cons_cons bh).cons_cons p)
  · exact h.rise.sublist (hsub.map _)
  · exact h.keys.sublist (hsub.map _)
  · exact Nat.le_trans hsub.length_le h.len

theorem CacheAt.snoc {es : List (Fr α)} {e : Fr α} (h : CacheAt κ w p bh bl fr us es) (hk : Kept [p, bh, bl] w w') (hu : e.use = us + 1) (hfew : us + 1 ≤ 1000000) (hb : w.heap[e.blk]? = some (.cells #[κ.enc e.key, .int .i64 e.pins] κ.tf (0, 0))) (hbf : e.blk ∉ feet p bh bl es) (hkey : ∀ x ∈ es, x.key ≠ e.key) (hok : κ.ok e.key)
    (hc : w'.heap[p]? = some (.cells #[.int .i64 fr, .int .u64 (us + 1 : Nat), .map (some bh), .map (some bl)] κ.tc (0, 0))) {D D' : DataW Unit} {n n' : Nat} (hh : w'.ownsMap Try.prog 56 ptrE bh n D) (hh2 : HeldIs D (es ++ [e])) (hl : w'.ownsMap Try.prog κ.tk uElem bl n' D') (hl2 : LastIs κ D' (es ++ [e])) :
    CacheAt κ w' p bh bl fr (us + 1) (es ++ [e]) := by
  obtain ⟨n1, n2, n3, n4⟩ := h.ne
  have hbf2 := hbf
  simp only [feet, List.mem_cons, not_or] at hbf2
  refine ⟨hc, ⟨D, ownsMap_fit hh hh2.size, hh2⟩, ⟨D', ownsMap_fit hl hl2.size, hl2⟩, fun x hx => ?_, ?_, ?_, fun x hx => ?_, ?_, fun x hx => ?_, hfew, ?_⟩
  · rcases List.mem_append.1 hx with hx | hx
    · have := n4 x hx
      exact hk.heap (h.frames x hx) (by simp [this.1, this.2.1, this.2.2])
    · simp at hx
      subst hx
      exact hk.heap hb (by simp [hbf2.1, hbf2.2.1, hbf2.2.2.1])
  · have e1 : feet p bh bl (es ++ [e]) = feet p bh bl es ++ [e.blk] := by simp [feet]
    rw [e1, List.nodup_append]
    refine ⟨h.apart, by simp, fun x hx y hy heq => ?_⟩
    simp at hy
    subst heq
    subst hy
    exact hbf hx
  · rw [List.map_append, List.pairwise_append]
    refine ⟨h.rise, by simp, fun x hx y hy => ?_⟩
    obtain ⟨z, hz, rfl⟩ := List.mem_map.1 hx
    simp at hy
    subst hy
    have := h.up z hz
    omega
  · rcases List.mem_append.1 hx with hx | hx
    · exact Nat.le_succ_of_le (h.up x hx)
    · simp at hx
      subst hx
      omega
  · rw [List.map_append, List.nodup_append]
    refine ⟨h.keys, by simp, fun x hx y hy heq => ?_⟩
    obtain ⟨z, hz, rfl⟩ := List.mem_map.1 hx
    simp at hy
    subst hy
    exact hkey z hz heq
  · rcases List.mem_append.1 hx with hx | hx
    · exact h.ok x hx
    · simp at hx
      subst hx
      exact hok
  · simp
    exact h.len

/-- A frame's count written. -/
theorem CacheAt.pin {ds rs : List (Fr α)} {e : Fr α} (h : CacheAt κ w p bh bl fr us (ds ++ e :: rs)) (n : Nat) : CacheAt κ (w.setCell ⟨e.blk, 1, none⟩ (.int .i64 n)) p bh bl fr us (ds ++ { e with pins := n } :: rs) := by
  have hk : Kept [e.blk] w (w.setCell ⟨e.blk, 1, none⟩ (.int .i64 n)) := (Kept.refl _ w).setCell (p := ⟨e.blk, 1, none⟩) (.inl (by simp)) _
  have n4 := h.ne.2.2.2 e (by simp)
  have e1 : ∀ {β : Type} (f : Fr α → β), (∀ x : Fr α, f { x with pins := n } = f x) → (ds ++ { e with pins := n } :: rs).map f = (ds ++ e :: rs).map f := fun f hf => by simp [hf]
  have hfe : feet p bh bl (ds ++ { e with pins := n } :: rs) = feet p bh bl (ds ++ e :: rs) := by simp [feet]
  refine ⟨hk.heap h.cells (by simpa using Ne.symm n4.1), ?_, ?_, fun x hx => ?_, hfe ▸ h.apart, (e1 Fr.use (fun _ => rfl)) ▸ h.rise, fun x hx => ?_, (e1 Fr.key (fun _ => rfl)) ▸ h.keys, fun x hx => ?_, h.few, by simpa using h.len⟩
  · obtain ⟨D, h1, h2⟩ := h.held
    refine ⟨D, by simpa using ownsMap_kept h1 hk (by simpa using Ne.symm n4.2.1), ⟨fun x => ?_, fun x => ?_, by simpa using h2.size⟩⟩
    · rw [h2.at_ x, List.find?_append, List.find?_append, List.find?_cons, List.find?_cons]
      cases ds.find? (fun y => decide (y.use = x)) with
      | some y => rfl
      | none => by_cases hx : e.use = x <;> simp [hx]
    · rw [h2.has x, List.find?_append, List.find?_append, List.find?_cons, List.find?_cons]
      cases ds.find? (fun y => decide (y.use = x)) with
      | some y => rfl
      | none => by_cases hx : e.use = x <;> simp [hx]
  · obtain ⟨D, h1, h2⟩ := h.last
    refine ⟨D, by simpa using ownsMap_kept h1 hk (by simpa using Ne.symm n4.2.2), ⟨fun x => ?_, fun x => ?_, by simpa using h2.size⟩⟩
    · rw [h2.at_ x, List.find?_append, List.find?_append, List.find?_cons, List.find?_cons]
      cases ds.find? (fun y => decide (y.key = x)) with
      | some y => rfl
      | none => by_cases hx : e.key = x <;> simp [hx]
    · rw [h2.has x, List.find?_append, List.find?_append, List.find?_cons, List.find?_cons]
      cases ds.find? (fun y => decide (y.key = x)) with
      | some y => rfl
      | none => by_cases hx : e.key = x <;> simp [hx]
  · have hnd := h.apart
    simp only [feet, List.map_append, List.map_cons, List.nodup_cons, List.nodup_append] at hnd
    rcases List.mem_append.1 hx with hx | hx
    · exact hk.heap (h.frames x (by simp [hx])) (by simpa using hnd.2.2.2.2.2 _ (List.mem_map.2 ⟨x, hx, rfl⟩) e.blk (by simp))
    · rcases List.mem_cons.1 hx with rfl | hx
      · simpa using heap_setCell (h.frames e (by simp)) 1 (.int .i64 n)
      · exact hk.heap (h.frames x (by simp [hx])) (by simpa using fun heq => hnd.2.2.2.2.1.1 (List.mem_map.2 ⟨x, hx, heq⟩))
  · rcases List.mem_append.1 hx with hx | hx
    · exact h.up x (by simp [hx])
    · rcases List.mem_cons.1 hx with rfl | hx
      · exact h.up e (by simp)
      · exact h.up x (by simp [hx])
  · rcases List.mem_append.1 hx with hx | hx
    · exact h.ok x (by simp [hx])
    · rcases List.mem_cons.1 hx with rfl | hx
      · exact h.ok e (by simp)
      · exact h.ok x (by simp [hx])

end

/-! ### Steps of regions that draw -/

/-- 'delete(m, k)', as one step of a region that draws. -/
theorem step_delete {ops : Array Oper} {o : Oper} {a : Act} {w w' : World} {K : Act → World → Prop} {Q : Exit → Act → World → Prop} {E : Prop} (hg : o.guard = none) (m x : Operand) (t k : TypeId)
    (hop : o.op = Op.call { callee := Callee.builtin Builtin.delete, args := #[m, x], argTypes := #[t, k] }) (hty : o.type = 0) (b : Nat) (key : Value) (hm : a.eval m = .map (some b)) (hx : a.eval x = key)
    (hrun : (Builtin.delete_ #[t, k] 0 #[.map (some b), key]).run Try.prog w = .ok (.tuple #[]) w') (hK : K (a.put o.dst (.tuple #[])) w') :
    if Region.wanted o (yielded ops a.tmps) = true then Oper.wp Try.prog o a w K Q else E := by
  have hw : Region.wanted o (yielded ops a.tmps) = true := by simp [Region.wanted, hg]
  rw [if_pos hw]
  unfold Oper.wp
  simp [execOp, hop, hty, resolve, invoke, builtin, hm, hx, hrun, Result.andThen]
  exact hK

/-- 'len(m)', as one step of a region that draws. -/
theorem step_len {ops : Array Oper} {o : Oper} {a : Act} {w : World} {K : Act → World → Prop} {Q : Exit → Act → World → Prop} {E : Prop} (hg : o.guard = none) (m : Operand) (t : TypeId)
    (hop : o.op = Op.call { callee := Callee.builtin Builtin.len, args := #[m], argTypes := #[t] }) (b : Nat) (n : Int) (hm : a.eval m = .map (some b))
    (hrun : ∀ ty, (Builtin.len_ #[t] ty #[.map (some b)]).run Try.prog w = .ok (.int .i64 n) w) (hK : K (a.put o.dst (.int .i64 n)) w) :
    if Region.wanted o (yielded ops a.tmps) = true then Oper.wp Try.prog o a w K Q else E := by
  have hw : Region.wanted o (yielded ops a.tmps) = true := by simp [Region.wanted, hg]
  rw [if_pos hw]
  unfold Oper.wp
  simp [execOp, hop, resolve, invoke, builtin, hm, hrun, Result.andThen]
  exact hK

/-! ### The types of keys -/

@[reducible] def kI : KT Int := { enc := Value.int .i64, lit := Lit.int .i64, ok := fun k => -9223372036854775808 ≤ k ∧ k ≤ 9223372036854775807, tk := 3, tf := 85, tc := 78 }

theorem keyedI : Keyed Try.prog 3 := int_keyed Try.underlying3
theorem keyI (k : Int) (h : kI.ok k) : keyOf Try.prog 3 (.int .i64 k) = some (.int .i64 k) :=
  keyOf_int_mk Try.underlying3 (by
    have hmin : IntKind.i64.min = -9223372036854775808 := rfl
    have hmax : IntKind.i64.max = 9223372036854775807 := rfl
    have h1 := h.1
    have h2 := h.2
    simp only [Lit.wf, Bool.and_eq_true, decide_eq_true_eq]
    omega)
theorem injI (x y : Int) (h : kI.lit x = kI.lit y) : x = y := by simpa using h
theorem litI (x : Int) : WideAt.IsKeyLit (kI.lit x) := by trivial

@[reducible] def kS : KT ByteArray := { enc := Value.string, lit := fun s => Lit.string s.data.toList, ok := fun s => s.size ≤ maxLen, tk := 9, tf := 67, tc := 58 }

theorem keyedS : Keyed Try.prog 9 := string_keyed Try.underlying9
theorem keyS (k : ByteArray) (h : kS.ok k) : keyOf Try.prog 9 (.string k) = some (.string k.data.toList) := Go.WideMaps.keyOf_string_mk Try.underlying9 h
theorem injS (x y : ByteArray) (h : kS.lit x = kS.lit y) : x = y := by
  simp only [Lit.string.injEq] at h
  cases x; cases y
  simpa using h
theorem litS (x : ByteArray) : WideAt.IsKeyLit (kS.lit x) := by trivial

end Go.Proofs.Ytokodmeabchmjaa
