/-
  Caches in memory: a frame taken out, a frame laid in; the two types of keys. A lemma file: no statement of the seat is proved here.
-/
import Derived.Test.YtbhjdcoehgajcaaLMem
namespace Go.Proofs.Ytbhjdcoehgajcaa.L
open Go.RowKit Go.Maps

theorem ownsMap_fit {k : TypeId} {R : Value → Option (DataW Unit × List MemPlace)} {w : World} {b n m : Nat} {D : DataW Unit} (h : w.ownsMap Try.prog k R b n D) (hm : Maps.size D = m) : w.ownsMap Try.prog k R b m D := by
  obtain ⟨es, clock, hb, F, hle, hD2⟩ := h
  refine ⟨es, clock, hb, F, ?_, hD2⟩
  rw [← hm, hD2]
  simp [Maps.size, length_sorted]

section
variable {α : Type} [DecidableEq α] {κ : KT α} {w w' : World} {p bh bl : Nat} {fr : Int} {us : Nat}

theorem CacheAt.del {ds rs : List (Fr α)} {e : Fr α} (h : CacheAt κ w p bh bl fr us (ds ++ e :: rs)) (hk : Kept [bh, bl] w w') {D D' : DataW Unit} {n n' : Nat} (hh : w'.ownsMap Try.prog 91 ptrE bh n D) (hh2 : HeldIs D (ds ++ rs)) (hl : w'.ownsMap Try.prog κ.tk uElem bl n' D') (hl2 : LastIs κ D' (ds ++ rs)) :
    CacheAt κ w' p bh bl fr us (ds ++ rs) := by
  obtain ⟨n1, n2, n3, n4⟩ := h.ne
  have hsub : (ds ++ rs).Sublist (ds ++ e :: rs) := List.Sublist.append_left (List.sublist_cons_self e rs) ds
  have hmem : ∀ x ∈ ds ++ rs, x ∈ ds ++ e :: rs := fun x hx => hsub.subset hx
  refine ⟨hk.heap h.cells (by simp [n1, n2]), ⟨D, ownsMap_fit hh hh2.size, hh2⟩, ⟨D', ownsMap_fit hl hl2.size, hl2⟩, fun x hx => hk.heap (h.frames x (hmem x hx)) ?_, ?_, ?_, fun x hx => h.up x (hmem x hx), ?_, fun x hx => h.ok x (hmem x hx), h.few, ?_⟩
  · have := n4 x (hmem x hx)
    simp [this.2.1, this.2.2]
  · exact h.apart.sublist ((((hsub.map Fr.blk).cons_cons bl).cons_cons bh).cons_cons p)
  · exact h.rise.sublist (hsub.map _)
  · exact h.keys.sublist (hsub.map _)
  · exact Nat.le_trans hsub.length_le h.len

theorem CacheAt.snoc {es : List (Fr α)} {e : Fr α} (h : CacheAt κ w p bh bl fr us es) (hk : Kept [p, bh, bl] w w') (hu : e.use = us + 1) (hfew : us + 1 ≤ 1000000) (hb : w.heap[e.blk]? = some (.cells (κ.fc e.key e.pins) κ.tf (0, 0))) (hbf : e.blk ∉ feet p bh bl es) (hkey : ∀ x ∈ es, x.key ≠ e.key) (hok : κ.ok e.key)
    (hc : w'.heap[p]? = some (.cells #[.int .i64 fr, .int .u64 (us + 1 : Nat), .map (some bh), .map (some bl)] κ.tc (0, 0))) {D D' : DataW Unit} {n n' : Nat} (hh : w'.ownsMap Try.prog 91 ptrE bh n D) (hh2 : HeldIs D (es ++ [e])) (hl : w'.ownsMap Try.prog κ.tk uElem bl n' D') (hl2 : LastIs κ D' (es ++ [e])) :
    CacheAt κ w' p bh bl fr (us + 1) (es ++ [e]) := by
  obtain ⟨n1, n2, n3, n4⟩ := h.ne
  have hbf2 := hbf
  simp only [feet, List.mem_cons, not_or] at hbf2
  refine ⟨hc, ⟨D, ownsMap_fit hh hh2.size, hh2⟩, ⟨D', ownsMap_fit hl hl2.size, hl2⟩, fun x hx => ?_, ?_, ?_, fun x hx => ?_, ?_, fun x hx => ?_, hfew, ?_⟩
  · rcases List.mem_append.1 hx with hx | hx
    · have := n4 x hx
      exact hk.heap (h.frames x hx) (by simp [this.1, this.2.1, this.2.2])
    · simp at hx
      subst hx
      exact hk.heap hb (by simp [hbf2.1, hbf2.2.1, hbf2.2.2.1])
  · have e1 : feet p bh bl (es ++ [e]) = feet p bh bl es ++ [e.blk] := by simp [feet]
    rw [e1, List.nodup_append]
    refine ⟨h.apart, by simp, fun x hx y hy heq => ?_⟩
    simp at hy
    subst heq
    subst hy
    exact hbf hx
  · rw [List.map_append, List.pairwise_append]
    refine ⟨h.rise, by simp, fun x hx y hy => ?_⟩
    obtain ⟨z, hz, rfl⟩ := List.mem_map.1 hx
    simp at hy
    subst hy
    have := h.up z hz
    omega
  · rcases List.mem_append.1 hx with hx | hx
    · exact Nat.le_succ_of_le (h.up x hx)
    · simp at hx
      subst hx
      omega
  · rw [List.map_append, List.nodup_append]
    refine ⟨h.keys, by simp, fun x hx y hy heq => ?_⟩
    obtain ⟨z, hz, rfl⟩ := List.mem_map.1 hx
    simp at hy
    subst hy
    exact hkey z hz heq
  · rcases List.mem_append.1 hx with hx | hx
    · exact h.ok x hx
    · simp at hx
      subst hx
      exact hok
  · simp
    exact h.len

end

/-! ### Steps of regions that draw -/

/-- 'delete(m, k)', as one step of a region that draws. -/
theorem step_delete {ops : Array Oper} {o : Oper} {a : Act} {w w' : World} {K : Act → World → Prop} {Q : Exit → Act → World → Prop} {E : Prop} (hg : o.guard = none) (m x : Operand) (t k : TypeId)
    (hop : o.op = Op.call { callee := Callee.builtin Builtin.delete, args := #[m, x], argTypes := #[t, k] }) (hty : o.type = 0) (b : Nat) (key : Value) (hm : a.eval m = .map (some b)) (hx : a.eval x = key)
    (hrun : (Builtin.delete_ #[t, k] 0 #[.map (some b), key]).run Try.prog w = .ok (.tuple #[]) w') (hK : K (a.put o.dst (.tuple #[])) w') :
    if Region.wanted o (yielded ops a.tmps) = true then Oper.wp Try.prog o a w K Q else E := by
  have hw : Region.wanted o (yielded ops a.tmps) = true := by simp [Region.wanted, hg]
  rw [if_pos hw]
  unfold Oper.wp
  simp [execOp, hop, hty, resolve, invoke, builtin, hm, hx, hrun, Result.andThen]
  exact hK

/-- 'len(m)', as one step of a region that draws. -/
theorem step_len {ops : Array Oper} {o : Oper} {a : Act} {w : World} {K : Act → World → Prop} {Q : Exit → Act → World → Prop} {E : Prop} (hg : o.guard = none) (m : Operand) (t : TypeId)
    (hop : o.op = Op.call { callee := Callee.builtin Builtin.len, args := #[m], argTypes := #[t] }) (b : Nat) (n : Int) (hm : a.eval m = .map (some b))
    (hrun : ∀ ty, (Builtin.len_ #[t] ty #[.map (some b)]).run Try.prog w = .ok (.int .i64 n) w) (hK : K (a.put o.dst (.int .i64 n)) w) :
    if Region.wanted o (yielded ops a.tmps) = true then Oper.wp Try.prog o a w K Q else E := by
  have hw : Region.wanted o (yielded ops a.tmps) = true := by simp [Region.wanted, hg]
  rw [if_pos hw]
  unfold Oper.wp
  simp [execOp, hop, resolve, invoke, builtin, hm, hrun, Result.andThen]
  exact hK

/-- A struct of two cells in a new block. -/
theorem box2 (w : World) (x y : Value) (t : TypeId) : (w.alloc (.cells #[x, y] t)).cell? ⟨w.heap.size, 0, none⟩ = some x ∧ (w.alloc (.cells #[x, y] t)).cell? ⟨w.heap.size, 1, none⟩ = some y :=
  ⟨cell_of_heap (heap_alloc_new w (.cells #[x, y] t)) 0, cell_of_heap (heap_alloc_new w (.cells #[x, y] t)) 1⟩

/-! ### The types of keys -/

/-- A place of a page: the name of its file, and where it begins. -/
abbrev Place := { x : ByteArray × Int // x.1.size ≤ maxLen ∧ -9223372036854775808 ≤ x.2 ∧ x.2 ≤ 9223372036854775807 }

@[reducible] def encP (x : Place) : Value := .agg #[.string x.1.1, .int .i64 x.1.2]
def litsP (x : Place) : List Lit := [.string x.1.1.data.toList, .int .i64 x.1.2]
def litP (x : Place) : Lit := .string (keyBytes (litsP x))

@[reducible] def kP : KT Place := { enc := encP, fc := fun x n => #[.string x.1.1, .int .i64 x.1.2, .int .i64 n], lit := litP, ok := fun _ => True, tk := 54, tf := 101, tc := 93 }

theorem keyedP : Keyed Try.prog 54 := Keyed.of_law (deep_law_laid (m := 8) (by kernel_rfl) (by decide) (of_decide_eq_true (by kernel_rfl)) (by kernel_rfl) (by kernel_rfl))

/-- The boxes of a pointer to a cache and of a key, as a method lays them. -/
@[reducible] def boxes (w : World) (p : Nat) (k : Place) : World := (w.alloc (.cells #[.pointer (some ⟨p, 0, none⟩)] 51)).alloc (.cells #[.string k.1.1, .int .i64 k.1.2] 54)
theorem boxes_at (w : World) (p : Nat) (k : Place) : (boxes w p k).cell? ⟨w.heap.size, 0, none⟩ = some (.pointer (some ⟨p, 0, none⟩)) ∧ (boxes w p k).cell? ⟨w.heap.size + 1, 0, none⟩ = some (.string k.1.1) ∧ (boxes w p k).cell? ⟨w.heap.size + 1, 1, none⟩ = some (.int .i64 k.1.2) ∧ Below w.heap.size w (boxes w p k) := by
  have e : (w.alloc (.cells #[.pointer (some ⟨p, 0, none⟩)] 51)).heap.size = w.heap.size + 1 := by simp
  have b := box2 (w.alloc (.cells #[.pointer (some ⟨p, 0, none⟩)] 51)) (.string k.1.1) (.int .i64 k.1.2) 54
  rw [e] at b
  refine ⟨?_, b.1, b.2, ((Below.refl _ w).alloc (Nat.le_refl _) _).alloc (by simp) _⟩
  exact ((Kept.refl [] _).alloc _).cell (cell_of_heap (heap_alloc_new w (.cells #[.pointer (some ⟨p, 0, none⟩)] 51)) 0) (by simp)

theorem lits_str (d : Nat) (s : ByteArray) (h : s.size ≤ maxLen) : Try.prog.keyLits (d + 1) 9 [.string s] = some [.string s.data.toList] := by
  unfold Program.keyLits
  simp [Try.underlying9, h]
theorem lits_int (d : Nat) (n : Int) (h : (Lit.int .i64 n).wf = true) : Try.prog.keyLits (d + 1) 3 [.int .i64 n] = some [.int .i64 n] := by
  unfold Program.keyLits
  simp [Try.underlying3, h]
theorem Try.sizeP : Try.prog.types.size = 172 + 2 := by kernel_rfl
theorem Try.cellsP : Try.prog.cellsOf 54 = 2 ∧ Try.prog.cellsOf 9 = 1 ∧ Try.prog.cellsOf 3 = 1 := ⟨by kernel_rfl, by kernel_rfl, by kernel_rfl⟩
theorem Try.keyTypeP : Try.prog.keyType 54 = true := by kernel_rfl

theorem keyP (k : Place) (_ : kP.ok k) : keyOf Try.prog 54 (encP k) = some (litP k) := by
  obtain ⟨⟨s, n⟩, h1, h2, h3⟩ := k
  have hw : (Lit.int .i64 n).wf = true := by
    have hmin : IntKind.i64.min = -9223372036854775808 := rfl
    have hmax : IntKind.i64.max = 9223372036854775807 := rfl
    simp only [Lit.wf, Bool.and_eq_true, decide_eq_true_eq]
    simp only at h2 h3
    omega
  have hf : (Value.agg #[.string s, .int .i64 n]).formed Try.prog 54 = true := by
    simp [Value.formed, Try.underlying54, Try.cellsP.1]
  have hl : Try.prog.keyLits (Try.prog.types.size + 1) 54 [.string s, .int .i64 n] = some [.string s.data.toList, .int .i64 n] := by
    rw [Try.sizeP]
    unfold Program.keyLits
    simp [Try.underlying54, Try.cellsP, lits_str _ s h1, lits_int _ n hw]
  unfold keyOf
  rw [Try.underlying54]
  simp only [encP, Try.keyTypeP, hf, Bool.and_self, if_true]
  show (Try.prog.keyLits (Try.prog.types.size + 1) 54 [.string s, .int .i64 n]).map _ = _
  rw [hl]
  rfl

theorem injP (x y : Place) (h : kP.lit x = kP.lit y) : x = y := by
  have hx := keyP x trivial
  have hy := keyP y trivial
  rw [show litP x = litP y from h] at hx
  have := keyedP.inj hx hy
  obtain ⟨⟨a, b⟩, hab⟩ := x
  obtain ⟨⟨c, d⟩, hcd⟩ := y
  simp [encP] at this
  obtain ⟨rfl, rfl⟩ := this
  rfl
theorem litP_key (x : Place) : WideAt.IsKeyLit (kP.lit x) := by trivial

end Go.Proofs.Ytbhjdcoehgajcaa.L
