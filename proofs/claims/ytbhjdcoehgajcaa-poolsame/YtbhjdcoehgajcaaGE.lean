/-
  Lemma texts, one behind the other: LMem, LKey, LAbs, LFindP, LTakeP, LPutP, LWithP, LFirstP, LClosP, LMethP, LUseP. No statement of the seat is proved here.
-/
import Derived.Test.YtbhjdcoehgajcaaGD
import Derived.WalkKit
import Derived.WalkSpells
import Derived.WalkLawsBesides
import Derived.Laws.AppendOwnNone
import Derived.Maps.OwnSet
import Derived.Maps.AppendAt
import Derived.Maps.RangeWalk
import Derived.DeepKeys4
import Derived.Defers
import Derived.Recover
import Derived.Deep.RegionLaw
import Derived.Deep.RegionHeld
import Derived.Deep.RegionHeldLaw
import Derived.Deep.QuietTactic
import Derived.Shelf.Abstract
namespace Go.Proofs.Ytbhjdcoehgajcaa
open Go.RowKit Go.Maps

theorem Kept.heap {fp : List Nat} {w w' : World} (h : Kept fp w w') {b : Nat} {o : Obj} (hv : w.heap[b]? = some o) (hp : b ∉ fp) : w'.heap[b]? = some o :=
  (h.block b (Array.getElem?_eq_some_iff.1 hv).1 hp).trans hv

theorem below_then {w w1 w2 : World} (h : Below w.heap.size w w1) (k : Below w1.heap.size w1 w2) : Below w.heap.size w w2 := h.trans (k.mono h.size)

end Go.Proofs.Ytbhjdcoehgajcaa
namespace Go.Proofs.Ytbhjdcoehgajcaa.L
open Go.RowKit Go.Maps

theorem ownsMap_kept {H : Type} {fp : List Nat} {w w' : World} {k : TypeId} {R : Value → Option (DataW H × List MemPlace)} {b n : Nat} {D : DataW H} (h : w.ownsMap Try.prog k R b n D) (hk : Kept fp w w') (hb : b ∉ fp) : w'.ownsMap Try.prog k R b n D := by
  obtain ⟨es, clock, hb0, F, hs, hD⟩ := h
  exact ⟨es, clock, hk.heap hb0 hb, F, hs, hD⟩

theorem heap_alloc_new (w : World) (o : Obj) : (w.alloc o).heap[w.heap.size]? = some o := (MapKept.heap_alloc w o).1

/-! ### Caches -/

/-- A frame: the number of its last use, its block, its key, how many times it is pinned. -/
structure Fr (α : Type) where
  use : Nat
  blk : Nat
  key : α
  pins : Nat

/-- What is to be known of a type of keys: values, literals, the numbers of types. -/
structure KT (α : Type) where
  enc : α → Value
  fc : α → Nat → Array Value
  lit : α → Lit
  ok : α → Prop
  tk : TypeId
  tf : TypeId
  tc : TypeId

/-- The datum D is a map of what kf tells of frames to what val tells. -/
structure MapIs {α β : Type} [DecidableEq β] (lt : β → Lit) (zd : DataW Unit) (val : Fr α → DataW Unit) (kf : Fr α → β) (D : DataW Unit) (es : List (Fr α)) : Prop where
  at_ : ∀ x, D.atKey (lt x) zd = match es.find? (fun e => decide (kf e = x)) with | some e => val e | none => zd
  has : ∀ x, Maps.has D (lt x) = (es.find? (fun e => decide (kf e = x))).isSome
  size : Maps.size D = es.length

section
variable {α β : Type} [DecidableEq β] {lt : β → Lit} {zd : DataW Unit} {val : Fr α → DataW Unit} {kf : Fr α → β} {D : DataW Unit}

theorem find_none {es : List (Fr α)} {x : β} (h : ∀ e ∈ es, kf e ≠ x) : es.find? (fun e => decide (kf e = x)) = none :=
  List.find?_eq_none.2 fun e he => by simpa using h e he

theorem find_at {ds rs : List (Fr α)} {e : Fr α} (hnd : ((ds ++ e :: rs).map kf).Nodup) : (ds ++ e :: rs).find? (fun y => decide (kf y = kf e)) = some e := by
  rw [List.find?_append, find_none (fun y hy heq => ?_), List.find?_cons]
  · simp
  · rw [List.map_append, List.map_cons, List.nodup_append] at hnd
    exact hnd.2.2 _ (List.mem_map.2 ⟨y, hy, rfl⟩) _ (List.mem_cons_self ..) heq

theorem find_some {es : List (Fr α)} {x : β} {e : Fr α} (h : es.find? (fun e => decide (kf e = x)) = some e) : e ∈ es ∧ kf e = x :=
  ⟨List.mem_of_find?_eq_some h, by simpa using List.find?_some h⟩

theorem MapIs.empty : MapIs lt zd val kf (.map []) [] := ⟨fun _ => rfl, fun _ => rfl, rfl⟩

theorem MapIs.snoc {es : List (Fr α)} {e : Fr α} (h : MapIs lt zd val kf D es) (hinj : ∀ x y, lt x = lt y → x = y) (hkl : ∀ x, WideAt.IsKeyLit (lt x)) (ht : Tidy D) (hno : ∀ y ∈ es, kf y ≠ kf e) :
    MapIs lt zd val kf (D.put (lt (kf e)) (val e)) (es ++ [e]) := by
  have hf : ∀ x, (es ++ [e]).find? (fun y => decide (kf y = x)) = if kf e = x then some e else es.find? (fun y => decide (kf y = x)) := fun x => by
    rw [List.find?_append, List.find?_cons]
    by_cases hx : kf e = x
    · subst hx
      rw [find_none hno]
      simp
    · rw [if_neg hx]
      simp [hx]
  refine ⟨fun x => ?_, fun x => ?_, ?_⟩
  · rw [hf]
    by_cases hx : kf e = x
    · subst hx
      rw [atKey_put_same ht.isMap (hkl _), if_pos rfl]
    · rw [atKey_put_other (fun e2 => hx (hinj _ _ e2).symm), h.at_ x, if_neg hx]
  · rw [hf]
    by_cases hx : kf e = x
    · subst hx
      rw [has_put_same ht.isMap (hkl _), if_pos rfl]
      rfl
    · rw [has_put_other (fun e2 => hx (hinj _ _ e2).symm), h.has x, if_neg hx]
  · rw [size_put ht, h.has, find_none hno, h.size]
    simp

theorem MapIs.del {ds rs : List (Fr α)} {e : Fr α} (h : MapIs lt zd val kf D (ds ++ e :: rs)) (hinj : ∀ x y, lt x = lt y → x = y) (ht : Tidy D) (hnd : ((ds ++ e :: rs).map kf).Nodup) :
    MapIs lt zd val kf (D.del (lt (kf e))) (ds ++ rs) := by
  have hat := find_at hnd
  rw [List.map_append, List.map_cons, List.nodup_append, List.nodup_cons] at hnd
  have hf : ∀ x, (ds ++ rs).find? (fun y => decide (kf y = x)) = if kf e = x then none else (ds ++ e :: rs).find? (fun y => decide (kf y = x)) := fun x => by
    by_cases hx : kf e = x
    · subst hx
      rw [if_pos rfl]
      refine find_none fun y hy heq => ?_
      rcases List.mem_append.1 hy with hy | hy
      · exact hnd.2.2 _ (List.mem_map.2 ⟨y, hy, rfl⟩) _ (List.mem_cons_self ..) heq
      · exact hnd.2.1.1 (List.mem_map.2 ⟨y, hy, heq⟩)
    · rw [if_neg hx, List.find?_append, List.find?_append, List.find?_cons]
      simp [hx]
  refine ⟨fun x => ?_, fun x => ?_, ?_⟩
  · rw [hf]
    by_cases hx : kf e = x
    · subst hx
      rw [atKey_del_same, if_pos rfl]
    · rw [atKey_del_other (fun e2 => hx (hinj _ _ e2).symm), h.at_ x, if_neg hx]
  · rw [hf]
    by_cases hx : kf e = x
    · subst hx
      rw [has_del_same, if_pos rfl]
      rfl
    · rw [has_del_other (fun e2 => hx (hinj _ _ e2).symm), h.has x, if_neg hx]
  · have e1 := size_del (k := lt (kf e)) ht
    rw [h.has, hat, h.size] at e1
    simp at e1 ⊢
    omega

end

def uLit (u : Nat) : Lit := .int .u64 u
theorem uLit_inj (x y : Nat) (h : uLit x = uLit y) : x = y := by
  simp only [uLit, Lit.int.injEq, true_and] at h
  exact Int.ofNat.inj h
theorem uLit_key (x : Nat) : WideAt.IsKeyLit (uLit x) := by trivial

abbrev HeldIs {α : Type} (D : DataW Unit) (es : List (Fr α)) : Prop := MapIs uLit .nil (fun e : Fr α => .lit (.int .i64 e.blk)) Fr.use D es
abbrev LastIs {α : Type} [DecidableEq α] (κ : KT α) (D : DataW Unit) (es : List (Fr α)) : Prop := MapIs κ.lit (.lit (.int .u64 0)) (fun e : Fr α => .lit (.int .u64 e.use)) Fr.key D es

/-- The blocks of a cache. -/
def feet {α : Type} (p bh bl : Nat) (es : List (Fr α)) : List Nat := p :: bh :: bl :: es.map Fr.blk

noncomputable abbrev uElem : Value → Option (DataW Unit × List MemPlace) := plainElem Try.prog 91

structure CacheAt {α : Type} [DecidableEq α] (κ : KT α) (w : World) (p bh bl : Nat) (fr : Int) (us : Nat) (es : List (Fr α)) : Prop where
  cells : w.heap[p]? = some (.cells #[.int .i64 fr, .int .u64 us, .map (some bh), .map (some bl)] κ.tc (0, 0))
  held : ∃ D, w.ownsMap Try.prog 91 ptrE bh es.length D ∧ HeldIs D es
  last : ∃ D, w.ownsMap Try.prog κ.tk uElem bl es.length D ∧ LastIs κ D es
  frames : ∀ e ∈ es, w.heap[e.blk]? = some (.cells (κ.fc e.key e.pins) κ.tf (0, 0))
  apart : (feet p bh bl es).Nodup
  rise : (es.map Fr.use).Pairwise (· < ·)
  up : ∀ e ∈ es, e.use ≤ us
  keys : (es.map Fr.key).Nodup
  ok : ∀ e ∈ es, κ.ok e.key
  few : us ≤ 1000000
  len : es.length ≤ us

section
variable {α : Type} [DecidableEq α] {κ : KT α} {w w' : World} {p bh bl : Nat} {fr : Int} {us : Nat} {es : List (Fr α)}

theorem CacheAt.lt (h : CacheAt κ w p bh bl fr us es) : ∀ x ∈ feet p bh bl es, x < w.heap.size := by
  intro x hx
  simp only [feet, List.mem_cons, List.mem_map] at hx
  rcases hx with rfl | rfl | rfl | ⟨e, he, rfl⟩
  · exact (Array.getElem?_eq_some_iff.1 h.cells).1
  · obtain ⟨D, h1, _⟩ := h.held
    exact h1.lt
  · obtain ⟨D, h1, _⟩ := h.last
    exact h1.lt
  · exact (Array.getElem?_eq_some_iff.1 (h.frames e he)).1

theorem CacheAt.kept {fp : List Nat} (h : CacheAt κ w p bh bl fr us es) (hk : Kept fp w w') (hf : ∀ x ∈ feet p bh bl es, x ∉ fp) : CacheAt κ w' p bh bl fr us es := by
  refine ⟨hk.heap h.cells (hf _ (by simp [feet])), ?_, ?_, fun e he => hk.heap (h.frames e he) (hf _ ?_), h.apart, h.rise, h.up, h.keys, h.ok, h.few, h.len⟩
  · obtain ⟨D, h1, h2⟩ := h.held
    exact ⟨D, ownsMap_kept h1 hk (hf _ (by simp [feet])), h2⟩
  · obtain ⟨D, h1, h2⟩ := h.last
    exact ⟨D, ownsMap_kept h1 hk (hf _ (by simp [feet])), h2⟩
  · simp only [feet, List.mem_cons, List.mem_map]
    exact .inr (.inr (.inr ⟨e, he, rfl⟩))

theorem CacheAt.below (h : CacheAt κ w p bh bl fr us es) (hb : Below w.heap.size w w') : CacheAt κ w' p bh bl fr us es :=
  h.kept (fp := []) (Kept.of_below hb) (by simp)

theorem CacheAt.nd (h : CacheAt κ w p bh bl fr us es) : (es.map Fr.use).Nodup := h.rise.imp fun h => Nat.ne_of_lt h

theorem CacheAt.ne (h : CacheAt κ w p bh bl fr us es) : p ≠ bh ∧ p ≠ bl ∧ bh ≠ bl ∧ ∀ e ∈ es, e.blk ≠ p ∧ e.blk ≠ bh ∧ e.blk ≠ bl := by
  have := h.apart
  simp only [feet, List.nodup_cons, List.mem_cons, List.mem_map, not_or, not_exists, not_and] at this
  obtain ⟨⟨h1, h2, h3⟩, ⟨h4, h5⟩, h6, _⟩ := this
  exact ⟨h1, h2, h4, fun e he => ⟨h3 e he, h5 e he, h6 e he⟩⟩

theorem uKeyed : Keyed Try.prog 91 := int_keyed Try.underlying91

theorem uKey (u : Nat) (h : u ≤ 1000001) : keyOf Try.prog 91 (.int .u64 u) = some (uLit u) :=
  keyOf_int_mk Try.underlying91 (by
    have hmin : IntKind.u64.min = 0 := rfl
    have hmax : IntKind.u64.max = 18446744073709551615 := rfl
    simp only [Lit.wf, Bool.and_eq_true, decide_eq_true_eq]
    omega)

theorem uElem_mk (u : Nat) (h : u ≤ 1000001) : uElem (.int .u64 u) = some (.lit (.int .u64 u), []) :=
  plainElem_int Try.underlying91 (by
    have hmin : IntKind.u64.min = 0 := rfl
    have hmax : IntKind.u64.max = 18446744073709551615 := rfl
    simp only [Lit.wf, Bool.and_eq_true, decide_eq_true_eq]
    omega)

theorem Try.zeroU64 (w : World) : (zeroValue 91).run Try.prog w = .ok (.int .u64 0) w := by kernel_rfl

end

end Go.Proofs.Ytbhjdcoehgajcaa.L

namespace Go.Proofs.Ytbhjdcoehgajcaa.L
open Go.RowKit Go.Maps

theorem ownsMap_fit {k : TypeId} {R : Value → Option (DataW Unit × List MemPlace)} {w : World} {b n m : Nat} {D : DataW Unit} (h : w.ownsMap Try.prog k R b n D) (hm : Maps.size D = m) : w.ownsMap Try.prog k R b m D := by
  obtain ⟨es, clock, hb, F, hle, hD2⟩ := h
  refine ⟨es, clock, hb, F, ?_, hD2⟩
  rw [← hm, hD2]
  simp [Maps.size, length_sorted]

section
variable {α : Type} [DecidableEq α] {κ : KT α} {w w' : World} {p bh bl : Nat} {fr : Int} {us : Nat}

theorem CacheAt.del {ds rs : List (Fr α)} {e : Fr α} (h : CacheAt κ w p bh bl fr us (ds ++ e :: rs)) (hk : Kept [bh, bl] w w') {D D' : DataW Unit} {n n' : Nat} (hh : w'.ownsMap Try.prog 91 ptrE bh n D) (hh2 : HeldIs D (ds ++ rs)) (hl : w'.ownsMap Try.prog κ.tk uElem bl n' D') (hl2 : LastIs κ D' (ds ++ rs)) :
    CacheAt κ w' p bh bl fr us (ds ++ rs) := by
  obtain ⟨n1, n2, n3, n4⟩ := h.ne
  have hsub : (ds ++ rs).Sublist (ds ++ e :: rs) := List.Sublist.append_left (List.sublist_cons_self e rs) ds
  have hmem : ∀ x ∈ ds ++ rs, x ∈ ds ++ e :: rs := fun x hx => hsub.subset hx
  refine ⟨hk.heap h.cells (by simp [n1, n2]), ⟨D, ownsMap_fit hh hh2.size, hh2⟩, ⟨D', ownsMap_fit hl hl2.size, hl2⟩, fun x hx => hk.heap (h.frames x (hmem x hx)) ?_, ?_, ?_, fun x hx => h.up x (hmem x hx), ?_, fun x hx => h.ok x (hmem x hx), h.few, ?_⟩
  · have := n4 x (hmem x hx)
    simp [this.2.1, this.2.2]
  · exact h.apart.sublist ((((hsub.map Fr.blk).cons_cons bl).cons_cons bh).cons_cons p)
  · exact h.rise.sublist (hsub.map _)
  · exact h.keys.sublist (hsub.map _)
  · exact Nat.le_trans hsub.length_le h.len

theorem CacheAt.snoc {es : List (Fr α)} {e : Fr α} (h : CacheAt κ w p bh bl fr us es) (hk : Kept [p, bh, bl] w w') (hu : e.use = us + 1) (hfew : us + 1 ≤ 1000000) (hb : w.heap[e.blk]? = some (.cells (κ.fc e.key e.pins) κ.tf (0, 0))) (hbf : e.blk ∉ feet p bh bl es) (hkey : ∀ x ∈ es, x.key ≠ e.key) (hok : κ.ok e.key)
    (hc : w'.heap[p]? = some (.cells #[.int .i64 fr, .int .u64 (us + 1 : Nat), .map (some bh), .map (some bl)] κ.tc (0, 0))) {D D' : DataW Unit} {n n' : Nat} (hh : w'.ownsMap Try.prog 91 ptrE bh n D) (hh2 : HeldIs D (es ++ [e])) (hl : w'.ownsMap Try.prog κ.tk uElem bl n' D') (hl2 : LastIs κ D' (es ++ [e])) :
    CacheAt κ w' p bh bl fr (us + 1) (es ++ [e]) := by
  obtain ⟨n1, n2, n3, n4⟩ := h.ne
  have hbf2 := hbf
  simp only [feet, List.mem_cons, not_or] at hbf2
  refine ⟨hc, ⟨D, ownsMap_fit hh hh2.size, hh2⟩, ⟨D', ownsMap_fit hl hl2.size, hl2⟩, fun x hx => ?_, ?_, ?_, fun x hx => ?_, ?_, fun x hx => ?_, hfew, ?_⟩
  · rcases List.mem_append.1 hx with hx | hx
    · have := n4 x hx
      exact hk.heap (h.frames x hx) (by simp [this.1, this.2.1, this.2.2])
    · simp at hx
      subst hx
      exact hk.heap hb (by simp [hbf2.1, hbf2.2.1, hbf2.2.2.1])
  · have e1 : feet p bh bl (es ++ [e]) = feet p bh bl es ++ [e.blk] := by simp [feet]
    rw [e1, List.nodup_append]
    refine ⟨h.apart, by simp, fun x hx y hy heq => ?_⟩
    simp at hy
    subst heq
    subst hy
    exact hbf hx
  · rw [List.map_append, List.pairwise_append]
    refine ⟨h.rise, by simp, fun x hx y hy => ?_⟩
    obtain ⟨z, hz, rfl⟩ := List.mem_map.1 hx
    simp at hy
    subst hy
    have := h.up z hz
    omega
  · rcases List.mem_append.1 hx with hx | hx
    · exact Nat.le_succ_of_le (h.up x hx)
    · simp at hx
      subst hx
      omega
  · rw [List.map_append, List.nodup_append]
    refine ⟨h.keys, by simp, fun x hx y hy heq => ?_⟩
    obtain ⟨z, hz, rfl⟩ := List.mem_map.1 hx
    simp at hy
    subst hy
    exact hkey z hz heq
  · rcases List.mem_append.1 hx with hx | hx
    · exact h.ok x hx
    · simp at hx
      subst hx
      exact hok
  · simp
    exact h.len

end

/-! ### Steps of regions that draw -/

/-- 'delete(m, k)', as one step of a region that draws. -/
theorem step_delete {ops : Array Oper} {o : Oper} {a : Act} {w w' : World} {K : Act → World → Prop} {Q : Exit → Act → World → Prop} {E : Prop} (hg : o.guard = none) (m x : Operand) (t k : TypeId)
    (hop : o.op = Op.call { callee := Callee.builtin Builtin.delete, args := #[m, x], argTypes := #[t, k] }) (hty : o.type = 0) (b : Nat) (key : Value) (hm : a.eval m = .map (some b)) (hx : a.eval x = key)
    (hrun : (Builtin.delete_ #[t, k] 0 #[.map (some b), key]).run Try.prog w = .ok (.tuple #[]) w') (hK : K (a.put o.dst (.tuple #[])) w') :
    if Region.wanted o (yielded ops a.tmps) = true then Oper.wp Try.prog o a w K Q else E := by
  have hw : Region.wanted o (yielded ops a.tmps) = true := by simp [Region.wanted, hg]
  rw [if_pos hw]
  unfold Oper.wp
  simp [execOp, hop, hty, resolve, invoke, builtin, hm, hx, hrun, Result.andThen]
  exact hK

/-- 'len(m)', as one step of a region that draws. -/
theorem step_len {ops : Array Oper} {o : Oper} {a : Act} {w : World} {K : Act → World → Prop} {Q : Exit → Act → World → Prop} {E : Prop} (hg : o.guard = none) (m : Operand) (t : TypeId)
    (hop : o.op = Op.call { callee := Callee.builtin Builtin.len, args := #[m], argTypes := #[t] }) (b : Nat) (n : Int) (hm : a.eval m = .map (some b))
    (hrun : ∀ ty, (Builtin.len_ #[t] ty #[.map (some b)]).run Try.prog w = .ok (.int .i64 n) w) (hK : K (a.put o.dst (.int .i64 n)) w) :
    if Region.wanted o (yielded ops a.tmps) = true then Oper.wp Try.prog o a w K Q else E := by
  have hw : Region.wanted o (yielded ops a.tmps) = true := by simp [Region.wanted, hg]
  rw [if_pos hw]
  unfold Oper.wp
  simp [execOp, hop, resolve, invoke, builtin, hm, hrun, Result.andThen]
  exact hK

/-- A struct of two cells in a new block. -/
theorem box2 (w : World) (x y : Value) (t : TypeId) : (w.alloc (.cells #[x, y] t)).cell? ⟨w.heap.size, 0, none⟩ = some x ∧ (w.alloc (.cells #[x, y] t)).cell? ⟨w.heap.size, 1, none⟩ = some y :=
  ⟨cell_of_heap (heap_alloc_new w (.cells #[x, y] t)) 0, cell_of_heap (heap_alloc_new w (.cells #[x, y] t)) 1⟩

/-! ### The types of keys -/

/-- A place of a page: the name of its file, and where it begins. -/
abbrev Place := { x : ByteArray × Int // x.1.size ≤ maxLen ∧ -9223372036854775808 ≤ x.2 ∧ x.2 ≤ 9223372036854775807 }

@[reducible] def encP (x : Place) : Value := .agg #[.string x.1.1, .int .i64 x.1.2]
def litsP (x : Place) : List Lit := [.string x.1.1.data.toList, .int .i64 x.1.2]
def litP (x : Place) : Lit := .string (keyBytes (litsP x))

@[reducible] def kP : KT Place := { enc := encP, fc := fun x n => #[.string x.1.1, .int .i64 x.1.2, .int .i64 n], lit := litP, ok := fun _ => True, tk := 54, tf := 101, tc := 93 }

theorem keyedP : Keyed Try.prog 54 := Keyed.of_law (deep_law_laid (m := 8) (by kernel_rfl) (by decide) (of_decide_eq_true (by kernel_rfl)) (by kernel_rfl) (by kernel_rfl))

/-- The boxes of a pointer to a cache and of a key, as a method lays them. -/
@[reducible] def boxes (w : World) (p : Nat) (k : Place) : World := (w.alloc (.cells #[.pointer (some ⟨p, 0, none⟩)] 51)).alloc (.cells #[.string k.1.1, .int .i64 k.1.2] 54)
theorem boxes_at (w : World) (p : Nat) (k : Place) : (boxes w p k).cell? ⟨w.heap.size, 0, none⟩ = some (.pointer (some ⟨p, 0, none⟩)) ∧ (boxes w p k).cell? ⟨w.heap.size + 1, 0, none⟩ = some (.string k.1.1) ∧ (boxes w p k).cell? ⟨w.heap.size + 1, 1, none⟩ = some (.int .i64 k.1.2) ∧ Below w.heap.size w (boxes w p k) := by
  have e : (w.alloc (.cells #[.pointer (some ⟨p, 0, none⟩)] 51)).heap.size = w.heap.size + 1 := by simp
  have b := box2 (w.alloc (.cells #[.pointer (some ⟨p, 0, none⟩)] 51)) (.string k.1.1) (.int .i64 k.1.2) 54
  rw [e] at b
  refine ⟨?_, b.1, b.2, ((Below.refl _ w).alloc (Nat.le_refl _) _).alloc (by simp) _⟩
  exact ((Kept.refl [] _).alloc _).cell (cell_of_heap (heap_alloc_new w (.cells #[.pointer (some ⟨p, 0, none⟩)] 51)) 0) (by simp)

theorem lits_str (d : Nat) (s : ByteArray) (h : s.size ≤ maxLen) : Try.prog.keyLits (d + 1) 9 [.string s] = some [.string s.data.toList] := by
  unfold Program.keyLits
  simp [Try.underlying9, h]
theorem lits_int (d : Nat) (n : Int) (h : (Lit.int .i64 n).wf = true) : Try.prog.keyLits (d + 1) 3 [.int .i64 n] = some [.int .i64 n] := by
  unfold Program.keyLits
  simp [Try.underlying3, h]
theorem Try.sizeP : Try.prog.types.size = 172 + 2 := by kernel_rfl
theorem Try.cellsP : Try.prog.cellsOf 54 = 2 ∧ Try.prog.cellsOf 9 = 1 ∧ Try.prog.cellsOf 3 = 1 := ⟨by kernel_rfl, by kernel_rfl, by kernel_rfl⟩
theorem Try.keyTypeP : Try.prog.keyType 54 = true := by kernel_rfl

theorem keyP (k : Place) (_ : kP.ok k) : keyOf Try.prog 54 (encP k) = some (litP k) := by
  obtain ⟨⟨s, n⟩, h1, h2, h3⟩ := k
  have hw : (Lit.int .i64 n).wf = true := by
    have hmin : IntKind.i64.min = -9223372036854775808 := rfl
    have hmax : IntKind.i64.max = 9223372036854775807 := rfl
    simp only [Lit.wf, Bool.and_eq_true, decide_eq_true_eq]
    simp only at h2 h3
    omega
  have hf : (Value.agg #[.string s, .int .i64 n]).formed Try.prog 54 = true := by
    simp [Value.formed, Try.underlying54, Try.cellsP.1]
  have hl : Try.prog.keyLits (Try.prog.types.size + 1) 54 [.string s, .int .i64 n] = some [.string s.data.toList, .int .i64 n] := by
    rw [Try.sizeP]
    unfold Program.keyLits
    simp [Try.underlying54, Try.cellsP, lits_str _ s h1, lits_int _ n hw]
  unfold keyOf
  rw [Try.underlying54]
  simp only [encP, Try.keyTypeP, hf, Bool.and_self, if_true]
  show (Try.prog.keyLits (Try.prog.types.size + 1) 54 [.string s, .int .i64 n]).map _ = _
  rw [hl]
  rfl

theorem injP (x y : Place) (h : kP.lit x = kP.lit y) : x = y := by
  have hx := keyP x trivial
  have hy := keyP y trivial
  rw [show litP x = litP y from h] at hx
  have := keyedP.inj hx hy
  obtain ⟨⟨a, b⟩, hab⟩ := x
  obtain ⟨⟨c, d⟩, hcd⟩ := y
  simp [encP] at this
  obtain ⟨rfl, rfl⟩ := this
  rfl
theorem litP_key (x : Place) : WideAt.IsKeyLit (kP.lit x) := by trivial

end Go.Proofs.Ytbhjdcoehgajcaa.L

namespace Go.Proofs.Ytbhjdcoehgajcaa.L
open Go.RowKit Go.Maps

section
variable {α : Type} [DecidableEq α]

def Fr.ab (e : Fr α) : α × Nat := (e.key, e.pins)

def lookA (l : List (α × Nat)) (k : α) : Option Nat := (l.find? (fun x => decide (x.1 = k))).map (fun x => x.2)
def delA (l : List (α × Nat)) (k : α) : List (α × Nat) := l.filter (fun x => !decide (x.1 = k))
def setA (l : List (α × Nat)) (k : α) (n : Nat) : List (α × Nat) := l.map (fun x => if x.1 = k then (k, n) else x)
def firstA (l : List (α × Nat)) : Option α := (l.find? (fun x => decide (x.2 = 0))).map (fun x => x.1)

def pinA (l : List (α × Nat)) (k : α) : Int × List (α × Nat) :=
  match lookA l k with
  | none => (4, l)
  | some n => (0, setA l k (n + 1))
def unpinA (l : List (α × Nat)) (k : α) : Int × List (α × Nat) :=
  match lookA l k with
  | none => (4, l)
  | some n => if n = 0 then (9, l) else (0, setA l k (n - 1))
def dropA (l : List (α × Nat)) (k : α) : Int × List (α × Nat) :=
  match lookA l k with
  | none => (4, l)
  | some n => if n = 0 then (0, delA l k) else (9, l)
def useA (fr : Int) (l : List (α × Nat)) (k : α) : Option α × Int × List (α × Nat) :=
  match lookA l k with
  | some n => (none, 0, delA l k ++ [(k, n)])
  | none =>
    if fr ≤ (l.length : Int) then
      match firstA l with
      | none => (none, 8, l)
      | some k0 => (some k0, 0, delA l k0 ++ [(k, 0)])
    else (none, 0, l ++ [(k, 0)])

theorem lookA_none {es : List (Fr α)} {k : α} (h : lookA (es.map Fr.ab) k = none) : ∀ e ∈ es, e.key ≠ k := by
  intro e he
  unfold lookA at h
  rw [Option.map_eq_none_iff] at h
  have h1 := List.find?_eq_none.1 h e.ab (List.mem_map.2 ⟨e, he, rfl⟩)
  exact fun heq => h1 (decide_eq_true (p := e.ab.1 = k) heq)

theorem lookA_some {es : List (Fr α)} {k : α} {n : Nat} (h : lookA (es.map Fr.ab) k = some n) : ∃ ds e rs, es = ds ++ e :: rs ∧ e.key = k ∧ e.pins = n := by
  unfold lookA at h
  obtain ⟨x, hx, rfl⟩ := Option.map_eq_some_iff.1 h
  have h1 := List.mem_of_find?_eq_some hx
  have h2 := List.find?_some hx
  obtain ⟨e, he, rfl⟩ := List.mem_map.1 h1
  obtain ⟨ds, rs, rfl⟩ := List.append_of_mem he
  exact ⟨ds, e, rs, rfl, of_decide_eq_true (p := e.ab.1 = k) h2, rfl⟩

theorem delA_ab {ds rs : List (Fr α)} {e : Fr α} (hnd : ((ds ++ e :: rs).map Fr.key).Nodup) : delA ((ds ++ e :: rs).map Fr.ab) e.key = (ds ++ rs).map Fr.ab := by
  rw [List.map_append, List.map_cons, List.nodup_append, List.nodup_cons] at hnd
  have hd : ∀ l : List (Fr α), (∀ x ∈ l, x.key ≠ e.key) → (l.map Fr.ab).filter (fun x => !decide (x.1 = e.key)) = l.map Fr.ab := fun l hl => by
    refine List.filter_eq_self.2 fun x hx => ?_
    obtain ⟨y, hy, rfl⟩ := List.mem_map.1 hx
    show (!decide (y.ab.1 = e.key)) = true
    rw [decide_eq_false (p := y.ab.1 = e.key) (hl y hy)]
    rfl
  unfold delA
  rw [List.map_append, List.map_cons, List.filter_append, List.filter_cons, List.map_append, hd ds (fun x hx heq => hnd.2.2 _ (List.mem_map.2 ⟨x, hx, rfl⟩) _ (List.mem_cons_self ..) heq), hd rs (fun x hx heq => hnd.2.1.1 (List.mem_map.2 ⟨x, hx, heq⟩))]
  simp [Fr.ab]

theorem setA_ab {ds rs : List (Fr α)} {e : Fr α} (hnd : ((ds ++ e :: rs).map Fr.key).Nodup) (n : Nat) : setA ((ds ++ e :: rs).map Fr.ab) e.key n = (ds ++ { e with pins := n } :: rs).map Fr.ab := by
  rw [List.map_append, List.map_cons, List.nodup_append, List.nodup_cons] at hnd
  have hd : ∀ l : List (Fr α), (∀ x ∈ l, x.key ≠ e.key) → (l.map Fr.ab).map (fun x => if x.1 = e.key then (e.key, n) else x) = l.map Fr.ab := fun l hl => by
    rw [List.map_map]
    refine List.map_congr_left fun x hx => ?_
    exact if_neg (c := x.ab.1 = e.key) (hl x hx)
  unfold setA
  rw [List.map_append, List.map_cons, List.map_append, List.map_cons, hd ds (fun x hx heq => hnd.2.2 _ (List.mem_map.2 ⟨x, hx, rfl⟩) _ (List.mem_cons_self ..) heq), hd rs (fun x hx heq => hnd.2.1.1 (List.mem_map.2 ⟨x, hx, heq⟩))]
  simp [Fr.ab]

/-- A cache in memory, by what is told of it. -/
def Ck (κ : KT α) (w : World) (fp : List Nat) (p : Nat) (fr : Int) (N : Nat) (l : List (α × Nat)) : Prop :=
  ∃ bh bl us es, CacheAt κ w p bh bl fr us es ∧ us ≤ N ∧ fp = feet p bh bl es ∧ l = es.map Fr.ab

/-- What an operation leaves. -/
def Outc (κ : KT α) (w w' : World) (fp : List Nat) (p : Nat) (fr : Int) (N : Nat) (l : List (α × Nat)) : Prop :=
  ∃ fp', Ck κ w' fp' p fr N l ∧ Kept fp w w' ∧ Newly w fp fp'

variable {κ : KT α} {w w' : World} {fp : List Nat} {p : Nat} {fr : Int} {N : Nat} {l : List (α × Nat)}

theorem Ck.mono (h : Ck κ w fp p fr N l) {M : Nat} (hM : N ≤ M) : Ck κ w fp p fr M l := by
  obtain ⟨bh, bl, us, es, h1, h2, h3⟩ := h
  exact ⟨bh, bl, us, es, h1, Nat.le_trans h2 hM, h3⟩

theorem Ck.lt (h : Ck κ w fp p fr N l) : ∀ x ∈ fp, x < w.heap.size := by
  obtain ⟨bh, bl, us, es, h1, h2, rfl, rfl⟩ := h
  exact h1.lt

theorem Ck.kept {fp2 : List Nat} (h : Ck κ w fp p fr N l) (hk : Kept fp2 w w') (hf : ∀ x ∈ fp, x ∉ fp2) : Ck κ w' fp p fr N l := by
  obtain ⟨bh, bl, us, es, h1, h2, rfl, rfl⟩ := h
  exact ⟨bh, bl, us, es, h1.kept hk hf, h2, rfl, rfl⟩

theorem Ck.below (h : Ck κ w fp p fr N l) (hb : Below w.heap.size w w') : Ck κ w' fp p fr N l := h.kept (fp2 := []) (Kept.of_below hb) (by simp)

theorem Ck.same (h : Ck κ w fp p fr N l) (hb : Below w.heap.size w w') : Outc κ w w' fp p fr N l := ⟨fp, h.below hb, Kept.of_below hb, Newly.refl _ _⟩

theorem Outc.mono (h : Outc κ w w' fp p fr N l) {M : Nat} (hM : N ≤ M) : Outc κ w w' fp p fr M l := by
  obtain ⟨fp', h1, h2, h3⟩ := h
  exact ⟨fp', h1.mono hM, h2, h3⟩

omit [DecidableEq α] in
theorem feet_sub {ds rs : List (Fr α)} {e : Fr α} {p bh bl : Nat} : ∀ x ∈ feet p bh bl (ds ++ rs), x ∈ feet p bh bl (ds ++ e :: rs) := by
  intro x hx
  simp only [feet, List.map_append, List.map_cons, List.mem_cons, List.mem_append] at hx ⊢
  rcases hx with h | h | h | h | h
  · exact .inl h
  · exact .inr (.inl h)
  · exact .inr (.inr (.inl h))
  · exact .inr (.inr (.inr (.inl h)))
  · exact .inr (.inr (.inr (.inr (.inr h))))

end
end Go.Proofs.Ytbhjdcoehgajcaa.L

namespace Go.Proofs.Ytbhjdcoehgajcaa.L.P
open Go.RowKit Go.Maps

theorem idle_any (p : Addr) (w : World) :
    CallsD Try.prog 82 #[.pointer (some p)] .returning w fun e u' w' => e = .returned (.tuple #[]) ∧ u' = .returning ∧ w' = w := by
  refine callsD_of_wpS Try.func82 rfl fun c₀ cs hu => ?_
  apply wpS_seq
  apply wpS_region
  simp [wpOpsS, go_sem, recoverD, hu, Try.ntmps82, Exit.thenS]
  refine wpS_cond (t := false) (by simp [Act.eval, Array.replicate]) ?_
  simp only [Bool.false_eq_true, if_false]
  refine wpS_of_wp (wp_skip ?_)
  cases c₀
  simp_all [bodyPostS, results, Try.results82]

/-- A key is the same as itself. -/
theorem findable_any (k : Place) (w : World) :
    Calls Try.prog 64 #[kP.enc k] w fun e w' => e = .returned (.bool true) ∧ Below w.heap.size w w' := by
  have hmf : ∀ (fn : Fn) (first cap : Array Value) (w : World), (Instr.makeFunc fn first cap).run Try.prog w = .ok (.func fn first cap) w := fun _ _ _ _ => rfl
  go_enter_defers Try.func64, Try.ntmps64
  go_wp2
  refine leaves_cons (f := 82) (args := #[.pointer (some ⟨w.heap.size + 1, 0, none⟩)]) (by simp) (by simp [go_sem]) ?_
  refine (idle_any ⟨w.heap.size + 1, 0, none⟩ _).mono ?_
  rintro e u' w'' ⟨rfl, rfl, rfl⟩
  have hb : Below w.heap.size w (((w.alloc (.cells #[.string k.1.1, .int .i64 k.1.2] 54)).alloc (.cells #[.bool false] 4)).setCell ⟨w.heap.size + 1, 0, none⟩ (.bool true)) := (((Below.refl _ w).alloc (Nat.le_refl _) _).alloc (by simp) _).setCell (by simp) _
  simpa [Leaves, settle, results, Try.results64, go_sem] using hb

end Go.Proofs.Ytbhjdcoehgajcaa.L.P

namespace Go.Proofs.Ytbhjdcoehgajcaa.L.P
open Go.RowKit Go.Maps

abbrev Key := Place
abbrev Cat (w : World) (p bh bl : Nat) (fr : Int) (us : Nat) (es : List (Fr Key)) : Prop := CacheAt kP w p bh bl fr us es

theorem Try.zeroPF (w : World) : (zeroValue 99).run Try.prog w = .ok (.pointer none) w := by kernel_rfl

section
variable {w w' : World} {p bh bl : Nat} {fr : Int} {us : Nat}

theorem Cat.cellAt {es : List (Fr Key)} (h : Cat w p bh bl fr us es) : w.cell? ⟨p, 0, none⟩ = some (.int .i64 fr) ∧ w.cell? ⟨p, 1, none⟩ = some (.int .u64 us) ∧ w.cell? ⟨p, 2, none⟩ = some (.map (some bh)) ∧ w.cell? ⟨p, 3, none⟩ = some (.map (some bl)) ∧ ∀ o, w.frozen? ⟨p, o, none⟩ = false := by
  have h0 := cell_of_heap h.cells 0
  have h1 := cell_of_heap h.cells 1
  have h2 := cell_of_heap h.cells 2
  have h3 := cell_of_heap h.cells 3
  simp at h0 h1 h2 h3
  exact ⟨h0, h1, h2, h3, fun o => frozen_of_heap h.cells o⟩

theorem Cat.frameAt {es : List (Fr Key)} (h : Cat w p bh bl fr us es) {e : Fr Key} (he : e ∈ es) : (w.cell? ⟨e.blk, 0, none⟩ = some (.string e.key.1.1) ∧ w.cell? ⟨e.blk, 1, none⟩ = some (.int .i64 e.key.1.2)) ∧ w.cell? ⟨e.blk, 2, none⟩ = some (.int .i64 e.pins) ∧ ∀ o, w.frozen? ⟨e.blk, o, none⟩ = false := by
  have h0 := cell_of_heap (h.frames e he) 0
  have h1 := cell_of_heap (h.frames e he) 1
  have h2 := cell_of_heap (h.frames e he) 2
  simp at h0 h1 h2
  exact ⟨⟨h0, h1⟩, h2, fun o => frozen_of_heap (h.frames e he) o⟩

/-- The frame of a use. -/
theorem Cat.held_at {es : List (Fr Key)} (h : Cat w p bh bl fr us es) {e : Fr Key} (he : e ∈ es) : (Instr.lookup 89 (.map (some bh)) (.int .u64 e.use) false).run Try.prog w = .ok (.pointer (some ⟨e.blk, 0, none⟩)) w := by
  obtain ⟨D, h1, h2⟩ := h.held
  obtain ⟨v, ps, hrun, hv⟩ := h1.lookup uKeyed Try.underlying89 (Try.zeroPF w) ptrE_none (uKey e.use (Nat.le_trans (h.up e he) (Nat.le_trans h.few (by omega))))
  rw [hrun]
  obtain ⟨ds, rs, rfl⟩ := List.append_of_mem he
  rw [h2.at_ e.use, find_at h.nd] at hv
  rw [ptrE_inv hv]

/-- The last use of a key. -/
theorem Cat.last_some {es : List (Fr Key)} (h : Cat w p bh bl fr us es) {e : Fr Key} (he : e ∈ es) : (Instr.lookup 90 (.map (some bl)) (kP.enc e.key) true).run Try.prog w = .ok (.tuple #[.int .u64 e.use, .bool true]) w := by
  obtain ⟨D, h1, h2⟩ := h.last
  obtain ⟨v, ps, hrun, hv⟩ := h1.look_ok keyedP Try.underlying90 (Try.zeroU64 w) (uElem_mk 0 (by omega)) (keyP e.key (h.ok e he))
  have hkl := h2.at_ e.key
  have hhas := h2.has e.key
  obtain ⟨ds, rs, rfl⟩ := List.append_of_mem he
  rw [find_at h.keys] at hkl hhas
  rw [hrun, hhas]
  have hkl2 : D.atKey (kP.lit e.key) (.lit (.int .u64 0)) = .lit (.int .u64 e.use) := hkl
  have hv2 : uElem v = some (D.atKey (kP.lit e.key) (.lit (.int .u64 0)), ps) := hv
  rw [hkl2] at hv2
  obtain ⟨c, rfl, hc, _⟩ := plainElem_int_inv Try.underlying91 hv2
  simp only [Prod.mk.injEq, DataW.lit.injEq, Lit.int.injEq, true_and] at hc
  rw [← hc.1]
  rfl

theorem Cat.last_none {es : List (Fr Key)} (h : Cat w p bh bl fr us es) (k : Key) (hok : kP.ok k) (hno : ∀ e ∈ es, e.key ≠ k) : (Instr.lookup 90 (.map (some bl)) (kP.enc k) true).run Try.prog w = .ok (.tuple #[.int .u64 0, .bool false]) w := by
  obtain ⟨D, h1, h2⟩ := h.last
  obtain ⟨v, ps, hrun, hv⟩ := h1.look_ok keyedP Try.underlying90 (Try.zeroU64 w) (uElem_mk 0 (by omega)) (keyP k hok)
  have hkl := h2.at_ k
  have hhas := h2.has k
  rw [find_none hno] at hkl hhas
  rw [hrun, hhas]
  have hkl2 : D.atKey (kP.lit k) (.lit (.int .u64 0)) = .lit (.int .u64 0) := hkl
  have hv2 : uElem v = some (D.atKey (kP.lit k) (.lit (.int .u64 0)), ps) := hv
  rw [hkl2] at hv2
  obtain ⟨c, rfl, hc, _⟩ := plainElem_int_inv Try.underlying91 hv2
  simp only [Prod.mk.injEq, DataW.lit.injEq, Lit.int.injEq, true_and] at hc
  rw [← hc.1]
  rfl

theorem turned_kept {w w' : World} {b : Nat} (h : w.mapTurned w' b) : Kept [b] w w' := ⟨h.grown.os, h.grown.tape, h.grown.output, h.grown.size, fun k hk hne => h.grown.block k hk (fun e => hne (by simpa using e))⟩

set_option maxRecDepth 100000 in
set_option maxHeartbeats 4000000 in
/-- take. -/
theorem take_any {ds rs : List (Fr Key)} {e : Fr Key} (h : Cat w p bh bl fr us (ds ++ e :: rs)) :
    Calls Try.prog 51 #[.pointer (some ⟨p, 0, none⟩), .int .u64 e.use] w fun x w' => x = .returned (.pointer (some ⟨e.blk, 0, none⟩)) ∧ Cat w' p bh bl fr us (ds ++ rs) ∧ Kept [bh, bl] w w' ∧ e.blk ∉ feet p bh bl (ds ++ rs) := by
  obtain ⟨_, _, c2, c3, _⟩ := h.cellAt
  obtain ⟨⟨f0, g0⟩, _, _⟩ := h.frameAt (e := e) (by simp)
  have LK := h.held_at (e := e) (by simp)
  obtain ⟨n1, n2, n3, n4⟩ := h.ne
  have n5 := n4 e (by simp)
  obtain ⟨D, hown, hD⟩ := h.held
  obtain ⟨D2, hown2, hD2⟩ := h.last
  have OW := hide hown
  have OW2 := hide hown2
  have HD := hide hD
  have HD2 := hide hD2
  have HH := hide h
  have hu : Hid (keyOf Try.prog 91 (.int .u64 e.use) = some (uLit e.use)) := uKey e.use (Nat.le_trans (h.up e (by simp)) (Nat.le_trans h.few (by omega)))
  have hk : Hid (keyOf Try.prog kP.tk (kP.enc e.key) = some (kP.lit e.key)) := keyP e.key (h.ok e (by simp))
  obtain ⟨q, hq⟩ : ∃ q, q = e.blk := ⟨_, rfl⟩
  obtain ⟨ky, hky⟩ : ∃ ky, ky = e.key := ⟨_, rfl⟩
  obtain ⟨u, hu0⟩ : ∃ u, u = e.use := ⟨_, rfl⟩
  rw [← hq] at f0 LK n5 ⊢
  rw [← hky] at f0 hk
  rw [← hq] at g0
  rw [← hky] at g0
  rw [← hu0] at LK hu ⊢
  have N := hide n5
  have EQ := hide (And.intro hq (And.intro hky hu0))
  clear hq hky hu0
  have M := hide (show bl ≠ bh ∧ p ≠ bh from ⟨Ne.symm n3, n1⟩)
  have FN := hide (fun W => findable_any ky W)
  clear h hown hown2 hD hD2 n1 n2 n3 n4 n5
  go_enter Try.func51, Try.ntmps51
  go_wp2_with (at_delete; refine wpList_delete_own _ rfl _ _ 89 91 rfl 99 uKeyed Try.underlying89 ptrE bh (ds ++ e :: rs).length D rfl OW.out _ (uLit u) rfl hu.out ?_; intro w1 o1 t1; have k1 := turned_kept t1; have c3' := k1.cell c3 (by simpa using M.out.2); have f0' := k1.cell f0 (by simpa using N.out.2.1); have g0' := k1.cell g0 (by simpa using N.out.2.1); have OW3 := hide (ownsMap_kept OW2.out k1 (by simpa using M.out.1)); have O1 := hide o1; have K1 := hide k1; clear o1 k1 t1 c3 f0 g0)
  go_wp2_with (go_at_call 64; refine (FN.out _).mono ?_; rintro x w2 ⟨rfl, b2⟩; have K2 := hide (Kept.of_below (fp := []) b2); have c3'' := K2.out.cell c3' (by simp); have f0'' := K2.out.cell f0' (by simp); have g0'' := K2.out.cell g0' (by simp); have OW4 := hide (ownsMap_kept OW3.out K2.out (by simp)); have O2 := hide (ownsMap_kept O1.out K2.out (by simp)); clear b2)
  obtain ⟨w3, r3, o3, t3⟩ := OW4.out.drew.drop keyedP Try.underlying90 hk.out 0
  have R3 := hide r3
  clear r3
  have K3 := hide (turned_kept t3)
  have O3 := hide o3
  clear o3 t3
  go_region_law (refine step_delete rfl (.tmp 25) (.tmp 29) 90 kP.tk rfl rfl bl (kP.enc ky) ?_ ?_ R3.out ?_; (simp [Act.eval]); (simp [Act.eval]))
  all_goals
  go_wp2
  go_ret
  have kk : Kept [bh, bl] w w3 := ((K1.out.mono (fp' := [bh, bl]) (by simp)).trans K2.out.drew (Newly.of_sub (by simp))).trans K3.out (Newly.of_sub (by simp))
  have o4 := ownsMap_kept O2.out.drew K3.out (by simpa using Ne.symm M.out.1)
  have hd := HD.out.del uLit_inj (OW.out.tidy uKeyed) HH.out.nd
  have hl := HD2.out.del injP (OW2.out.tidy keyedP) HH.out.keys
  have o3 := O3.out
  obtain ⟨hq, hky, hu0⟩ := EQ.out
  subst hu0 hky hq
  refine ⟨rfl, HH.out.del kk o4 hd o3 hl, kk, ?_⟩
  have hnd := HH.out.apart
  intro hmem
  simp only [feet, List.mem_cons, List.map_append, List.mem_append, List.map_cons, List.nodup_cons, List.nodup_append] at hmem hnd
  rcases hmem with h1 | h1 | h1 | (h1 | h1)
  · exact N.out.1 h1
  · exact N.out.2.1 h1
  · exact N.out.2.2 h1
  · exact hnd.2.2.2.2.2 _ h1 e.blk (by simp) rfl
  · exact hnd.2.2.2.2.1.1 h1

end
end Go.Proofs.Ytbhjdcoehgajcaa.L.P

namespace Go.Proofs.Ytbhjdcoehgajcaa.L.P
open Go.RowKit Go.Maps

section
variable {w w' : World} {p bh bl : Nat} {fr : Int} {us : Nat}

set_option maxRecDepth 100000 in
set_option maxHeartbeats 4000000 in
/-- put. -/
theorem put_any {es : List (Fr Key)} (h : Cat w p bh bl fr us es) (hfew : us + 1 ≤ 1000000) (q : Nat) (ky : Key) (n : Nat) (hb : w.heap[q]? = some (.cells (kP.fc ky n) kP.tf (0, 0))) (hq : q ∉ feet p bh bl es) (hky : ∀ x ∈ es, x.key ≠ ky) (hok : kP.ok ky) :
    Calls Try.prog 86 #[.pointer (some ⟨p, 0, none⟩), .pointer (some ⟨q, 0, none⟩)] w fun x w' => x = .returned (.tuple #[]) ∧ Cat w' p bh bl fr (us + 1) (es ++ [⟨us + 1, q, ky, n⟩]) ∧ Kept [p, bh, bl] w w' := by
  obtain ⟨_, c1, c2, c3, cf⟩ := h.cellAt
  have f0 := cell_of_heap hb 0
  simp at f0
  have f9 := cell_of_heap hb 1
  simp at f9
  obtain ⟨n1, n2, n3, n4⟩ := h.ne
  have n5 := hq
  simp only [feet, List.mem_cons, not_or] at n5
  obtain ⟨D, hown, hD⟩ := h.held
  obtain ⟨D2, hown2, hD2⟩ := h.last
  have hlen : es.length < maxLen := by have := h.len; unfold maxLen; omega
  have hz : cf 1 = cf 1 := rfl
  clear hz
  have hwr : IntKind.u64.wrap ((us : Int) + 1) = ((us + 1 : Nat) : Int) := by rw [IntKind.wrap_u64]; omega
  -- behind the count
  have k1 : Kept [p] w (w.setCell ⟨p, 1, none⟩ (.int .u64 (us + 1 : Nat))) := (Kept.refl _ w).setCell (p := ⟨p, 1, none⟩) (.inl (by simp)) _
  have hc1 : (w.setCell ⟨p, 1, none⟩ (.int .u64 (us + 1 : Nat))).heap[p]? = some (.cells #[.int .i64 fr, .int .u64 (us + 1 : Nat), .map (some bh), .map (some bl)] kP.tc (0, 0)) := by
    simpa using heap_setCell h.cells 1 (.int .u64 (us + 1 : Nat))
  have cf1 := cf 1
  obtain ⟨w1, hw1⟩ : ∃ w1, w1 = w.setCell ⟨p, 1, none⟩ (.int .u64 (us + 1 : Nat)) := ⟨_, rfl⟩
  rw [← hw1] at k1 hc1
  have OW := hide (ownsMap_kept hown k1 (by simpa using Ne.symm n1))
  have OW2 := hide (ownsMap_kept hown2 k1 (by simpa using Ne.symm n2))
  have d1 : w1.cell? ⟨p, 1, none⟩ = some (.int .u64 (us + 1 : Nat)) := by simpa using cell_of_heap hc1 1
  have d2 : w1.cell? ⟨p, 2, none⟩ = some (.map (some bh)) := by simpa using cell_of_heap hc1 2
  have d3 : w1.cell? ⟨p, 3, none⟩ = some (.map (some bl)) := by simpa using cell_of_heap hc1 3
  have g0 := k1.cell f0 (by simpa using n5.1)
  have g9 := k1.cell f9 (by simpa using n5.1)
  have hu : Hid (keyOf Try.prog 91 (.int .u64 ((us + 1 : Nat) : Int)) = some (uLit (us + 1))) := uKey (us + 1) (by omega)
  have hk : Hid (keyOf Try.prog kP.tk (kP.enc ky) = some (kP.lit ky)) := keyP ky hok
  -- the first map written
  obtain ⟨w2, r2, o2, t2⟩ := OW.out.drew.store uKeyed Try.underlying89 hlen hu.out (ptrE_some q)
  have k2 := turned_kept t2
  have e1 := k2.cell (w := w1.drew) d1 (by simpa using n1)
  have e2 := k2.cell (w := w1.drew) d2 (by simpa using n1)
  have e3 := k2.cell (w := w1.drew) d3 (by simpa using n1)
  have e0 := k2.cell (w := w1.drew) g0 (by simpa using n5.2.1)
  have e9 := k2.cell (w := w1.drew) g9 (by simpa using n5.2.1)
  have OW3 := hide (ownsMap_kept OW2.out.drew k2 (by simpa using Ne.symm n3))
  have O2 := hide o2
  have K1 := hide k1
  have K2 := hide k2
  have HC := hide hc1
  have HH := hide h
  have HD := hide hD
  have HD2 := hide hD2
  have HB := hide hb
  have HQ := hide hq
  have HKY := hide hky
  have HOK := hide hok
  have HT := hide (And.intro (hown.tidy uKeyed) (hown2.tidy keyedP))
  have HU : Hid (uElem (.int .u64 ((us + 1 : Nat) : Int)) = some (.lit (.int .u64 ((us + 1 : Nat) : Int)), [])) := uElem_mk (us + 1) (by omega)
  have HL := hide hlen
  have HF := hide hfew
  have NE := hide (And.intro n1 (And.intro n2 (And.intro n3 n5)))
  have FN := hide (fun W => findable_any ky W)
  have HW := hide hw1
  generalize hU : ((us + 1 : Nat) : Int) = U at *
  have HE := hide hU.symm
  clear hU
  clear h hD hD2 hown hown2 o2 t2 k1 k2 hc1 hb hq hky hok hlen hfew n1 n2 n3 n4 n5 cf c2 c3 f0 hw1 f9
  go_enter Try.func86, Try.ntmps86
  go_wp2
  rw [← HW.out]
  go_region_held (fun W => W.cell? ⟨p, 2, none⟩ = some (.map (some bh)) ∧ W.cell? ⟨p, 1, none⟩ = some (.int .u64 U)) (go_keep) (fail)
  all_goals
  clear r2
  go_wp2_with (go_at_call 64; refine (FN.out _).mono ?_; rintro x w3 ⟨rfl, b3⟩; have K3 := hide (Kept.of_below (fp := []) b3); have e1' := K3.out.cell e1 (by simp); have e3' := K3.out.cell e3 (by simp); have e0' := K3.out.cell e0 (by simp); have e9' := K3.out.cell e9 (by simp); have OW4 := hide (ownsMap_kept OW3.out K3.out (by simp)); have O3 := hide (ownsMap_kept O2.out K3.out (by simp)); clear b3)
  obtain ⟨w4, r4, o4, t4⟩ := OW4.out.drew.store keyedP Try.underlying90 HL.out hk.out HU.out
  have k4 := hide (turned_kept t4)
  have O4 := hide o4
  have m1 := k4.out.cell (w := w3.drew) e1' (by simpa using NE.out.2.1)
  have m3 := k4.out.cell (w := w3.drew) e3' (by simpa using NE.out.2.1)
  have m0 := k4.out.cell (w := w3.drew) e0' (by simpa using NE.out.2.2.2.2.2.1)
  have m9 := k4.out.cell (w := w3.drew) e9' (by simpa using NE.out.2.2.2.2.2.1)
  clear o4 t4 e1 e3 e0 e9
  go_region_held (fun W => W.cell? ⟨p, 3, none⟩ = some (.map (some bl)) ∧ W.cell? ⟨p, 1, none⟩ = some (.int .u64 U) ∧ W.cell? ⟨q, 0, none⟩ = some (.string ky.1.1) ∧ W.cell? ⟨q, 1, none⟩ = some (.int .i64 ky.1.2)) (go_keep) (fail)
  all_goals
  clear r4
  go_wp2
  go_end0
  obtain ⟨n1, n2, n3, n5⟩ := NE.out
  have kk : Kept [p, bh, bl] w w4 := (((K1.out.mono (fp' := [p, bh, bl]) (by simp)).drew.trans K2.out (Newly.of_sub (fp := [p, bh, bl]) (fp' := [bh]) (by simp))).trans K3.out.drew (Newly.of_sub (by simp))).trans k4.out (Newly.of_sub (fp := [p, bh, bl]) (fp' := [bl]) (by simp))
  have o3 := ownsMap_kept O3.out.drew k4.out (by simpa using n3)
  have hc4 := k4.out.heap (w := w3.drew) (K3.out.heap (K2.out.heap (w := w1.drew) HC.out (by simpa using n1)) (by simp)) (by simpa using n2)
  have hd := HD.out.snoc (e := ⟨us + 1, q, ky, n⟩) uLit_inj uLit_key HT.out.1 (fun y hy => by have := HH.out.up y hy; simp only; omega)
  have hl := HD2.out.snoc (e := ⟨us + 1, q, ky, n⟩) injP litP_key HT.out.2 HKY.out
  have o4 := O4.out
  rw [HE.out] at hc4 o4
  exact ⟨rfl, HH.out.snoc kk rfl HF.out HB.out HQ.out HKY.out HOK.out hc4 o3 hd o4 hl, kk⟩

end
end Go.Proofs.Ytbhjdcoehgajcaa.L.P

namespace Go.Proofs.Ytbhjdcoehgajcaa.L.P
open Go.RowKit Go.Maps

section
variable {w w' : World} {p bh bl : Nat} {fr : Int} {us : Nat}

set_option maxRecDepth 100000 in
set_option maxHeartbeats 4000000 in
theorem with_none {es : List (Fr Key)} (h : Cat w p bh bl fr us es) (k : Key) (hok : kP.ok k) (hno : ∀ e ∈ es, e.key ≠ k) (f : Value) :
    Calls Try.prog 49 #[.pointer (some ⟨p, 0, none⟩), kP.enc k, f] w fun x w' => x = .returned (.int .i64 4) ∧ Below w.heap.size w w' := by
  have FN := hide (fun W => findable_any k W)
  have HA := hide (fun W (b : Below w.heap.size w W) => (Cat.cellAt (CacheAt.below h b)).2.2.2.1)
  have HB := hide (fun W (b : Below w.heap.size w W) => Cat.last_none (CacheAt.below h b) k hok hno)
  clear h hok hno
  go_enter Try.func49, Try.ntmps49
  go_wp2_with (go_at_call 64; refine (FN.out _).mono ?_; rintro x w1 ⟨rfl, b0⟩; have bx : w1.drew.cell? ⟨w.heap.size, 0, none⟩ = some (.string k.1.1) := (Kept.of_below (fp := []) b0).cell (box2 w (.string k.1.1) (.int .i64 k.1.2) 54).1 (by simp); have bz : w1.drew.cell? ⟨w.heap.size, 1, none⟩ = some (.int .i64 k.1.2) := (Kept.of_below (fp := []) b0).cell (box2 w (.string k.1.1) (.int .i64 k.1.2) 54).2 (by simp); have b1 := (below_then ((Below.refl _ w).alloc (Nat.le_refl _) (.cells #[.string k.1.1, .int .i64 k.1.2] 54)) b0).drew; clear b0; have c3 := HA.out _ b1; have LK := HB.out _ b1; have B1 := hide b1; clear b1)
  go_region_held (fun W => W.cell? ⟨p, 3, none⟩ = some (.map (some bl)) ∧ W.cell? ⟨w.heap.size, 0, none⟩ = some (.string k.1.1) ∧ W.cell? ⟨w.heap.size, 1, none⟩ = some (.int .i64 k.1.2)) (go_keep) (fail)
  all_goals
  go_wp2_with fail
  go_ret
  exact ⟨rfl, B1.out⟩

set_option maxRecDepth 100000 in
set_option maxHeartbeats 4000000 in
theorem with_some {es : List (Fr Key)} (h : Cat w p bh bl fr us es) {e : Fr Key} (he : e ∈ es) (g : Nat) (lb : Array Value) (eg : ∀ args w, (callFunc g args).run Try.prog w = .ok (.enter g args) w) (Q : Ending → World → Prop)
    (hg : ∀ w1, Below w.heap.size w w1 → Calls Try.prog g (#[.int .u64 e.use, .pointer (some ⟨e.blk, 0, none⟩)] ++ lb) w1 fun x w' => ∃ n : Int, x = .returned (.int .i64 n) ∧ Q x w') :
    Calls Try.prog 49 #[.pointer (some ⟨p, 0, none⟩), kP.enc e.key, .func (.func g) #[] lb] w Q := by
  have FN := hide (fun W => findable_any e.key W)
  have HA := hide (fun W (b : Below w.heap.size w W) => (Cat.cellAt (CacheAt.below h b)).2.2.2.1)
  have HC := hide (fun W (b : Below w.heap.size w W) => (Cat.cellAt (CacheAt.below h b)).2.2.1)
  have HB := hide (fun W (b : Below w.heap.size w W) => Cat.last_some (CacheAt.below h b) he)
  have HD := hide (fun W (b : Below w.heap.size w W) => Cat.held_at (CacheAt.below h b) he)
  have HG := hide hg
  clear h hg he
  obtain ⟨q, hq⟩ : ∃ q, q = e.blk := ⟨_, rfl⟩
  obtain ⟨ky, hky⟩ : ∃ ky, ky = e.key := ⟨_, rfl⟩
  obtain ⟨u, hu0⟩ : ∃ u, u = e.use := ⟨_, rfl⟩
  rw [← hq, ← hu0] at HD HG
  rw [← hky, ← hu0] at HB
  rw [← hky] at FN ⊢
  clear hq hky hu0
  go_enter Try.func49, Try.ntmps49
  go_wp2_with (go_at_call 64; refine (FN.out _).mono ?_; rintro x w1 ⟨rfl, b0⟩; have bx : w1.drew.cell? ⟨w.heap.size, 0, none⟩ = some (.string ky.1.1) := (Kept.of_below (fp := []) b0).cell (box2 w (.string ky.1.1) (.int .i64 ky.1.2) 54).1 (by simp); have bz : w1.drew.cell? ⟨w.heap.size, 1, none⟩ = some (.int .i64 ky.1.2) := (Kept.of_below (fp := []) b0).cell (box2 w (.string ky.1.1) (.int .i64 ky.1.2) 54).2 (by simp); have b1 := (below_then ((Below.refl _ w).alloc (Nat.le_refl _) (.cells #[.string ky.1.1, .int .i64 ky.1.2] 54)) b0).drew; clear b0; have c3 := HA.out _ b1; have c2 := HC.out _ b1; have LK := HB.out _ b1; have LH := HD.out _ b1; have B1 := hide b1; clear b1)
  go_region_held (fun W => W.cell? ⟨p, 3, none⟩ = some (.map (some bl)) ∧ W.cell? ⟨w.heap.size, 0, none⟩ = some (.string ky.1.1) ∧ W.cell? ⟨w.heap.size, 1, none⟩ = some (.int .i64 ky.1.2)) (go_keep) (fail)
  all_goals
  go_wp2_with fail
  refine (HG.out _ B1.out).mono ?_
  rintro x w2 ⟨n, rfl, hq⟩
  have HQ := hide hq
  clear hq
  go_wp2_with fail
  exact HQ.out

end
end Go.Proofs.Ytbhjdcoehgajcaa.L.P

namespace Go.Proofs.Ytbhjdcoehgajcaa.L.P
open Go.RowKit Go.Maps

/-- What is known while frames are gone through: of those that came. -/
def FirstR (es : List (Fr Key)) (left : Lit → Bool) (least : Int) (ok : Bool) : Prop :=
  (ok = false ∧ least = 0 ∧ ∀ e ∈ es, left (uLit e.use) = false → e.pins ≠ 0) ∨
  (ok = true ∧ ∃ e ∈ es, left (uLit e.use) = false ∧ e.pins = 0 ∧ least = e.use ∧ ∀ x ∈ es, left (uLit x.use) = false → x.pins = 0 → e.use ≤ x.use)

section
variable {w w' : World} {p bh bl : Nat} {fr : Int} {us : Nat}

theorem left_strike {left : Lit → Bool} {u v : Nat} : ((fun z : Lit => left z && !z.sameKey (uLit u)) (uLit v)) = false ↔ (left (uLit v) = false ∨ v = u) := by
  simp only [Bool.and_eq_false_iff, Bool.not_eq_false']
  constructor
  · rintro (h | h)
    · exact .inl h
    · by_cases e : v = u
      · exact .inr e
      · have := sameKey_ne (fun e2 => e (uLit_inj _ _ e2)) (a := uLit v) (b := uLit u)
        rw [this] at h
        cases h
  · rintro (h | rfl)
    · exact .inl h
    · exact .inr (by simp [uLit, Lit.sameKey])

theorem FirstR.skip {es : List (Fr Key)} {left : Lit → Bool} {least : Int} {ok : Bool} (h : FirstR es left least ok) (hnd : (es.map Fr.use).Nodup) {e : Fr Key} (he : e ∈ es) (hp : e.pins ≠ 0) : FirstR es (fun z => left z && !z.sameKey (uLit e.use)) least ok := by
  have huniq : ∀ x ∈ es, x.use = e.use → x = e := fun x hx hu => by
    obtain ⟨ds, rs, rfl⟩ := List.append_of_mem he
    have h1 := find_at (kf := Fr.use) hnd
    obtain ⟨ds', rs', h2⟩ := List.append_of_mem hx
    rw [h2] at hnd h1
    have h3 := find_at (kf := Fr.use) hnd
    rw [hu] at h3
    rw [h1] at h3
    exact (Option.some.inj h3).symm
  rcases h with ⟨rfl, rfl, h⟩ | ⟨rfl, e0, h0, h1, h2, rfl, h3⟩
  · refine .inl ⟨rfl, rfl, fun x hx hl => ?_⟩
    rcases left_strike.1 hl with hl | hl
    · exact h x hx hl
    · rw [huniq x hx hl]
      exact hp
  · refine .inr ⟨rfl, e0, h0, left_strike.2 (.inl h1), h2, rfl, fun x hx hl hz => ?_⟩
    rcases left_strike.1 hl with hl | hl
    · exact h3 x hx hl hz
    · rw [huniq x hx hl] at hz
      exact absurd hz hp

theorem FirstR.over {es : List (Fr Key)} {left : Lit → Bool} {least : Int} (h : FirstR es left least true) {e : Fr Key} (hu : ¬ (e.use : Int) < least) : FirstR es (fun z => left z && !z.sameKey (uLit e.use)) least true := by
  rcases h with ⟨h, _⟩ | ⟨_, e0, h0, h1, h2, rfl, h3⟩
  · cases h
  · refine .inr ⟨rfl, e0, h0, left_strike.2 (.inl h1), h2, rfl, fun x hx hl hz => ?_⟩
    rcases left_strike.1 hl with hl | hl
    · exact h3 x hx hl hz
    · omega

theorem FirstR.take {es : List (Fr Key)} {left : Lit → Bool} {least : Int} {ok : Bool} (h : FirstR es left least ok) {e : Fr Key} (he : e ∈ es) (hp : e.pins = 0) (hu : ok = true → (e.use : Int) < least) : FirstR es (fun z => left z && !z.sameKey (uLit e.use)) e.use true := by
  refine .inr ⟨rfl, e, he, left_strike.2 (.inr rfl), hp, rfl, fun x hx hl hz => ?_⟩
  rcases left_strike.1 hl with hl | hl
  · rcases h with ⟨rfl, rfl, h⟩ | ⟨rfl, e0, h0, h1, h2, rfl, h3⟩
    · exact absurd hz (h x hx hl)
    · have := h3 x hx hl hz
      have := hu rfl
      omega
  · omega

theorem ptrE_shape (v : Value) (y : DataW Unit × List MemPlace) (h : ptrE v = some y) : ∃ c : Option Nat, v = (fun c : Option Nat => Value.pointer (c.map fun b => ⟨b, 0, none⟩)) c := by
  unfold ptrE at h
  split at h
  · exact ⟨none, rfl⟩
  · split at h
    · rename_i a e
      exact ⟨some a.block, by simp only [Option.map_some]; rw [← e]⟩
    · cases h
  · cases h

set_option maxRecDepth 100000 in
set_option maxHeartbeats 4000000 in
theorem first_any {es : List (Fr Key)} (h : Cat w p bh bl fr us es) :
    Calls Try.prog 87 #[.pointer (some ⟨p, 0, none⟩)] w fun x w' => ∃ least ok, x = .returned (.tuple #[.int .u64 least, .bool ok]) ∧ FirstR es (fun _ => false) least ok ∧ Below w.heap.size w w' := by
  obtain ⟨_, _, c2, _, _⟩ := h.cellAt
  obtain ⟨D, hown, hD⟩ := h.held
  have HF := hide (fun (W : World) (k : Kept [] w W) (e : Fr Key) (he : e ∈ es) => (Cat.frameAt (CacheAt.kept h k (by simp)) he).2.1)
  have OW := hide hown
  have HD := hide hD
  have HN := hide h.nd
  have hbl := hide hown.lt
  have HFEW := hide (fun e (he : e ∈ es) => Nat.le_trans (h.up e he) h.few)
  clear h hown hD
  go_enter Try.func87, Try.ntmps87
  go_wp2_with (first | (at_range; refine wpList_range_own _ rfl _ 89 rfl 91 99 uKeyed Try.underlying89 ptrE bh es.length D rfl OW.out ?_; intro w0 hrg0 hg0 hs0) | fail)
  have hk0 : Kept [] w w0 := Kept.of_grown hg0
  have HK0 := hide hk0
  have HR0 := hide hrg0
  clear hk0 hrg0 hg0 hs0
  go_frame
  go_loopw [2, 3] (fun v2 v3 wr => ∃ (left : Lit → Bool) (cnt : Nat) (least : Int) (ok : Bool), v2 = .int .u64 least ∧ v3 = .bool ok ∧ Hid (wr.ranges Try.prog 91 ptrE bh w.heap.size es.length D left cnt) ∧ Hid (FirstR es left least ok) ∧ Hid (Kept [] w wr)) (fun _ _ wr => wr.rangeLeft bh w.heap.size)
  case atStart => exact ⟨_, _, 0, false, rfl, rfl, HR0, .inl ⟨rfl, rfl, fun e he hl => by have := HD.out.has e.use; rw [hl] at this; obtain ⟨ds, rs, rfl⟩ := List.append_of_mem he; rw [find_at HN.out] at this; cases this⟩, HK0⟩
  case round =>
    obtain ⟨left, cnt, least, ok, rfl, rfl, HR, HFR, HK⟩ := hrel
    go_wp2_with (at_next; refine wpList_next_ranges _ rfl _ rfl 91 uKeyed ptrE (Value.int .u64) (fun c : Option Nat => Value.pointer (c.map fun b => ⟨b, 0, none⟩)) (fun key kl hk => by obtain ⟨x, rfl, _⟩ := Maps.keyOf_int_inv Try.underlying91 hk; exact ⟨x, rfl⟩) ptrE_shape bh w.heap.size es.length D left cnt rfl HR.out ?_ ?_)
    · intro hc0 hl0
      have HL0 := hide hl0
      clear hc0 hl0
      go_wp2
      go_ret2
      have e : left = fun _ => false := funext HL0.out
      rw [e] at HFR
      exact ⟨least, ok, rfl, HFR.out, HK.out.below (Nat.le_refl _) (by simp)⟩
    · intro x c kl yd yp w2 cnt2 hkey hlk hv hat hrg2 hlt hg2 hs2 hen
      obtain ⟨x', ex, rfl, hwf⟩ := Maps.keyOf_int_inv Try.underlying91 hkey
      cases ex
      obtain ⟨u, rfl⟩ : ∃ u : Nat, x = u := ⟨x.toNat, by
        have hmin : IntKind.u64.min = 0 := rfl
        simp only [Lit.wf, Bool.and_eq_true, decide_eq_true_eq] at hwf
        omega⟩
      have h1 := hat .nil
      have h2 := HD.out.at_ u
      rw [show D.atKey (uLit u) .nil = yd from h1] at h2
      have h3 := HD.out.has u
      rw [has_true_of_atKey (k := uLit u) hat] at h3
      obtain ⟨e, he⟩ := Option.isSome_iff_exists.1 h3.symm
      rw [he] at h2
      obtain ⟨hmem, rfl⟩ := find_some he
      simp only at h2
      subst h2
      have hc := ptrE_inv hv
      obtain rfl : c = some e.blk := by
        cases c with
        | none => simp at hc
        | some b => simpa using hc
      have hk2 : Kept [] w w2 := HK.out.trans (Kept.of_grown hg2) (fun z hz => by simp at hz; subst hz; exact .inr (Nat.le_refl _))
      have f1 := HF.out w2 hk2 e hmem
      have HK2 := hide hk2
      have HR2 := hide hrg2
      have HLT : Hid (w2.rangeLeft bh w.heap.size < wr.rangeLeft bh w.heap.size) := by rw [hrg2.left_eq, HR.out.left_eq]; exact hlt
      have HE := hide hmem
      simp only [Option.map_some] at hen ⊢
      clear h1 h3 he hmem hc hk2 hrg2 hlt hkey hlk hv hat hg2 hs2 hwf HR
      obtain ⟨q, hq⟩ : ∃ q, q = e.blk := ⟨_, rfl⟩
      obtain ⟨un, hun⟩ : ∃ un, un = e.use := ⟨_, rfl⟩
      obtain ⟨pn, hpn⟩ : ∃ pn, pn = e.pins := ⟨_, rfl⟩
      rw [← hq] at f1 hen ⊢
      rw [← hun] at hen HR2 ⊢
      rw [← hpn] at f1
      have EQ := hide (And.intro hun hpn)
      clear hq hun hpn
      by_cases hz : pn = 0
      · subst hz
        have FT := hide (fun hu => HFR.out.take HE.out EQ.out.2.symm hu)
        rw [← EQ.out.1] at FT
        cases ok with
        | false =>
          go_wp2
          go_roundw
          case rel => exact ⟨_, cnt2, un, true, rfl, rfl, HR2, FT.out (fun h => by cases h), HK2⟩
          case measure => exact HLT.out
        | true =>
          by_cases hlt : (un : Int) < least
          · go_wp2
            go_roundw
            case rel => exact ⟨_, cnt2, un, true, rfl, rfl, HR2, FT.out (fun _ => hlt), HK2⟩
            case measure => exact HLT.out
          · have FO := hide (HFR.out.over (e := e) (by rw [← EQ.out.1]; exact hlt))
            rw [← EQ.out.1] at FO
            go_wp2
            go_roundw
            case rel => exact ⟨_, cnt2, least, true, rfl, rfl, HR2, FO.out, HK2⟩
            case measure => exact HLT.out
      · have FS := hide (HFR.out.skip HN.out HE.out (by rw [← EQ.out.2]; exact hz))
        rw [← EQ.out.1] at FS
        have hz2 : ((pn : Int) == 0) = false := by simpa using hz
        go_wp2
        go_roundw
        case rel => exact ⟨_, cnt2, least, ok, rfl, rfl, HR2, FS.out, HK2⟩
        case measure => exact HLT.out

end
end Go.Proofs.Ytbhjdcoehgajcaa.L.P

namespace Go.Proofs.Ytbhjdcoehgajcaa.L.P
open Go.RowKit Go.Maps

section
variable {w w' : World} {p bh bl : Nat} {fr : Int} {us : Nat}

set_option maxRecDepth 100000 in
set_option maxHeartbeats 4000000 in
theorem use1_any {ds rs : List (Fr Key)} {e : Fr Key} (h : Cat w p bh bl fr us (ds ++ e :: rs)) (hfew : us + 1 ≤ 1000000) (B : Nat) (hc : w.cell? ⟨B, 0, none⟩ = some (.pointer (some ⟨p, 0, none⟩))) (hB : B ∉ feet p bh bl (ds ++ e :: rs)) (q : Value) :
    Calls Try.prog 85 #[.int .u64 e.use, q, .pointer (some ⟨B, 0, none⟩)] w fun x w' => x = .returned (.int .i64 0) ∧ Cat w' p bh bl fr (us + 1) (ds ++ rs ++ [⟨us + 1, e.blk, e.key, e.pins⟩]) ∧ Kept [p, bh, bl] w w' := by
  replace h : Cat w.drew p bh bl fr us (ds ++ e :: rs) := CacheAt.kept (fp := []) h (Kept.refl _ w).drew (by simp)
  have T := hide (take_any h)
  have hB2 := hB
  simp only [feet, List.mem_cons, not_or] at hB2
  have P := hide (fun W (k : Kept [bh, bl] w.drew W) (c : Cat W p bh bl fr us (ds ++ rs)) (hn : e.blk ∉ feet p bh bl (ds ++ rs)) => put_any c hfew e.blk e.key e.pins (k.heap (h.frames e (by simp)) (by have := h.ne.2.2.2 e (by simp); simp [this.2.1, this.2.2])) hn (fun x hx heq => by
    have hnd := h.keys
    rw [List.map_append, List.map_cons, List.nodup_append, List.nodup_cons] at hnd
    rcases List.mem_append.1 hx with hx | hx
    · exact hnd.2.2 _ (List.mem_map.2 ⟨x, hx, rfl⟩) _ (List.mem_cons_self ..) heq
    · exact hnd.2.1.1 (List.mem_map.2 ⟨x, hx, heq⟩)) (h.ok e (by simp)))
  have HB := hide hB2
  clear h hB hB2 hfew
  obtain ⟨u, hu⟩ : ∃ u, u = e.use := ⟨_, rfl⟩
  rw [← hu] at T ⊢
  obtain ⟨b, hb⟩ : ∃ b, b = e.blk := ⟨_, rfl⟩
  rw [← hb] at T P ⊢
  clear hu hb
  go_enter Try.func85, Try.ntmps85
  go_wp2
  go_region_held (fun W => W.cell? ⟨B, 0, none⟩ = some (.pointer (some ⟨p, 0, none⟩))) (go_keep) (first | (go_at_call 51; refine T.out.mono ?_; rintro x w1 ⟨rfl, c1, k1, n1⟩; have hc1 := k1.cell (w := w.drew) hc (by simp [HB.out.2.1, HB.out.2.2.1]); have PP := hide (P.out w1 k1 c1 n1); have K1 := hide k1; clear k1 c1 n1) | (go_at_call 86; refine PP.out.mono ?_; rintro x w2 ⟨rfl, c2, k2⟩; have hc2 := k2.cell hc1 (by simp [HB.out.1, HB.out.2.1, HB.out.2.2.1]); have C2 := hide c2; have K2 := hide k2; clear c2 k2))
  all_goals
  go_wp2
  go_ret
  exact ⟨rfl, C2.out, ((Kept.refl [p, bh, bl] w).drew.trans (K1.out.mono (fp' := [p, bh, bl]) (by simp)) (Newly.refl _ _)).trans K2.out (Newly.refl _ _)⟩

set_option maxRecDepth 100000 in
theorem drop1_no (u b : Value) (q n : Nat) (hc : w.cell? ⟨q, 2, none⟩ = some (.int .i64 (n + 1 : Nat))) : Calls Try.prog 50 #[u, .pointer (some ⟨q, 0, none⟩), b] w fun x w' => x = .returned (.int .i64 9) ∧ w' = w := by
  have hne : 0 < (((n + 1 : Nat) : Int)) := by omega
  generalize ((n + 1 : Nat) : Int) = M at *
  go_enter Try.func50, Try.ntmps50
  go_wp2
  go_ret
  exact ⟨rfl, rfl⟩

set_option maxRecDepth 100000 in
set_option maxHeartbeats 4000000 in
theorem drop1_go {ds rs : List (Fr Key)} {e : Fr Key} (h : Cat w p bh bl fr us (ds ++ e :: rs)) (hz : e.pins = 0) (B : Nat) (hc : w.cell? ⟨B, 0, none⟩ = some (.pointer (some ⟨p, 0, none⟩))) :
    Calls Try.prog 50 #[.int .u64 e.use, .pointer (some ⟨e.blk, 0, none⟩), .pointer (some ⟨B, 0, none⟩)] w fun x w' => x = .returned (.int .i64 0) ∧ Cat w' p bh bl fr us (ds ++ rs) ∧ Kept [bh, bl] w w' := by
  have T := hide (take_any h)
  have f1 := (h.frameAt (e := e) (by simp)).2.1
  rw [hz] at f1
  clear h hz
  obtain ⟨u, hu⟩ : ∃ u, u = e.use := ⟨_, rfl⟩
  rw [← hu] at T ⊢
  obtain ⟨b, hb⟩ : ∃ b, b = e.blk := ⟨_, rfl⟩
  rw [← hb] at T f1 ⊢
  clear hu hb
  go_enter Try.func50, Try.ntmps50
  go_wp2_with (go_at_call 51; refine T.out.mono ?_; rintro x w1 ⟨rfl, c1, k1, n1⟩; have C1 := hide c1; have K1 := hide k1; clear k1 c1 n1)
  go_ret
  exact ⟨rfl, C1.out, K1.out⟩

end
end Go.Proofs.Ytbhjdcoehgajcaa.L.P

namespace Go.Proofs.Ytbhjdcoehgajcaa.L.P
open Go.RowKit Go.Maps

theorem Try.mf (fn : Fn) (first cap : Array Value) (w : World) : (Instr.makeFunc fn first cap).run Try.prog w = .ok (.func fn first cap) w := rfl

theorem eDrop : ∀ args w, (callFunc 50 args).run Try.prog w = .ok (.enter 50 args) w := enters_of Try.func50 (by kernel_rfl) rfl
theorem eUse : ∀ args w, (callFunc 85 args).run Try.prog w = .ok (.enter 85 args) w := enters_of Try.func85 (by kernel_rfl) rfl

section
variable {w w' : World} {fp : List Nat} {p : Nat} {fr : Int} {N : Nat} {l : List (Key × Nat)}



set_option maxRecDepth 100000 in
set_option maxHeartbeats 4000000 in
theorem drop_any (h : Ck kP w fp p fr N l) (k : Key) (hok : kP.ok k) :
    Calls Try.prog 35 #[.pointer (some ⟨p, 0, none⟩), kP.enc k] w fun x w' => x = .returned (.int .i64 (dropA l k).1) ∧ Outc kP w w' fp p fr N (dropA l k).2 := by
  have hmf := Try.mf
  have hcall : Calls Try.prog 49 #[.pointer (some ⟨p, 0, none⟩), kP.enc k, .func (.func 50) #[] #[.pointer (some ⟨w.heap.size, 0, none⟩)]] (boxes w p k) fun x w' => x = .returned (.int .i64 (dropA l k).1) ∧ Outc kP w w' fp p fr N (dropA l k).2 := by
    obtain ⟨bh, bl, us, es, c, hN, rfl, rfl⟩ := h
    have b0 : Below w.heap.size w (boxes w p k) := (boxes_at w p k).2.2.2
    have hc0 := (boxes_at w p k).1
    have c0 : Cat (boxes w p k) p bh bl fr us es := c.below b0
    have hs : w.heap.size ≤ (boxes w p k).heap.size := b0.size
    generalize boxes w p k = w0 at *
    unfold dropA
    cases hl : lookA (es.map Fr.ab) k with
    | none =>
      refine (with_none c0 k hok (lookA_none hl) _).mono ?_
      rintro x w' ⟨rfl, hb⟩
      exact ⟨rfl, Ck.same ⟨bh, bl, us, es, c, hN, rfl, rfl⟩ (below_then b0 hb)⟩
    | some n =>
      obtain ⟨ds, e, rs, rfl, rfl, rfl⟩ := lookA_some hl
      refine with_some c0 (e := e) (by simp) _ _ eDrop _ fun w1 b1 => ?_
      have c1 : Cat w1 p bh bl fr us (ds ++ e :: rs) := CacheAt.below c0 b1
      have hc1 := (Kept.of_below (fp := []) b1).cell hc0 (by simp)
      have b2 := below_then b0 b1
      obtain ⟨_, f1, _⟩ := Cat.frameAt c1 (e := e) (by simp)
      by_cases hz : e.pins = 0
      · refine (drop1_go c1 hz w.heap.size hc1).mono ?_
        rintro x w2 ⟨rfl, c2, k2⟩
        refine ⟨0, rfl, ?_⟩
        simp only [hz, if_true]
        refine ⟨trivial, _, ⟨bh, bl, us, _, c2, hN, rfl, delA_ab c.keys⟩, (Kept.of_below (fp := feet p bh bl (ds ++ e :: rs)) b2).trans k2 (Newly.of_sub (by simp [feet])), Newly.of_sub feet_sub⟩
      · have hp : e.pins - 1 + 1 = e.pins := by omega
        rw [← hp] at f1
        refine (drop1_no (.int .u64 e.use) (.pointer (some ⟨w.heap.size, 0, none⟩)) e.blk (e.pins - 1) f1).mono ?_
        rintro x w2 ⟨rfl, rfl⟩
        refine ⟨9, rfl, ?_⟩
        simp only [hz, if_false]
        exact ⟨trivial, Ck.same ⟨bh, bl, us, _, c, hN, rfl, rfl⟩ b2⟩
  have HC := hide hcall
  clear hcall h hok
  generalize dropA l k = A at *
  obtain ⟨r, l'⟩ := A
  go_enter Try.func35, Try.ntmps35
  go_wp2_with (go_at_call 49; refine HC.out.mono ?_; rintro x w1 ⟨rfl, o1⟩; have O1 := hide o1; clear o1)
  go_ret
  exact ⟨rfl, O1.out⟩

end
end Go.Proofs.Ytbhjdcoehgajcaa.L.P

namespace Go.Proofs.Ytbhjdcoehgajcaa.L.P
open Go.RowKit Go.Maps

theorem FirstR.none {es : List (Fr Key)} {least : Int} (h : FirstR es (fun _ => false) least false) : firstA (es.map Fr.ab) = none := by
  rcases h with ⟨_, _, h⟩ | ⟨h, _⟩
  · unfold firstA
    rw [Option.map_eq_none_iff, List.find?_eq_none]
    intro x hx
    obtain ⟨e, he, rfl⟩ := List.mem_map.1 hx
    exact fun hd => h e he rfl (of_decide_eq_true (p := e.ab.2 = 0) hd)
  · cases h

theorem FirstR.some {es : List (Fr Key)} {least : Int} (h : FirstR es (fun _ => false) least true) (hs : (es.map Fr.use).Pairwise (· < ·)) : ∃ ds e rs, es = ds ++ e :: rs ∧ least = e.use ∧ firstA (es.map Fr.ab) = some e.key := by
  rcases h with ⟨h, _⟩ | ⟨_, e, he, _, hz, hl, hm⟩
  · cases h
  · obtain ⟨ds, rs, rfl⟩ := List.append_of_mem he
    refine ⟨ds, e, rs, rfl, hl, ?_⟩
    rw [List.map_append, List.map_cons, List.pairwise_append] at hs
    unfold firstA
    rw [List.map_append, List.map_cons, List.find?_append, List.find?_eq_none.2, List.find?_cons]
    · simp [Fr.ab, hz]
    · intro x hx
      obtain ⟨y, hy, rfl⟩ := List.mem_map.1 hx
      intro hd
      have hz2 : y.pins = 0 := of_decide_eq_true (p := y.ab.2 = 0) hd
      have h1 := hm y (by simp [hy]) rfl hz2
      have h2 := hs.2.2 y.use (List.mem_map.2 ⟨y, hy, rfl⟩) e.use (by simp)
      omega

/-- The key that went, as it is told. -/
def goneV (o : Option Key) : Value := match o with | none => .agg #[.string ⟨#[]⟩, .int .i64 0] | some k => kP.enc k

/-- What Use hands out. -/
theorem useRes (tmps : Array Value) (w : World) (b : Nat) (s : ByteArray) (n : Int) (h4 : tmps.getD 4 undef = .pointer (some ⟨b, 0, none⟩)) (hb : w.heap[b]? = some (.cells #[.string s, .int .i64 n] 54 (0, 0))) :
    (results Try.f70 tmps).run Try.prog w = .ok (.tuple #[.agg #[.string s, .int .i64 n], tmps.getD 5 undef, tmps.getD 6 undef]) w := by
  have g0 := cell_of_heap hb 0
  have g1 := cell_of_heap hb 1
  simp at g0 g1
  have h4' : tmps[4]?.getD undef = .pointer (some ⟨b, 0, none⟩) := by simpa using h4
  simp [results, Try.results70, go_sem, h4', g0, g1]

theorem feet_turn {ds rs : List (Fr Key)} {e : Fr Key} {p bh bl u n : Nat} {k : Key} : ∀ x ∈ feet p bh bl (ds ++ rs ++ [⟨u, e.blk, k, n⟩]), x ∈ feet p bh bl (ds ++ e :: rs) := by
  intro x hx
  simp only [feet, List.map_append, List.map_cons, List.map_nil, List.mem_cons, List.mem_append, List.not_mem_nil, or_false] at hx ⊢
  rcases hx with h | h | h | (h | h) | h
  · exact .inl h
  · exact .inr (.inl h)
  · exact .inr (.inr (.inl h))
  · exact .inr (.inr (.inr (.inl h)))
  · exact .inr (.inr (.inr (.inr (.inr h))))
  · exact .inr (.inr (.inr (.inr (.inl h))))

/-- The boxes of Use: a pointer to the cache, the key, what has to go. -/
@[reducible] def boxes3 (w : World) (p : Nat) (k : Place) : World := (boxes w p k).alloc (.cells #[.string ⟨#[]⟩, .int .i64 0] 54)
theorem boxes3_at (w : World) (p : Nat) (k : Place) : (boxes3 w p k).cell? ⟨w.heap.size, 0, none⟩ = some (.pointer (some ⟨p, 0, none⟩)) ∧ (boxes3 w p k).cell? ⟨w.heap.size + 1, 0, none⟩ = some (.string k.1.1) ∧ (boxes3 w p k).cell? ⟨w.heap.size + 1, 1, none⟩ = some (.int .i64 k.1.2) ∧
    (boxes3 w p k).heap[w.heap.size + 1 + 1]? = some (.cells #[.string ⟨#[]⟩, .int .i64 0] 54 (0, 0)) ∧ Below w.heap.size w (boxes3 w p k) := by
  obtain ⟨h0, h1, h2, h3⟩ := boxes_at w p k
  have e : (boxes w p k).heap.size = w.heap.size + 2 := by simp
  have b := heap_alloc_new (boxes w p k) (.cells #[.string ⟨#[]⟩, .int .i64 0] 54)
  rw [e] at b
  have K : Kept [] (boxes w p k) (boxes3 w p k) := (Kept.refl [] _).alloc _
  exact ⟨K.cell h0 (by simp), K.cell h1 (by simp), K.cell h2 (by simp), b, h3.alloc (by rw [e]; omega) _⟩

section
variable {w w' : World} {fp : List Nat} {p : Nat} {fr : Int} {N : Nat} {l : List (Key × Nat)}

set_option maxRecDepth 100000 in
set_option maxHeartbeats 4000000 in
theorem use_there {bh bl us : Nat} {ds rs : List (Fr Key)} {e : Fr Key} (c : Cat w p bh bl fr us (ds ++ e :: rs)) (hfew : us + 1 ≤ 1000000) (k : Place) (hek : e.key = k) :
    Calls Try.prog 70 #[.pointer (some ⟨p, 0, none⟩), kP.enc k] w fun x w' => x = .returned (.tuple #[goneV none, .bool false, .int .i64 0]) ∧ Cat w' p bh bl fr (us + 1) (ds ++ rs ++ [⟨us + 1, e.blk, e.key, e.pins⟩]) ∧ Kept [p, bh, bl] w w' := by
  have hmf := Try.mf
  have hcall : Calls Try.prog 49 #[.pointer (some ⟨p, 0, none⟩), kP.enc k, .func (.func 85) #[] #[.pointer (some ⟨w.heap.size, 0, none⟩)]] (boxes3 w p k) fun x w' => x = .returned (.int .i64 0) ∧ (Cat w' p bh bl fr (us + 1) (ds ++ rs ++ [⟨us + 1, e.blk, e.key, e.pins⟩]) ∧ Kept [p, bh, bl] w w') ∧ w'.heap[w.heap.size + 1 + 1]? = some (.cells #[.string ⟨#[]⟩, .int .i64 0] 54 (0, 0)) := by
    have b0 : Below w.heap.size w (boxes3 w p k) := (boxes3_at w p k).2.2.2.2
    obtain ⟨hc0, hc1, hc2, hc3, _⟩ := boxes3_at w p k
    have lts := c.lt
    have c0 : Cat (boxes3 w p k) p bh bl fr us (ds ++ e :: rs) := c.below b0
    generalize boxes3 w p k = w0 at *
    subst hek
    refine with_some c0 (e := e) (by simp) _ _ eUse _ fun w1 b1 => ?_
    have c1 : Cat w1 p bh bl fr us (ds ++ e :: rs) := CacheAt.below c0 b1
    have hd1 := (Kept.of_below (fp := []) b1).cell hc0 (by simp)
    refine (use1_any c1 hfew w.heap.size hd1 (fun hm => by have := c.lt _ hm; omega) (.pointer (some ⟨e.blk, 0, none⟩))).mono ?_
    rintro x w2 ⟨rfl, c2, k2⟩
    have n2 : w.heap.size + 2 ∉ [p, bh, bl] := fun hm => by have := lts (w.heap.size + 2) (by simp only [List.mem_cons, List.not_mem_nil, or_false] at hm; simp only [feet, List.mem_cons]; rcases hm with h | h | h; exact .inl h; exact .inr (.inl h); exact .inr (.inr (.inl h))); omega
    exact ⟨0, rfl, rfl, ⟨c2, (Kept.of_below (fp := [p, bh, bl]) (below_then b0 b1)).trans k2 (Newly.refl _ _)⟩, k2.heap ((Kept.of_below (fp := []) b1).heap hc3 (by simp)) n2⟩
  have HC := hide hcall
  have LT := hide c.lt
  clear hcall c hfew
  go_enter Try.func70, Try.ntmps70
  go_wp2_with (go_at_call 49; refine HC.out.mono ?_; rintro x w1 ⟨rfl, o1, gb⟩; have g0 := cell_of_heap gb 0; have g1 := cell_of_heap gb 1; simp at g0 g1; have z0 := frozen_of_heap gb 0; have z1 := frozen_of_heap gb 1; have GB := hide gb; have O1 := hide o1; clear o1 gb)
  have hb := heap_setCell (heap_setCell GB.out 0 (.string ⟨#[]⟩)) 1 (.int .i64 0)
  refine bodyPost_ret (useRes _ _ (w.heap.size + 1 + 1) ⟨#[]⟩ 0 rfl (by simpa using hb)) rfl ?_
  refine ⟨rfl, ?_⟩
  have kb : Kept [w.heap.size + 1 + 1] w1 ((w1.setCell ⟨w.heap.size + 1 + 1, 0, none⟩ (.string ⟨#[]⟩)).setCell ⟨w.heap.size + 1 + 1, 1, none⟩ (.int .i64 0)) := ((Kept.refl _ w1).setCell (p := ⟨w.heap.size + 1 + 1, 0, none⟩) (.inl (by simp)) _).setCell (p := ⟨w.heap.size + 1 + 1, 1, none⟩) (.inl (by simp)) _
  exact ⟨CacheAt.kept O1.out.1 kb (fun x hx q => by have := LT.out x (feet_turn x hx); simp at q; omega), O1.out.2.trans kb (fun x hx => .inr (by simp at hx; omega))⟩

/-- How many keys there are. -/
theorem Cat.held_len {bh bl us : Nat} {es : List (Fr Key)} (c : Cat w p bh bl fr us es) (ty : TypeId) : (Builtin.len_ #[89] ty #[.map (some bh)]).run Try.prog w = .ok (.int .i64 es.length) w := by
  obtain ⟨D, h1, h2⟩ := c.held
  rw [h1.len Try.underlying89 ty, h2.size]

theorem box_ne {w : World} {p bh bl : Nat} {fr : Int} {us : Nat} {es : List (Fr Key)} (c : Cat w p bh bl fr us es) : w.heap.size + 1 + 1 ∉ [p, bh, bl] := fun hm => by
  have := c.lt (w.heap.size + 1 + 1) (by simp only [List.mem_cons, List.not_mem_nil, or_false] at hm; simp only [feet, List.mem_cons]; rcases hm with h | h | h; exact .inl h; exact .inr (.inl h); exact .inr (.inr (.inl h)))
  omega

set_option maxRecDepth 100000 in
set_option maxHeartbeats 4000000 in
theorem use_room {bh bl us : Nat} {es : List (Fr Key)} (c : Cat w p bh bl fr us es) (hfew : us + 1 ≤ 1000000) (k : Key) (hok : kP.ok k) (hno : ∀ e ∈ es, e.key ≠ k) (hr : ¬ fr ≤ (es.length : Int)) :
    Calls Try.prog 70 #[.pointer (some ⟨p, 0, none⟩), kP.enc k] w fun x w' => x = .returned (.tuple #[goneV none, .bool false, .int .i64 0]) ∧ ∃ b, w.heap.size ≤ b ∧ Cat w' p bh bl fr (us + 1) (es ++ [⟨us + 1, b, k, 0⟩]) ∧ Kept [p, bh, bl] w w' := by
  have hmf := Try.mf
  have b0 : Below w.heap.size w (boxes3 w p k) := (boxes3_at w p k).2.2.2.2
  obtain ⟨hc0, hc1, hc2, hc3, _⟩ := boxes3_at w p k
  have c0 : Cat (boxes3 w p k) p bh bl fr us es := c.below b0
  have WN := hide (with_none c0 k hok hno (.func (.func 85) #[] #[.pointer (some ⟨w.heap.size, 0, none⟩)]))
  have C0 := hide c0
  have B0 := hide b0
  have HC0 := hide (And.intro hc0 (And.intro hc1 (And.intro hc2 hc3)))
  have HS : Hid ((boxes3 w p k).heap.size = w.heap.size + 1 + 1 + 1) := by show _ = _; simp
  have HR := hide (show (fr ≤ (es.length : Int)) = False from eq_false hr)
  have HOK := hide hok
  have HNO := hide hno
  have HF := hide hfew
  have HBN := hide (box_ne c)
  have HLT := hide c.lt
  clear c c0 b0 hc0 hc1 hc2 hc3 hok hno hfew hr
  go_enter Try.func70, Try.ntmps70
  go_wp2_with (go_at_call 49; refine WN.out.mono ?_; rintro x w1 ⟨rfl, b1⟩; have B1 := hide (below_then B0.out b1); have SZ := hide (Nat.le_trans (Nat.le_of_eq HS.out.symm) b1.size); have hd0 := (Kept.of_below (fp := []) b1).cell HC0.out.1 (by simp); have hd1 := (Kept.of_below (fp := []) b1).cell HC0.out.2.1 (by simp); have hd2 := (Kept.of_below (fp := []) b1).cell HC0.out.2.2.1 (by simp); have GB := hide ((Kept.of_below (fp := []) b1).heap HC0.out.2.2.2 (by simp)); have C1 := hide (CacheAt.below C0.out b1); clear b1)
  obtain ⟨d0, d1, d2, d3, df⟩ := Cat.cellAt C1.out
  have LN := hide (fun ty => Cat.held_len (w := w1.drew) (CacheAt.kept (fp := []) C1.out (Kept.refl _ w1).drew (by simp)) ty)
  have hr := HR.out
  generalize (es.length : Int) = L at LN hr
  clear d1 d3 df
  go_region_held_law (fun W => W.cell? ⟨w.heap.size, 0, none⟩ = some (.pointer (some ⟨p, 0, none⟩)) ∧ W.cell? ⟨p, 2, none⟩ = some (.map (some bh)) ∧ W.cell? ⟨p, 0, none⟩ = some (.int .i64 fr)) (go_keep) ((refine step_len rfl (.tmp 20) 89 rfl bh L ?_ LN.out ?_; (simp [Act.eval])))
  all_goals
  go_wp2_with fail
  have k2 : Kept [] w1 (w1.alloc (.cells #[.string k.1.1, .int .i64 k.1.2, .int .i64 0] kP.tf)).drew := ((Kept.refl _ w1).alloc _).drew
  have hb2 : (w1.alloc (.cells #[.string k.1.1, .int .i64 k.1.2, .int .i64 0] kP.tf)).drew.heap[w1.heap.size]? = some (.cells (kP.fc k 0) kP.tf (0, 0)) := heap_alloc_new w1 _
  refine (put_any (CacheAt.kept (fp := []) C1.out k2 (by simp)) HF.out w1.heap.size k 0 hb2 (fun hm => by have := CacheAt.lt C1.out _ hm; omega) HNO.out HOK.out).mono ?_
  rintro x w3 ⟨rfl, c3, k3⟩
  have C3 := hide c3
  have K3 := hide ((Kept.of_below (fp := [p, bh, bl]) B1.out).trans (k2.mono (fp' := [p, bh, bl]) (by simp)) (Newly.refl _ _))
  have K4 := hide k3
  have GB5 := hide (k3.heap (k2.heap GB.out (by simp)) HBN.out)
  have g0 := cell_of_heap GB5.out 0
  have g1 := cell_of_heap GB5.out 1
  simp at g0 g1
  have z0 := frozen_of_heap GB5.out 0
  have z1 := frozen_of_heap GB5.out 1
  clear c3 k3 k2 hb2
  go_wp2_with fail
  have hb := heap_setCell (heap_setCell GB5.out 0 (.string ⟨#[]⟩)) 1 (.int .i64 0)
  refine bodyPost_ret (useRes _ _ (w.heap.size + 1 + 1) ⟨#[]⟩ 0 rfl (by simpa using hb)) rfl ?_
  have kb : Kept [w.heap.size + 1 + 1] w3 ((w3.setCell ⟨w.heap.size + 1 + 1, 0, none⟩ (.string ⟨#[]⟩)).setCell ⟨w.heap.size + 1 + 1, 1, none⟩ (.int .i64 0)) := ((Kept.refl _ w3).setCell (p := ⟨w.heap.size + 1 + 1, 0, none⟩) (.inl (by simp)) _).setCell (p := ⟨w.heap.size + 1 + 1, 1, none⟩) (.inl (by simp)) _
  refine ⟨rfl, w1.heap.size, B1.out.size, CacheAt.kept C3.out kb (fun x hx q => ?_), (K3.out.trans K4.out (Newly.refl _ _)).trans kb (fun x hx => .inr (by simp at hx; omega))⟩
  simp only [feet, List.map_append, List.map_cons, List.map_nil, List.mem_cons, List.mem_append, List.not_mem_nil, or_false] at hx
  simp only [List.mem_singleton] at q
  have sz := SZ.out
  rcases hx with h | h | h | h | h
  · have := HLT.out p (by simp [feet]); omega
  · have := HLT.out bh (by simp [feet]); omega
  · have := HLT.out bl (by simp [feet]); omega
  · have := HLT.out x (by simp only [feet, List.mem_cons]; exact .inr (.inr (.inr h))); omega
  · omega

set_option maxRecDepth 100000 in
set_option maxHeartbeats 4000000 in
theorem use_full_go {bh bl us : Nat} {es : List (Fr Key)} (c : Cat w p bh bl fr us es) (hfew : us + 1 ≤ 1000000) (k : Key) (hok : kP.ok k) (hno : ∀ e ∈ es, e.key ≠ k) (hr : fr ≤ (es.length : Int)) (k0 : Key) (hz : firstA (es.map Fr.ab) = some k0) :
    Calls Try.prog 70 #[.pointer (some ⟨p, 0, none⟩), kP.enc k] w fun x w' => x = .returned (.tuple #[kP.enc k0, .bool true, .int .i64 0]) ∧ ∃ ds e rs b, es = ds ++ e :: rs ∧ e.key = k0 ∧ w.heap.size ≤ b ∧ Cat w' p bh bl fr (us + 1) (ds ++ rs ++ [⟨us + 1, b, k, 0⟩]) ∧ Kept [p, bh, bl] w w' := by
  have hmf := Try.mf
  have b0 : Below w.heap.size w (boxes3 w p k) := (boxes3_at w p k).2.2.2.2
  obtain ⟨hc0, hc1, hc2, hc3, _⟩ := boxes3_at w p k
  have c0 : Cat (boxes3 w p k) p bh bl fr us es := c.below b0
  have WN := hide (with_none c0 k hok hno (.func (.func 85) #[] #[.pointer (some ⟨w.heap.size, 0, none⟩)]))
  have C0 := hide c0
  have B0 := hide b0
  have HC0 := hide (And.intro hc0 (And.intro hc1 (And.intro hc2 hc3)))
  have HS : Hid ((boxes3 w p k).heap.size = w.heap.size + 1 + 1 + 1) := by show _ = _; simp
  have HR := hide (show (fr ≤ (es.length : Int)) = True from eq_true hr)
  have HZ := hide (And.intro hz c.rise)
  have HOK := hide hok
  have HNO := hide hno
  have HF := hide hfew
  have HBN := hide (box_ne c)
  have HLT := hide c.lt
  clear c c0 b0 hc0 hc1 hc2 hc3 hok hno hr hz hfew
  go_enter Try.func70, Try.ntmps70
  go_wp2_with (go_at_call 49; refine WN.out.mono ?_; rintro x w1 ⟨rfl, b1⟩; have B1 := hide (below_then B0.out b1); have SZ := hide (Nat.le_trans (Nat.le_of_eq HS.out.symm) b1.size); have hc1 := (Kept.of_below (fp := []) b1).cell HC0.out.1 (by simp); have HD1 := hide ((Kept.of_below (fp := []) b1).cell HC0.out.2.1 (by simp)); have HD2 := hide ((Kept.of_below (fp := []) b1).cell HC0.out.2.2.1 (by simp)); have GB := hide ((Kept.of_below (fp := []) b1).heap HC0.out.2.2.2 (by simp)); have C1 := hide (CacheAt.below C0.out b1); clear b1)
  obtain ⟨d0, d1, d2, d3, df⟩ := Cat.cellAt C1.out
  have LN := hide (fun ty => Cat.held_len (w := w1.drew) (CacheAt.kept (fp := []) C1.out (Kept.refl _ w1).drew (by simp)) ty)
  have hr := HR.out
  generalize (es.length : Int) = L at LN hr
  clear d1 d3 df
  go_region_held_law (fun W => W.cell? ⟨w.heap.size, 0, none⟩ = some (.pointer (some ⟨p, 0, none⟩)) ∧ W.cell? ⟨p, 2, none⟩ = some (.map (some bh)) ∧ W.cell? ⟨p, 0, none⟩ = some (.int .i64 fr)) (go_keep) ((refine step_len rfl (.tmp 20) 89 rfl bh L ?_ LN.out ?_; (simp [Act.eval])))
  all_goals
  go_wp2_with fail
  refine (first_any (CacheAt.kept (fp := []) C1.out (Kept.refl _ w1).drew (by simp))).mono ?_
  rintro x w2 ⟨least, ok, rfl, f2, b2⟩
  obtain rfl : ok = true := by
    cases ok with
    | true => rfl
    | false =>
      have he := f2.none
      rw [HZ.out.1] at he
      cases he
  obtain ⟨ds, e, rs, hes, rfl, he⟩ := f2.some HZ.out.2
  have hk0 : e.key = k0 := Option.some.inj (he.symm.trans HZ.out.1)
  have C2 := hide (CacheAt.below (CacheAt.kept (fp := []) C1.out (Kept.refl _ w1).drew (by simp)) b2)
  have KB2 := hide (Kept.of_below (fp := []) b2)
  have hc2 := KB2.out.cell (w := w1.drew) hc1 (by simp)
  have HE1 := hide (KB2.out.cell (w := w1.drew) HD1.out (by simp))
  have HE2 := hide (KB2.out.cell (w := w1.drew) HD2.out (by simp))
  have GB2 := hide (KB2.out.heap (w := w1.drew) GB.out (by simp))
  have B2 := hide (below_then B1.out.drew b2)
  have SZ2 := hide (Nat.le_trans SZ.out b2.size)
  have HE := hide hes
  have HK0 := hide hk0
  subst hes
  have T := hide (take_any C2.out)
  have F2 := hide (Cat.frameAt C2.out (e := e) (by simp)).1
  rw [hk0] at F2
  have NE := hide (CacheAt.ne C2.out)
  obtain ⟨u, hu⟩ : ∃ u, u = e.use := ⟨_, rfl⟩
  rw [← hu] at T ⊢
  obtain ⟨q, hq⟩ : ∃ q, q = e.blk := ⟨_, rfl⟩
  rw [← hq] at T F2
  have HQ := hide hq
  clear hu hq hk0 he f2 b2 hc1 d0 d2 hr LN
  go_wp2_with fail
  refine T.out.mono ?_
  rintro x w3 ⟨rfl, c3, k3, n3⟩
  have qn : q ∉ [bh, bl] := by have := NE.out.2.2.2 e (by simp); rw [HQ.out]; simp [this.2.1, this.2.2]
  have n12 : ∀ y, w.heap.size ≤ y → y ∉ [bh, bl] := fun y hy hm => by have h1 := HLT.out bh (by simp [feet]); have h2 := HLT.out bl (by simp [feet]); simp at hm; omega
  have f3 := k3.cell F2.out.1 qn
  have f4 := k3.cell F2.out.2 qn
  have hc3 := k3.cell hc2 (n12 _ (by simp))
  have he1 := k3.cell HE1.out (n12 _ (by simp))
  have he2 := k3.cell HE2.out (n12 _ (by simp))
  have GB3 := hide (k3.heap GB2.out (n12 _ (by omega)))
  have s0 := cell_of_heap GB3.out 0
  have s1 := cell_of_heap GB3.out 1
  simp at s0 s1
  have y0 := frozen_of_heap GB3.out 0
  have y1 := frozen_of_heap GB3.out 1
  have C3 := hide c3
  have SZ3 := hide (Nat.le_trans SZ2.out k3.size)
  have K3 := hide ((Kept.of_below (fp := [p, bh, bl]) B2.out).trans k3 (Newly.of_sub (by simp)))
  clear c3 k3 n3 hc2 n12 qn
  go_wp2_with fail
  have k4 : Kept [w.heap.size + 1 + 1] w3 (((w3.setCell ⟨w.heap.size + 1 + 1, 0, none⟩ (.string k0.1.1)).setCell ⟨w.heap.size + 1 + 1, 1, none⟩ (.int .i64 k0.1.2)).alloc (.cells #[.string k.1.1, .int .i64 k.1.2, .int .i64 0] kP.tf)) := (((Kept.refl _ w3).setCell (p := ⟨w.heap.size + 1 + 1, 0, none⟩) (.inl (by simp)) _).setCell (p := ⟨w.heap.size + 1 + 1, 1, none⟩) (.inl (by simp)) _).alloc _
  have e4 : ((w3.setCell ⟨w.heap.size + 1 + 1, 0, none⟩ (.string k0.1.1)).setCell ⟨w.heap.size + 1 + 1, 1, none⟩ (.int .i64 k0.1.2)).heap.size = w3.heap.size := by simp [World.setCell]
  have hb4 := heap_alloc_new ((w3.setCell ⟨w.heap.size + 1 + 1, 0, none⟩ (.string k0.1.1)).setCell ⟨w.heap.size + 1 + 1, 1, none⟩ (.int .i64 k0.1.2)) (.cells #[.string k.1.1, .int .i64 k.1.2, .int .i64 0] kP.tf)
  rw [e4] at hb4
  have g4 := ((Kept.refl [] _).alloc (.cells #[.string k.1.1, .int .i64 k.1.2, .int .i64 0] kP.tf)).heap (heap_setCell (heap_setCell GB3.out 0 (.string k0.1.1)) 1 (.int .i64 k0.1.2)) (by simp)
  have LS := hide (fun x (hx : x ∈ feet p bh bl (ds ++ rs)) => HLT.out x (feet_sub x hx))
  generalize ((w3.setCell ⟨w.heap.size + 1 + 1, 0, none⟩ (.string k0.1.1)).setCell ⟨w.heap.size + 1 + 1, 1, none⟩ (.int .i64 k0.1.2)).alloc (.cells #[.string k.1.1, .int .i64 k.1.2, .int .i64 0] kP.tf) = w4 at k4 hb4 g4 ⊢
  refine (put_any (CacheAt.kept C3.out k4 (fun x hx q => by have := LS.out x hx; simp at q; omega)) HF.out w3.heap.size k 0 hb4 (fun hm => by have := CacheAt.lt C3.out _ hm; omega) (fun x hx => HNO.out x (by
    rcases List.mem_append.1 hx with hx | hx
    · simp [hx]
    · simp [hx])) HOK.out).mono ?_
  rintro x w5 ⟨rfl, c5, k5⟩
  have C5 := hide c5
  have K5 := hide (K3.out.trans k4 (fun x hx => .inr (by simp at hx; omega)))
  have K6 := hide k5
  have GB5 := hide (k5.heap g4 HBN.out)
  simp only [List.setIfInBounds_toArray, List.set_cons_zero, List.set_cons_succ] at GB5
  have g0 := cell_of_heap GB5.out 0
  have g1 := cell_of_heap GB5.out 1
  simp at g0 g1
  have z0 := frozen_of_heap GB5.out 0
  have z1 := frozen_of_heap GB5.out 1
  clear c5 k5 k4 hb4 g4 e4 f3 f4 hc3 s0 s1 y0 y1 he1 he2
  go_wp2_with fail
  have hb := heap_setCell (heap_setCell GB5.out 0 (.string k0.1.1)) 1 (.int .i64 k0.1.2)
  refine bodyPost_ret (useRes _ _ (w.heap.size + 1 + 1) k0.1.1 k0.1.2 rfl (by simpa using hb)) rfl ?_
  have kb : Kept [w.heap.size + 1 + 1] w5 ((w5.setCell ⟨w.heap.size + 1 + 1, 0, none⟩ (.string k0.1.1)).setCell ⟨w.heap.size + 1 + 1, 1, none⟩ (.int .i64 k0.1.2)) := ((Kept.refl _ w5).setCell (p := ⟨w.heap.size + 1 + 1, 0, none⟩) (.inl (by simp)) _).setCell (p := ⟨w.heap.size + 1 + 1, 1, none⟩) (.inl (by simp)) _
  refine ⟨rfl, ds, e, rs, w3.heap.size, rfl, HK0.out, by have := SZ3.out; omega, CacheAt.kept C5.out kb (fun x hx q => ?_), (K5.out.trans K6.out (Newly.refl _ _)).trans kb (fun x hx => .inr (by simp at hx; omega))⟩
  simp only [feet, List.map_append, List.map_cons, List.map_nil, List.mem_cons, List.mem_append, List.not_mem_nil, or_false] at hx
  simp only [List.mem_singleton] at q
  have sz := SZ3.out
  rcases hx with h | h | h | h | h
  · have := HLT.out p (by simp [feet]); omega
  · have := HLT.out bh (by simp [feet]); omega
  · have := HLT.out bl (by simp [feet]); omega
  · have := LS.out x (by simp only [feet, List.mem_cons, List.map_append, List.mem_append]; exact .inr (.inr (.inr h))); omega
  · omega

/-- Use. -/
theorem use_any (h : Ck kP w fp p fr N l) (hN : N + 1 ≤ 1000000) (k : Key) (hok : kP.ok k) (hfn : fr ≤ (l.length : Int) → firstA l ≠ none) :
    Calls Try.prog 70 #[.pointer (some ⟨p, 0, none⟩), kP.enc k] w fun x w' => x = .returned (.tuple #[goneV (useA fr l k).1, .bool (useA fr l k).1.isSome, .int .i64 (useA fr l k).2.1]) ∧ Outc kP w w' fp p fr (N + 1) (useA fr l k).2.2 := by
  obtain ⟨bh, bl, us, es, c, hus, rfl, rfl⟩ := h
  unfold useA
  have hsub : ∀ {es : List (Fr Key)} x, x ∈ [p, bh, bl] → x ∈ feet p bh bl es := fun x hx => by
    simp only [List.mem_cons, List.not_mem_nil, or_false] at hx
    simp only [feet, List.mem_cons]
    rcases hx with h | h | h
    · exact .inl h
    · exact .inr (.inl h)
    · exact .inr (.inr (.inl h))
  cases hl : lookA (es.map Fr.ab) k with
  | some n =>
    obtain ⟨ds, e, rs, rfl, rfl, rfl⟩ := lookA_some hl
    refine (use_there c (by omega) e.key rfl).mono ?_
    rintro x w' ⟨rfl, c1, k1⟩
    refine ⟨rfl, _, ⟨bh, bl, _, _, c1, by omega, rfl, ?_⟩, k1.mono hsub, Newly.of_sub ?_⟩
    · rw [delA_ab c.keys]
      simp [Fr.ab]
    · intro x hx
      simp only [feet, List.map_append, List.map_cons, List.map_nil, List.mem_cons, List.mem_append, List.not_mem_nil, or_false] at hx ⊢
      rcases hx with h | h | h | (h | h) | h
      · exact .inl h
      · exact .inr (.inl h)
      · exact .inr (.inr (.inl h))
      · exact .inr (.inr (.inr (.inl h)))
      · exact .inr (.inr (.inr (.inr (.inr h))))
      · exact .inr (.inr (.inr (.inr (.inl h))))
  | none =>
    have hno := lookA_none hl
    simp only [List.length_map]
    by_cases hr : fr ≤ (es.length : Int)
    · rw [if_pos hr]
      cases hf : firstA (es.map Fr.ab) with
      | none => exact absurd hf (hfn (by simpa using hr))
      | some k0 =>
        refine (use_full_go c (by omega) k hok hno hr k0 hf).mono ?_
        rintro x w' ⟨rfl, ds, e, rs, b, rfl, rfl, hb, c1, k1⟩
        refine ⟨rfl, _, ⟨bh, bl, _, _, c1, by omega, rfl, ?_⟩, k1.mono hsub, ?_⟩
        · show delA _ e.key ++ [(k, 0)] = _
          rw [delA_ab c.keys]
          simp [Fr.ab]
        · intro x hx
          simp only [feet, List.map_append, List.map_cons, List.map_nil, List.mem_cons, List.mem_append, List.not_mem_nil, or_false] at hx ⊢
          rcases hx with h | h | h | (h | h) | h
          · exact .inl (.inl h)
          · exact .inl (.inr (.inl h))
          · exact .inl (.inr (.inr (.inl h)))
          · exact .inl (.inr (.inr (.inr (.inl h))))
          · exact .inl (.inr (.inr (.inr (.inr (.inr h)))))
          · exact .inr (by omega)
    · rw [if_neg hr]
      refine (use_room c (by omega) k hok hno hr).mono ?_
      rintro x w' ⟨rfl, b, hb, c1, k1⟩
      refine ⟨rfl, _, ⟨bh, bl, _, _, c1, by omega, rfl, ?_⟩, k1.mono hsub, ?_⟩
      · simp [Fr.ab]
      · intro x hx
        simp only [feet, List.map_append, List.map_cons, List.map_nil, List.mem_cons, List.mem_append, List.not_mem_nil, or_false] at hx ⊢
        rcases hx with h | h | h | h | h
        · exact .inl (.inl h)
        · exact .inl (.inr (.inl h))
        · exact .inl (.inr (.inr (.inl h)))
        · exact .inl (.inr (.inr (.inr h)))
        · exact .inr (by omega)

set_option maxRecDepth 100000 in
set_option maxHeartbeats 4000000 in
/-- New. -/
theorem new_any (n : Int) (w : World) :
    Calls Try.prog 27 #[.int .i64 n] w fun x w' => ∃ p fp, x = .returned (.pointer (some ⟨p, 0, none⟩)) ∧ Ck kP w' fp p (max n 1) 0 [] ∧ Below w.heap.size w w' ∧ ∀ x ∈ fp, w.heap.size ≤ x := by
  have hmm := @run_makeMap Try.prog
  have hmax : ∀ (ts : Array TypeId) (t : TypeId) (W : World), (Builtin.max_ ts t #[.int .i64 n, .int .i64 1]).run Try.prog W = .ok (.int .i64 (max n 1)) W := by
    intro ts t W
    rw [run_max_int2]
    congr 2
    split <;> omega
  generalize max n 1 = m at *
  go_enter Try.func27, Try.ntmps27
  go_wp2
  go_ret
  clear hmm hmax
  have e1 : (w.alloc (.map #[] 0)).heap.size = w.heap.size + 1 := by simp
  have e2 : ((w.alloc (.map #[] 0)).alloc (.map #[] 0)).heap.size = w.heap.size + 2 := by simp
  refine ⟨w.heap.size + 2, feet (w.heap.size + 2) w.heap.size (w.heap.size + 1) ([] : List (Fr Key)), by simp, ⟨w.heap.size, w.heap.size + 1, 0, [], ⟨?_, ⟨.map [], ?_, MapIs.empty⟩, ⟨.map [], ?_, MapIs.empty⟩, by simp, by simp [feet], List.Pairwise.nil, by simp, by simp, by simp, by omega, by simp⟩, by omega, rfl, rfl⟩, ?_, ?_⟩
  · have e := heap_alloc_new ((w.alloc (.map #[] 0)).alloc (.map #[] 0)) (.cells #[.int .i64 m, .int .u64 (0 : Nat), .map (some w.heap.size), .map (some (w.heap.size + 1))] kP.tc)
    rw [e2] at e
    exact e
  · exact ((World.ownsMap_made w Try.prog 91 ptrE).alloc _).alloc _
  · have e := (World.ownsMap_made (w.alloc (.map #[] 0)) Try.prog kP.tk uElem).alloc (.cells #[.int .i64 m, .int .u64 (0 : Nat), .map (some w.heap.size), .map (some (w.heap.size + 1))] kP.tc)
    rw [e1] at e
    exact e
  · exact (((Below.refl _ w).alloc (Nat.le_refl _) _).alloc (by simp) _).alloc (by simp; omega) _
  · intro x hx
    simp [feet] at hx
    omega

end
end Go.Proofs.Ytbhjdcoehgajcaa.L.P
