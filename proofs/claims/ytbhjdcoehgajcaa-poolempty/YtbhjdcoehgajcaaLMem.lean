/-
  Caches in memory, beside disks. A lemma file: no statement of the seat is proved here.
-/
import Derived.Test.YtbhjdcoehgajcaaDMore
import Derived.WalkKit
import Derived.WalkSpells
import Derived.WalkLawsBesides
import Derived.Laws.AppendOwnNone
import Derived.Maps.OwnSet
import Derived.Maps.AppendAt
import Derived.Maps.RangeWalk
import Derived.DeepKeys4
namespace Go.Proofs.Ytbhjdcoehgajcaa
open Go.RowKit Go.Maps

theorem Kept.heap {fp : List Nat} {w w' : World} (h : Kept fp w w') {b : Nat} {o : Obj} (hv : w.heap[b]? = some o) (hp : b ∉ fp) : w'.heap[b]? = some o :=
  (h.block b (Array.getElem?_eq_some_iff.1 hv).1 hp).trans hv

theorem below_then {w w1 w2 : World} (h : Below w.heap.size w w1) (k : Below w1.heap.size w1 w2) : Below w.heap.size w w2 := h.trans (k.mono h.size)

end Go.Proofs.Ytbhjdcoehgajcaa
namespace Go.Proofs.Ytbhjdcoehgajcaa.L
open Go.RowKit Go.Maps

theorem ownsMap_kept {H : Type} {fp : List Nat} {w w' : World} {k : TypeId} {R : Value → Option (DataW H × List MemPlace)} {b n : Nat} {D : DataW H} (h : w.ownsMap Try.prog k R b n D) (hk : Kept fp w w') (hb : b ∉ fp) : w'.ownsMap Try.prog k R b n D := by
  obtain ⟨es, clock, hb0, F, hs, hD⟩ := h
  exact ⟨es, clock, hk.heap hb0 hb, F, hs, hD⟩

theorem heap_alloc_new (w : World) (o : Obj) : (w.alloc o).heap[w.heap.size]? = some o := (MapKept.heap_alloc w o).1

/-! ### Caches -/

/-- A frame: the number of its last use, its block, its key, how many times it is pinned. -/
structure Fr (α : Type) where
  use : Nat
  blk : Nat
  key : α
  pins : Nat

/-- What is to be known of a type of keys: values, literals, the numbers of types. -/
structure KT (α : Type) where
  enc : α → Value
  fc : α → Nat → Array Value
  lit : α → Lit
  ok : α → Prop
  tk : TypeId
  tf : TypeId
  tc : TypeId

/-- The datum D is a map of what kf tells of frames to what val tells. -/
structure MapIs {α β : Type} [DecidableEq β] (lt : β → Lit) (zd : DataW Unit) (val : Fr α → DataW Unit) (kf : Fr α → β) (D : DataW Unit) (es : List (Fr α)) : Prop where
  at_ : ∀ x, D.atKey (lt x) zd = match es.find? (fun e => decide (kf e = x)) with | some e => val e | none => zd
  has : ∀ x, Maps.has D (lt x) = (es.find? (fun e => decide (kf e = x))).isSome
  size : Maps.size D = es.length

section
variable {α β : Type} [DecidableEq β] {lt : β → Lit} {zd : DataW Unit} {val : Fr α → DataW Unit} {kf : Fr α → β} {D : DataW Unit}

theorem find_none {es : List (Fr α)} {x : β} (h : ∀ e ∈ es, kf e ≠ x) : es.find? (fun e => decide (kf e = x)) = none :=
  List.find?_eq_none.2 fun e he => by simpa using h e he

theorem find_at {ds rs : List (Fr α)} {e : Fr α} (hnd : ((ds ++ e :: rs).map kf).Nodup) : (ds ++ e :: rs).find? (fun y => decide (kf y = kf e)) = some e := by
  rw [List.find?_append, find_none (fun y hy heq => ?_), List.find?_cons]
  · simp
  · rw [List.map_append, List.map_cons, List.nodup_append] at hnd
    exact hnd.2.2 _ (List.mem_map.2 ⟨y, hy, rfl⟩) _ (List.mem_cons_self ..) heq

theorem find_some {es : List (Fr α)} {x : β} {e : Fr α} (h : es.find? (fun e => decide (kf e = x)) = some e) : e ∈ es ∧ kf e = x :=
  ⟨List.mem_of_find?_eq_some h, by simpa using List.find?_some h⟩

theorem MapIs.empty : MapIs lt zd val kf (.map []) [] := ⟨fun _ => rfl, fun _ => rfl, rfl⟩

theorem MapIs.snoc {es : List (Fr α)} {e : Fr α} (h : MapIs lt zd val kf D es) (hinj : ∀ x y, lt x = lt y → x = y) (hkl : ∀ x, WideAt.IsKeyLit (lt x)) (ht : Tidy D) (hno : ∀ y ∈ es, kf y ≠ kf e) :
    MapIs lt zd val kf (D.put (lt (kf e)) (val e)) (es ++ [e]) := by
  have hf : ∀ x, (es ++ [e]).find? (fun y => decide (kf y = x)) = if kf e = x then some e else es.find? (fun y => decide (kf y = x)) := fun x => by
    rw [List.find?_append, List.find?_cons]
    by_cases hx : kf e = x
    · subst hx
      rw [find_none hno]
      simp
    · rw [if_neg hx]
      simp [hx]
  refine ⟨fun x => ?_, fun x => ?_, ?_⟩
  · rw [hf]
    by_cases hx : kf e = x
    · subst hx
      rw [atKey_put_same ht.isMap (hkl _), if_pos rfl]
    · rw [atKey_put_other (fun e2 => hx (hinj _ _ e2).symm), h.at_ x, if_neg hx]
  · rw [hf]
    by_cases hx : kf e = x
    · subst hx
      rw [has_put_same ht.isMap (hkl _), if_pos rfl]
      rfl
    · rw [has_put_other (fun e2 => hx (hinj _ _ e2).symm), h.has x, if_neg hx]
  · rw [size_put ht, h.has, find_none hno, h.size]
    simp

theorem MapIs.del {ds rs : List (Fr α)} {e : Fr α} (h : MapIs lt zd val kf D (ds ++ e :: rs)) (hinj : ∀ x y, lt x = lt y → x = y) (ht : Tidy D) (hnd : ((ds ++ e :: rs).map kf).Nodup) :
    MapIs lt zd val kf (D.del (lt (kf e))) (ds ++ rs) := by
  have hat := find_at hnd
  rw [List.map_append, List.map_cons, List.nodup_append, List.nodup_cons] at hnd
  have hf : ∀ x, (ds ++ rs).find? (fun y => decide (kf y = x)) = if kf e = x then none else (ds ++ e :: rs).find? (fun y => decide (kf y = x)) := fun x => by
    by_cases hx : kf e = x
    · subst hx
      rw [if_pos rfl]
      refine find_none fun y hy heq => ?_
      rcases List.mem_append.1 hy with hy | hy
      · exact hnd.2.2 _ (List.mem_map.2 ⟨y, hy, rfl⟩) _ (List.mem_cons_self ..) heq
      · exact hnd.2.1.1 (List.mem_map.2 ⟨y, hy, heq⟩)
    · rw [if_neg hx, List.find?_append, List.find?_append, List.find?_cons]
      simp [hx]
  refine ⟨fun x => ?_, fun x => ?_, ?_⟩
  · rw [hf]
    by_cases hx : kf e = x
    · subst hx
      rw [atKey_del_same, if_pos rfl]
    · rw [atKey_del_other (fun e2 => hx (hinj _ _ e2).symm), h.at_ x, if_neg hx]
  · rw [hf]
    by_cases hx : kf e = x
    · subst hx
      rw [has_del_same, if_pos rfl]
      rfl
    · rw [has_del_other (fun e2 => hx (hinj _ _ e2).symm), h.has x, if_neg hx]
  · have e1 := size_del (k := lt (kf e)) ht
    rw [h.has, hat, h.size] at e1
    simp at e1 ⊢
    omega

end

def uLit (u : Nat) : Lit := .int .u64 u
theorem uLit_inj (x y : Nat) (h : uLit x = uLit y) : x = y := by
  simp only [uLit, Lit.int.injEq, true_and] at h
  exact Int.ofNat.inj h
theorem uLit_key (x : Nat) : WideAt.IsKeyLit (uLit x) := by trivial

abbrev HeldIs {α : Type} (D : DataW Unit) (es : List (Fr α)) : Prop := MapIs uLit .nil (fun e : Fr α => .lit (.int .i64 e.blk)) Fr.use D es
abbrev LastIs {α : Type} [DecidableEq α] (κ : KT α) (D : DataW Unit) (es : List (Fr α)) : Prop := MapIs κ.lit (.lit (.int .u64 0)) (fun e : Fr α => .lit (.int .u64 e.use)) Fr.key D es

/-- The blocks of a cache. -/
def feet {α : Type} (p bh bl : Nat) (es : List (Fr α)) : List Nat := p :: bh :: bl :: es.map Fr.blk

noncomputable abbrev uElem : Value → Option (DataW Unit × List MemPlace) := plainElem Try.prog 91

structure CacheAt {α : Type} [DecidableEq α] (κ : KT α) (w : World) (p bh bl : Nat) (fr : Int) (us : Nat) (es : List (Fr α)) : Prop where
  cells : w.heap[p]? = some (.cells #[.int .i64 fr, .int .u64 us, .map (some bh), .map (some bl)] κ.tc (0, 0))
  held : ∃ D, w.ownsMap Try.prog 91 ptrE bh es.length D ∧ HeldIs D es
  last : ∃ D, w.ownsMap Try.prog κ.tk uElem bl es.length D ∧ LastIs κ D es
  frames : ∀ e ∈ es, w.heap[e.blk]? = some (.cells (κ.fc e.key e.pins) κ.tf (0, 0))
  apart : (feet p bh bl es).Nodup
  rise : (es.map Fr.use).Pairwise (· < ·)
  up : ∀ e ∈ es, e.use ≤ us
  keys : (es.map Fr.key).Nodup
  ok : ∀ e ∈ es, κ.ok e.key
  few : us ≤ 1000000
  len : es.length ≤ us

section
variable {α : Type} [DecidableEq α] {κ : KT α} {w w' : World} {p bh bl : Nat} {fr : Int} {us : Nat} {es : List (Fr α)}

theorem CacheAt.lt (h : CacheAt κ w p bh bl fr us es) : ∀ x ∈ feet p bh bl es, x < w.heap.size := by
  intro x hx
  simp only [feet, List.mem_cons, List.mem_map] at hx
  rcases hx with rfl | rfl | rfl | ⟨e, he, rfl⟩
  · exact (Array.getElem?_eq_some_iff.1 h.cells).1
  · obtain ⟨D, h1, _⟩ := h.held
    exact h1.lt
  · obtain ⟨D, h1, _⟩ := h.last
    exact h1.lt
  · exact (Array.getElem?_eq_some_iff.1 (h.frames e he)).1

theorem CacheAt.kept {fp : List Nat} (h : CacheAt κ w p bh bl fr us es) (hk : Kept fp w w') (hf : ∀ x ∈ feet p bh bl es, x ∉ fp) : CacheAt κ w' p bh bl fr us es := by
  refine ⟨hk.heap h.cells (hf _ (by simp [feet])), ?_, ?_, fun e he => hk.heap (h.frames e he) (hf _ ?_), h.apart, h.rise, h.up, h.keys, h.ok, h.few, h.len⟩
  · obtain ⟨D, h1, h2⟩ := h.held
    exact ⟨D, ownsMap_kept h1 hk (hf _ (by simp [feet])), h2⟩
  · obtain ⟨D, h1, h2⟩ := h.last
    exact ⟨D, ownsMap_kept h1 hk (hf _ (by simp [feet])), h2⟩
  · simp only [feet, List.mem_cons, List.mem_map]
    exact .inr (.inr (.inr ⟨e, he, rfl⟩))

theorem CacheAt.below (h : CacheAt κ w p bh bl fr us es) (hb : Below w.heap.size w w') : CacheAt κ w' p bh bl fr us es :=
  h.kept (fp := []) (Kept.of_below hb) (by simp)

theorem CacheAt.nd (h : CacheAt κ w p bh bl fr us es) : (es.map Fr.use).Nodup := h.rise.imp fun h => Nat.ne_of_lt h

theorem CacheAt.ne (h : CacheAt κ w p bh bl fr us es) : p ≠ bh ∧ p ≠ bl ∧ bh ≠ bl ∧ ∀ e ∈ es, e.blk ≠ p ∧ e.blk ≠ bh ∧ e.blk ≠ bl := by
  have := h.apart
  simp only [feet, List.nodup_cons, List.mem_cons, List.mem_map, not_or, not_exists, not_and] at this
  obtain ⟨⟨h1, h2, h3⟩, ⟨h4, h5⟩, h6, _⟩ := this
  exact ⟨h1, h2, h4, fun e he => ⟨h3 e he, h5 e he, h6 e he⟩⟩

theorem uKeyed : Keyed Try.prog 91 := int_keyed Try.underlying91

theorem uKey (u : Nat) (h : u ≤ 1000001) : keyOf Try.prog 91 (.int .u64 u) = some (uLit u) :=
  keyOf_int_mk Try.underlying91 (by
    have hmin : IntKind.u64.min = 0 := rfl
    have hmax : IntKind.u64.max = 18446744073709551615 := rfl
    simp only [Lit.wf, Bool.and_eq_true, decide_eq_true_eq]
    omega)

theorem uElem_mk (u : Nat) (h : u ≤ 1000001) : uElem (.int .u64 u) = some (.lit (.int .u64 u), []) :=
  plainElem_int Try.underlying91 (by
    have hmin : IntKind.u64.min = 0 := rfl
    have hmax : IntKind.u64.max = 18446744073709551615 := rfl
    simp only [Lit.wf, Bool.and_eq_true, decide_eq_true_eq]
    omega)

theorem Try.zeroU64 (w : World) : (zeroValue 91).run Try.prog w = .ok (.int .u64 0) w := by kernel_rfl

end

end Go.Proofs.Ytbhjdcoehgajcaa.L
