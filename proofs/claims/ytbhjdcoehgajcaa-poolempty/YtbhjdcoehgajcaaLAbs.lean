/-
  Caches, as they are told: keys in the order of their last uses, and how often each is pinned. A lemma file: no statement of the seat is proved here.
-/
import Derived.Test.YtbhjdcoehgajcaaLKey
namespace Go.Proofs.Ytbhjdcoehgajcaa.L
open Go.RowKit Go.Maps

section
variable {α : Type} [DecidableEq α]

def Fr.ab (e : Fr α) : α × Nat := (e.key, e.pins)

def lookA (l : List (α × Nat)) (k : α) : Option Nat := (l.find? (fun x => decide (x.1 = k))).map (fun x => x.2)
def delA (l : List (α × Nat)) (k : α) : List (α × Nat) := l.filter (fun x => !decide (x.1 = k))
def setA (l : List (α × Nat)) (k : α) (n : Nat) : List (α × Nat) := l.map (fun x => if x.1 = k then (k, n) else x)
def firstA (l : List (α × Nat)) : Option α := (l.find? (fun x => decide (x.2 = 0))).map (fun x => x.1)

def pinA (l : List (α × Nat)) (k : α) : Int × List (α × Nat) :=
  match lookA l k with
  | none => (4, l)
  | some n => (0, setA l k (n + 1))
def unpinA (l : List (α × Nat)) (k : α) : Int × List (α × Nat) :=
  match lookA l k with
  | none => (4, l)
  | some n => if n = 0 then (9, l) else (0, setA l k (n - 1))
def dropA (l : List (α × Nat)) (k : α) : Int × List (α × Nat) :=
  match lookA l k with
  | none => (4, l)
  | some n => if n = 0 then (0, delA l k) else (9, l)
def useA (fr : Int) (l : List (α × Nat)) (k : α) : Option α × Int × List (α × Nat) :=
  match lookA l k with
  | some n => (none, 0, delA l k ++ [(k, n)])
  | none =>
    if fr ≤ (l.length : Int) then
      match firstA l with
      | none => (none, 8, l)
      | some k0 => (some k0, 0, delA l k0 ++ [(k, 0)])
    else (none, 0, l ++ [(k, 0)])

theorem lookA_none {es : List (Fr α)} {k : α} (h : lookA (es.map Fr.ab) k = none) : ∀ e ∈ es, e.key ≠ k := by
  intro e he
  unfold lookA at h
  rw [Option.map_eq_none_iff] at h
  have h1 := List.find?_eq_none.1 h e.ab (List.mem_map.2 ⟨e, he, rfl⟩)
  exact fun heq => h1 (decide_eq_true (p := e.ab.1 = k) heq)

theorem lookA_some {es : List (Fr α)} {k : α} {n : Nat} (h : lookA (es.map Fr.ab) k = some n) : ∃ ds e rs, es = ds ++ e :: rs ∧ e.key = k ∧ e.pins = n := by
  unfold lookA at h
  obtain ⟨x, hx, rfl⟩ := Option.map_eq_some_iff.1 h
  have h1 := List.mem_of_find?_eq_some hx
  have h2 := List.find?_some hx
  obtain ⟨e, he, rfl⟩ := List.mem_map.1 h1
  obtain ⟨ds, rs, rfl⟩ := List.append_of_mem he
  exact ⟨ds, e, rs, rfl, of_decide_eq_true (p := e.ab.1 = k) h2, rfl⟩

theorem delA_ab {ds rs : List (Fr α)} {e : Fr α} (hnd : ((ds ++ e :: rs).map Fr.key).Nodup) : delA ((ds ++ e :: rs).map Fr.ab) e.key = (ds ++ rs).map Fr.ab := by
  rw [List.map_append, List.map_cons, List.nodup_append, List.nodup_cons] at hnd
  have hd : ∀ l : List (Fr α), (∀ x ∈ l, x.key ≠ e.key) → (l.map Fr.ab).filter (fun x => !decide (x.1 = e.key)) = l.map Fr.ab := fun l hl => by
    refine List.filter_eq_self.2 fun x hx => ?_
    obtain ⟨y, hy, rfl⟩ := List.mem_map.1 hx
    show (!decide (y.ab.1 = e.key)) = true
    rw [decide_eq_false (p := y.ab.1 = e.key) (hl y hy)]
    rfl
  unfold delA
  rw [List.map_append, List.map_cons, List.filter_append, List.filter_cons, List.map_append, hd ds (fun x hx heq => hnd.2.2 _ (List.mem_map.2 ⟨x, hx, rfl⟩) _ (List.mem_cons_self ..) heq), hd rs (fun x hx heq => hnd.2.1.1 (List.mem_map.2 ⟨x, hx, heq⟩))]
  simp [Fr.ab]

theorem setA_ab {ds rs : List (Fr α)} {e : Fr α} (hnd : ((ds ++ e :: rs).map Fr.key).Nodup) (n : Nat) : setA ((ds ++ e :: rs).map Fr.ab) e.key n = (ds ++ { e with pins := n } :: rs).map Fr.ab := by
  rw [List.map_append, List.map_cons, List.nodup_append, List.nodup_cons] at hnd
  have hd : ∀ l : List (Fr α), (∀ x ∈ l, x.key ≠ e.key) → (l.map Fr.ab).map (fun x => if x.1 = e.key then (e.key, n) else x) = l.map Fr.ab := fun l hl => by
    rw [List.map_map]
    refine List.map_congr_left fun x hx => ?_
    exact if_neg (c := x.ab.1 = e.key) (hl x hx)
  unfold setA
  rw [List.map_append, List.map_cons, List.map_append, List.map_cons, hd ds (fun x hx heq => hnd.2.2 _ (List.mem_map.2 ⟨x, hx, rfl⟩) _ (List.mem_cons_self ..) heq), hd rs (fun x hx heq => hnd.2.1.1 (List.mem_map.2 ⟨x, hx, heq⟩))]
  simp [Fr.ab]

/-- A cache in memory, by what is told of it. -/
def Ck (κ : KT α) (w : World) (fp : List Nat) (p : Nat) (fr : Int) (N : Nat) (l : List (α × Nat)) : Prop :=
  ∃ bh bl us es, CacheAt κ w p bh bl fr us es ∧ us ≤ N ∧ fp = feet p bh bl es ∧ l = es.map Fr.ab

/-- What an operation leaves. -/
def Outc (κ : KT α) (w w' : World) (fp : List Nat) (p : Nat) (fr : Int) (N : Nat) (l : List (α × Nat)) : Prop :=
  ∃ fp', Ck κ w' fp' p fr N l ∧ Kept fp w w' ∧ Newly w fp fp'

variable {κ : KT α} {w w' : World} {fp : List Nat} {p : Nat} {fr : Int} {N : Nat} {l : List (α × Nat)}

theorem Ck.mono (h : Ck κ w fp p fr N l) {M : Nat} (hM : N ≤ M) : Ck κ w fp p fr M l := by
  obtain ⟨bh, bl, us, es, h1, h2, h3⟩ := h
  exact ⟨bh, bl, us, es, h1, Nat.le_trans h2 hM, h3⟩

theorem Ck.lt (h : Ck κ w fp p fr N l) : ∀ x ∈ fp, x < w.heap.size := by
  obtain ⟨bh, bl, us, es, h1, h2, rfl, rfl⟩ := h
  exact h1.lt

theorem Ck.kept {fp2 : List Nat} (h : Ck κ w fp p fr N l) (hk : Kept fp2 w w') (hf : ∀ x ∈ fp, x ∉ fp2) : Ck κ w' fp p fr N l := by
  obtain ⟨bh, bl, us, es, h1, h2, rfl, rfl⟩ := h
  exact ⟨bh, bl, us, es, h1.kept hk hf, h2, rfl, rfl⟩

theorem Ck.below (h : Ck κ w fp p fr N l) (hb : Below w.heap.size w w') : Ck κ w' fp p fr N l := h.kept (fp2 := []) (Kept.of_below hb) (by simp)

theorem Ck.same (h : Ck κ w fp p fr N l) (hb : Below w.heap.size w w') : Outc κ w w' fp p fr N l := ⟨fp, h.below hb, Kept.of_below hb, Newly.refl _ _⟩

theorem Outc.mono (h : Outc κ w w' fp p fr N l) {M : Nat} (hM : N ≤ M) : Outc κ w w' fp p fr M l := by
  obtain ⟨fp', h1, h2, h3⟩ := h
  exact ⟨fp', h1.mono hM, h2, h3⟩

omit [DecidableEq α] in
theorem feet_sub {ds rs : List (Fr α)} {e : Fr α} {p bh bl : Nat} : ∀ x ∈ feet p bh bl (ds ++ rs), x ∈ feet p bh bl (ds ++ e :: rs) := by
  intro x hx
  simp only [feet, List.map_append, List.map_cons, List.mem_cons, List.mem_append] at hx ⊢
  rcases hx with h | h | h | h | h
  · exact .inl h
  · exact .inr (.inl h)
  · exact .inr (.inr (.inl h))
  · exact .inr (.inr (.inr (.inl h)))
  · exact .inr (.inr (.inr (.inr (.inr h))))

end
end Go.Proofs.Ytbhjdcoehgajcaa.L
