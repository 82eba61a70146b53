/-
  What a file has by the pool. A lemma file: no statement of the seat is proved here.
-/
import Derived.Test.YtbhjdcoehgajcaaPStarts
namespace Go.Proofs.Ytbhjdcoehgajcaa.L.P
open Go.RowKit Go.Maps

/-- A page's bytes of a file. -/
def seg (c : List Int) (j : Nat) : List Int := (c.drop (64 * j)).take 64

theorem seg_len (c : List Int) (j : Nat) : (seg c j).length = min 64 (c.length - 64 * j) := by simp [seg]

/-- C tells what each file has by the pool. -/
structure PInv (C : List UInt8 → Option (List Int)) (fr : Int) (l : List Ab) (s : Ds) (ord : List (Place × Nat)) (gs : List Pg) : Prop where
  up : s.down = false
  left : s.left = 0
  page : ∀ g ∈ gs, ∃ c j, C g.key.1.1.data.toList = some c ∧ g.key.1.2 = ((64 * j : Nat) : Int) ∧ 64 * j < c.length ∧ g.bs = seg c j
  file : ∀ nm x, DLook l nm = some x → ∃ c, C nm = some c ∧ c.length = x.2.1.length ∧ ∀ j, (∀ g ∈ gs, g.dirty = true → ¬ (g.key.1.1.data.toList = nm ∧ g.key.1.2 = ((64 * j : Nat) : Int))) → seg x.2.1 j = seg c j
  has : ∀ nm c, C nm = some c → (∃ x, DLook l nm = some x) ∧ c.length ≤ 100000
  pins : ∀ y ∈ ord, y.2 = 0
  keys : ∀ k, (∃ y ∈ ord, y.1 = k) ↔ ∃ g ∈ gs, g.key = k
  len : (ord.length : Int) ≤ fr
  one : 1 ≤ fr

section
variable {C : List UInt8 → Option (List Int)} {fr : Int} {l : List Ab} {s : Ds} {ord : List (Place × Nat)} {gs : List Pg}

theorem begin_eq (h : s.left = 0) : beginA l s = (l, { s with ops := s.ops + 1 }) := by unfold beginA; rw [if_pos h]

theorem err_none {nm : List UInt8} {x : Ab} (hd : s.down = false) (hx : DLook l nm = some x) : errA (l, s) nm = none := by
  unfold errA
  rw [if_neg (by simp [hd])]
  have hx2 : Go.Proofs.Ytbhjdcoehgajcaa.lookA l nm = some x := hx
  dsimp only
  rw [hx2]

theorem PInv.begins (h : PInv C fr l s ord gs) : PInv C fr l { s with ops := s.ops + 1 } ord gs := ⟨h.up, h.left, h.page, h.file, h.has, h.pins, h.keys, h.len, h.one⟩

/-- The frames when no page has to go. -/
theorem L.look_none {k : Place} (h : ∀ y ∈ ord, y.1 ≠ k) : lookA ord k = none := by
  unfold lookA
  rw [Option.map_eq_none_iff, List.find?_eq_none]
  intro y hy
  simpa using h y hy

theorem L.look_some {k : Place} (h : ∃ y ∈ ord, y.1 = k) (hp : ∀ y ∈ ord, y.2 = 0) : lookA ord k = some 0 := by
  unfold lookA
  cases hf : ord.find? (fun x => decide (x.1 = k)) with
  | none =>
    obtain ⟨y, hy, e⟩ := h
    have := List.find?_eq_none.1 hf y hy
    simp [e] at this
  | some y => simp [hp y (List.mem_of_find?_eq_some hf)]

theorem first_ne (hp : ∀ y ∈ ord, y.2 = 0) (hl : 1 ≤ (ord.length : Int)) : ∃ y r, ord = y :: r ∧ firstA ord = some y.1 := by
  cases ord with
  | nil => simp at hl
  | cons y r =>
    refine ⟨y, r, rfl, ?_⟩
    unfold firstA
    rw [List.find?_cons, decide_eq_true (hp y (by simp))]
    rfl

theorem delA_mem {k : Place} {y : Place × Nat} : y ∈ delA ord k ↔ y ∈ ord ∧ y.1 ≠ k := by
  unfold delA
  rw [List.mem_filter]
  simp

theorem delA_short {k : Place} (h : ∃ y ∈ ord, y.1 = k) : (delA ord k).length + 1 ≤ ord.length := by
  obtain ⟨y, hy, rfl⟩ := h
  obtain ⟨a, b, rfl⟩ := List.append_of_mem hy
  unfold delA
  rw [List.filter_append, List.filter_cons]
  simp
  have h1 := List.length_filter_le (fun x : Place × Nat => !decide (x.1 = y.1)) a
  have h2 := List.length_filter_le (fun x : Place × Nat => !decide (x.1 = y.1)) b
  omega

/-- A page that is held is used. -/
theorem PInv.used (h : PInv C fr l s ord gs) {k : Place} (hk : ∃ g ∈ gs, g.key = k) : useA fr ord k = (none, 0, delA ord k ++ [(k, 0)]) ∧ PInv C fr l s (delA ord k ++ [(k, 0)]) gs := by
  have ho := (h.keys k).2 hk
  refine ⟨by unfold useA; rw [L.look_some ho h.pins], h.up, h.left, h.page, h.file, h.has, fun y hy => ?_, fun k2 => ?_, ?_, h.one⟩
  · rcases List.mem_append.1 hy with hy | hy
    · exact h.pins y (delA_mem.1 hy).1
    · simp at hy
      rw [hy]
  · rw [← h.keys k2]
    constructor
    · rintro ⟨y, hy, rfl⟩
      rcases List.mem_append.1 hy with hy | hy
      · exact ⟨y, (delA_mem.1 hy).1, rfl⟩
      · simp at hy
        rw [hy]
        exact ho
    · rintro ⟨y, hy, rfl⟩
      by_cases e : y.1 = k
      · exact ⟨(k, 0), by simp, e.symm⟩
      · exact ⟨y, List.mem_append.2 (.inl (delA_mem.2 ⟨hy, e⟩)), rfl⟩
  · have := delA_short ho
    have := h.len
    simp
    omega

/-- The bytes that a page is read as. -/
theorem PInv.bytes (h : PInv C fr l s ord gs) {k : Place} {c : List Int} {j : Nat} (hc : C k.1.1.data.toList = some c) (hj : k.1.2 = ((64 * j : Nat) : Int)) (hno : ∀ g ∈ gs, g.key ≠ k) :
    ∃ x, DLook l k.1.1.data.toList = some x ∧ x.2.1.length = c.length ∧ (x.2.1.drop (64 * j)).take (min 64 (c.length - 64 * j)) = seg c j := by
  obtain ⟨⟨x, hx⟩, _⟩ := h.has _ _ hc
  obtain ⟨c2, hc2, hl, hs⟩ := h.file _ _ hx
  rw [hc] at hc2
  cases hc2
  have := hs j (fun g hg _ e => hno g hg (by
    apply Subtype.ext
    apply Prod.ext
    · obtain ⟨e1, _⟩ := e
      cases hb : g.key.1.1
      cases hb2 : k.1.1
      rw [hb, hb2] at e1
      simp at e1
      rw [e1]
    · rw [e.2, hj]))
  refine ⟨x, hx, hl.symm, ?_⟩
  rw [← this]
  unfold seg
  have e : (x.2.1.drop (64 * j)).length = c.length - 64 * j := by rw [List.length_drop, hl]
  by_cases h6 : c.length - 64 * j ≤ 64
  · rw [Nat.min_eq_right h6, List.take_of_length_le (by omega), List.take_of_length_le (by omega)]
  · rw [Nat.min_eq_left (by omega)]

/-- A page read, and laid in. -/
theorem PInv.snoc (h : PInv C fr l s ord gs) {g : Pg} {c : List Int} {j : Nat} (hc : C g.key.1.1.data.toList = some c) (hj : g.key.1.2 = ((64 * j : Nat) : Int)) (hlt : 64 * j < c.length) (hb : g.bs = seg c j) (hd : g.dirty = false) (hl : (ord.length : Int) < fr) : PInv C fr l s (ord ++ [(g.key, 0)]) (gs ++ [g]) := by
  refine ⟨h.up, h.left, fun x hx => ?_, fun nm x hx => ?_, h.has, fun y hy => ?_, fun k => ?_, by simp; omega, h.one⟩
  · rcases List.mem_append.1 hx with hx | hx
    · exact h.page x hx
    · simp at hx
      subst hx
      exact ⟨c, j, hc, hj, hlt, hb⟩
  · obtain ⟨c2, e1, e2, e3⟩ := h.file nm x hx
    refine ⟨c2, e1, e2, fun i hi => e3 i (fun y hy hyd => hi y (by simp [hy]) hyd)⟩
  · rcases List.mem_append.1 hy with hy | hy
    · exact h.pins y hy
    · simp at hy
      rw [hy]
  · constructor
    · rintro ⟨y, hy, rfl⟩
      rcases List.mem_append.1 hy with hy | hy
      · obtain ⟨x, hx, e⟩ := (h.keys y.1).1 ⟨y, hy, rfl⟩
        exact ⟨x, by simp [hx], e⟩
      · simp at hy
        exact ⟨g, by simp, by rw [hy]⟩
    · rintro ⟨x, hx, rfl⟩
      rcases List.mem_append.1 hx with hx | hx
      · obtain ⟨y, hy, e⟩ := (h.keys x.key).2 ⟨x, hx, rfl⟩
        exact ⟨y, by simp [hy], e⟩
      · simp at hx
        exact ⟨(g.key, 0), by simp, by rw [hx]⟩

/-- A page that is not dirty gone. -/
theorem PInv.gone {a b : List Pg} {g : Pg} (h : PInv C fr l s ord (a ++ g :: b)) (hnd : ((a ++ g :: b).map Pg.key).Nodup) (hd : g.dirty = false) : PInv C fr l s (delA ord g.key) (a ++ b) := by
  have hmem : ∀ x ∈ a ++ b, x ∈ a ++ g :: b ∧ x.key ≠ g.key := fun x hx => by
    rw [List.map_append, List.map_cons, List.nodup_append, List.nodup_cons] at hnd
    rcases List.mem_append.1 hx with hx | hx
    · exact ⟨by simp [hx], fun e => hnd.2.2 _ (List.mem_map.2 ⟨x, hx, rfl⟩) _ (List.mem_cons_self ..) e⟩
    · exact ⟨by simp [hx], fun e => hnd.2.1.1 (List.mem_map.2 ⟨x, hx, e⟩)⟩
  have hs := delA_short ((h.keys g.key).2 ⟨g, by simp, rfl⟩)
  refine ⟨h.up, h.left, fun x hx => h.page x (hmem x hx).1, fun nm x hx => ?_, h.has, fun y hy => h.pins y (delA_mem.1 hy).1, fun k => ?_, by have := h.len; omega, h.one⟩
  · obtain ⟨c2, e1, e2, e3⟩ := h.file nm x hx
    refine ⟨c2, e1, e2, fun i hi => e3 i (fun y hy hyd => ?_)⟩
    rcases List.mem_append.1 hy with hy | hy
    · exact hi y (by simp [hy]) hyd
    · rcases List.mem_cons.1 hy with rfl | hy
      · rw [hd] at hyd; cases hyd
      · exact hi y (by simp [hy]) hyd
  · constructor
    · rintro ⟨y, hy, rfl⟩
      obtain ⟨h1, h2⟩ := delA_mem.1 hy
      obtain ⟨x, hx, e⟩ := (h.keys y.1).1 ⟨y, h1, rfl⟩
      refine ⟨x, ?_, e⟩
      rcases List.mem_append.1 hx with hx | hx
      · simp [hx]
      · rcases List.mem_cons.1 hx with rfl | hx
        · exact absurd e.symm h2
        · simp [hx]
    · rintro ⟨x, hx, rfl⟩
      obtain ⟨h1, h2⟩ := hmem x hx
      obtain ⟨y, hy, e⟩ := (h.keys x.key).2 ⟨x, h1, rfl⟩
      exact ⟨y, delA_mem.2 ⟨hy, by rw [e]; exact h2⟩, e⟩

end
end Go.Proofs.Ytbhjdcoehgajcaa.L.P
