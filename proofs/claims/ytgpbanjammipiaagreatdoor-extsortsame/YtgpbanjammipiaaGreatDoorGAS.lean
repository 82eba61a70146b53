/-
  Lemma texts, one behind the other: XSor, XFill. No statement of the seat is proved here.
-/
import Derived.Test.YtgpbanjammipiaaGreatDoorGAR
import Derived.Test.YtgpbanjammipiaaGreatDoorGAN
import Derived.ArgAppend
namespace Go.Proofs.YtgpbanjammipiaaGreatDoor
open Go.RowKit Go.Maps

/-! ### Rows of numbers, anywhere in their blocks -/

/-- A row of numbers of one's own: nil, or a part of a block. -/
def RowO (w : World) (v : Value) (l : List Nat) : Prop :=
  (v = .slice none 0 0 ∧ l = []) ∨ ∃ g off cap cur, v = .slice (some ⟨g, off, none⟩) l.length cap ∧ l.length ≤ cap ∧ cap ≤ maxLen ∧ w.heap[g]? = some (.cells cur 3 (0, 0)) ∧ off + cap ≤ cur.size ∧ ∀ j, j < l.length → cur[off + j]? = some (.int .i64 (l[j]! : Nat))

/-- A slice that holds numbers. -/
def IsI (w : World) (v : Value) (l : List Nat) : Prop :=
  ∃ a cap, v = .slice a l.length cap ∧ l.length ≤ cap ∧ cap ≤ maxLen ∧ (a = none → l = [] ∧ cap = 0) ∧ ∀ x, a = some x → ∀ j, j < l.length → w.cell? (x.add j) = some (.int .i64 (l[j]! : Nat))

theorem Tryz.infoI : (Tryz.prog.info? 3).map (fun i => (i.zero, i.size, i.bytes)) = some (some (.int .i64 0), 1, 8) := by kernel_rfl

section
variable {w w' : World} {v : Value} {l : List Nat}

theorem RowO.nil (w : World) : RowO w (.slice none 0 0) [] := .inl ⟨rfl, rfl⟩
theorem RowO.form (h : RowO w v l) : ∃ a cap, v = .slice a l.length cap ∧ l.length ≤ cap := by
  rcases h with ⟨rfl, rfl⟩ | ⟨g, off, cap, cur, rfl, h1, _⟩
  · exact ⟨none, 0, rfl, Nat.le_refl _⟩
  · exact ⟨_, cap, rfl, h1⟩
theorem RowO.low (h : RowO w v l) : ∀ x ∈ own v, x < w.heap.size := by
  rcases h with ⟨rfl, rfl⟩ | ⟨g, off, cap, cur, rfl, h1, h2, h3, _⟩
  · simp [own, Value.ownBlock]
  · intro x hx
    simp [own, Value.ownBlock] at hx
    subst hx
    exact heap_lt h3
theorem RowO.kept {fp : List Nat} (h : RowO w v l) (hk : Kept fp w w') (hf : ∀ x ∈ own v, x ∉ fp) : RowO w' v l := by
  rcases h with ⟨rfl, rfl⟩ | ⟨g, off, cap, cur, rfl, h1, h2, h3, h4⟩
  · exact .inl ⟨rfl, rfl⟩
  · exact .inr ⟨g, off, cap, cur, rfl, h1, h2, hk.heap9 h3 (hf g (by simp [own, Value.ownBlock])), h4⟩

theorem RowO.isI (h : RowO w v l) : IsI w v l := by
  rcases h with ⟨rfl, rfl⟩ | ⟨g, off, cap, cur, rfl, h1, h2, h3, h4, h5⟩
  · exact ⟨none, 0, rfl, Nat.le_refl _, by simp, fun _ => ⟨rfl, rfl⟩, by simp⟩
  · refine ⟨_, cap, rfl, h1, h2, by simp, fun x hx => ?_⟩
    simp only [Option.some.injEq] at hx
    subst hx
    intro j hj
    rw [Addr.add_lit]
    exact (cell_of_heap h3 _).trans (h5 j hj)

theorem RowO.first {x : Nat} (h : RowO w v (x :: l)) : ∃ g off cap, v = .slice (some ⟨g, off, none⟩) (l.length + 1) cap ∧ l.length + 1 ≤ cap ∧ w.cell? ⟨g, off, none⟩ = some (.int .i64 (x : Nat)) ∧ own v = [g] := by
  rcases h with ⟨_, h⟩ | ⟨g, off, cap, cur, rfl, h1, h2, h3, h4, h5⟩
  · cases h
  · refine ⟨g, off, cap, rfl, h1, ?_, by simp [own, Value.ownBlock]⟩
    have := h5 0 (by simp)
    rw [cell_of_heap h3 off]
    simpa using this

/-- 'rows[1:]'. -/
theorem RowO.tail {x : Nat} {g off cap : Nat} (h : RowO w (.slice (some ⟨g, off, none⟩) (l.length + 1) cap) (x :: l)) : RowO w (.slice (if cap = 1 then some ⟨g, off, none⟩ else some ⟨g, off + 1, none⟩) (l.length + 1 - 1) (cap - 1)) l := by
  rcases h with ⟨e, h⟩ | ⟨g', off', cap', cur, e, h1, h2, h3, h4, h5⟩
  · cases h
  · simp only [List.length_cons, Value.slice.injEq, Option.some.injEq, Addr.mk.injEq, and_true, true_and] at e
    obtain ⟨⟨rfl, rfl⟩, rfl⟩ := e
    simp only [List.length_cons] at h1
    by_cases hc : cap = 1
    · subst hc
      obtain rfl : l = [] := List.eq_nil_of_length_eq_zero (by omega)
      refine .inr ⟨g, off, 0, cur, by simp, by simp, by unfold maxLen; omega, h3, by omega, by simp⟩
    · refine .inr ⟨g, off + 1, cap - 1, cur, by rw [if_neg hc]; rfl, by omega, by omega, h3, by omega, fun j hj => ?_⟩
      have := h5 (j + 1) (by simpa using hj)
      rw [show off + 1 + j = off + (j + 1) by omega, this]
      simp

/-- What lies ahead of the row's end stays. -/
def Ahead (w w' : World) (v : Value) : Prop := ∀ g j, g < w.heap.size → (∀ off n cap, v = .slice (some ⟨g, off, none⟩) n cap → j < off + n ∨ cap = 0) → w'.cell? ⟨g, j, none⟩ = w.cell? ⟨g, j, none⟩

/-- The row's end, if it is in that block, is not ahead of m. -/
def endIn (v : Value) (g : Nat) (m : Nat) : Prop := ∀ off n cap, v = .slice (some ⟨g, off, none⟩) n cap → m ≤ off + n ∨ cap = 0

theorem RowO.of_owns {base : Nat} (h : w.ownsRow base 3 1 v l.length (l.map fun (x : Nat) => Value.int .i64 (x : Int))) : RowO w v l := by
  rcases h.2 with ⟨e, h0⟩ | ⟨g', cap', cur, e, _, hgc, hn', hm, hs, ht⟩
  · exact .inl ⟨e, List.eq_nil_of_length_eq_zero h0⟩
  · refine .inr ⟨g', 0, cap', cur, e, hn', hm, hgc, by omega, fun j hj => ?_⟩
    have h9 := congrArg (·[j]?) ht
    simp only [Nat.mul_one, List.getElem?_take_of_lt hj, List.getElem?_map, List.getElem?_eq_getElem hj, Option.map_some] at h9
    rw [Nat.zero_add, getElem!_pos l j hj]
    simpa using h9

theorem RowO.push (h : RowO w v l) (x : Nat) {b : Nat} (hb : w.cell? ⟨b, 0, none⟩ = some (.int .i64 (x : Nat))) (hl : l.length ≤ 1000000) (ty : TypeId) :
    ∃ v' w', (Builtin.append_ #[75, 75] ty #[v, .slice (some ⟨b, 0, none⟩) 1 1]).run Tryz.prog w = .ok v' w' ∧ RowO w' v' (l ++ [x]) ∧ Kept (own v) w w' ∧ Newly w (own v) (own v') ∧ Ahead w w' v ∧ (∀ g m, g < w.heap.size → endIn v g m → endIn v' g m) := by
  obtain ⟨i0, hi, hz0, hz1, hz2⟩ := info_parts Tryz.infoI
  have hnews : ∀ j u, ([.int .i64 (x : Nat)] : List Value)[j]? = some u → w.cell? ((⟨b, 0, none⟩ : Addr).add j) = some u := fun j u hu => by
    match j, hu with
    | 0, hu =>
      simp only [List.getElem?_cons_zero, Option.some.injEq] at hu
      subst hu
      simpa [Addr.add] using hb
    | j + 1, hu => simp at hu
  rcases h with ⟨rfl, rfl⟩ | ⟨g, off, cap, cur, rfl, h1, h2, h3, h4, h5⟩
  · obtain ⟨v', w', hr, ho, hg, hn, hat⟩ := run_append_own_at (P := Tryz.prog) w 0 75 ty 3 i0 (.int .i64 0) 1 8 Tryz.underlying75 hi hz0 hz1 hz2 rfl (by decide) (.slice none 0 0) 0 [] (World.ownsRow_nil _ _ _ _) ⟨b, 0, none⟩ 1 1 [.int .i64 (x : Nat)] rfl hnews (by simp [Value.oneCell']) (by unfold maxLen; omega) (by omega) (Nat.zero_le _)
    have kk : Kept [] w w' := by simpa [Value.ownBlock] using Kept.of_grown hg
    have hown : v'.ownBlock = none ∨ v'.ownBlock = some w.heap.size := by simpa [Value.ownBlock] using hat
    have hat' : ∀ y ∈ own v', y = w.heap.size := fun y hy => by
      rcases hown with e | e
      · simp [own, e] at hy
      · simpa [own, e] using hy
    refine ⟨v', w', hr, RowO.of_owns (base := 0) (by simpa using ho), kk.mono (by simp), fun y hy => .inr (by rw [hat' y hy]; exact Nat.le_refl _), fun g j hg' _ => World.cell?_of_block (w := w) (kk.block g hg' (by simp)), fun g m hg' _ off' n' cap' e => ?_⟩
    have := hat' g (by rw [e]; simp [own, Value.ownBlock])
    omega
  · by_cases hroom : l.length + 1 ≤ cap
    · have hlt := heap_lt h3
      have hrun := run_append_room_cells (P := Tryz.prog) w 75 ty 3 i0 Tryz.underlying75 hi g off l.length cap ⟨b, 0, none⟩ 1 1 [.int .i64 (x : Nat)] (by rw [hz1]; rfl) hnews (by simp [Value.oneCell']) hroom
        (fun j hj => by
          have : j = 0 := by simpa using hj
          subst this
          rw [hz1, cell_of_heap h3, Array.getElem?_eq_getElem (by omega)]
          rfl) (fun j _ => frozen_of_heap h3 _)
      rw [hz1, Nat.mul_one] at hrun
      have e1 : w.setCells g (off + l.length) [.int .i64 (x : Nat)] = w.setCell ⟨g, off + l.length, none⟩ (.int .i64 (x : Nat)) := by simp [World.setCells]
      rw [e1] at hrun
      have hc := heap_setCell h3 (off + l.length) (.int .i64 (x : Nat))
      refine ⟨_, _, hrun, .inr ⟨g, off, cap, _, by simp, by simpa using hroom, h2, hc, by simp; omega, fun j hj => ?_⟩, (Kept.refl _ _).setCell (.inl (by simp [own, Value.ownBlock])) _, fun y hy => .inl (by simpa [own, Value.ownBlock] using hy), fun g' j hg' he => ?_, fun g' m hg' he off' n' cap' e => ?_⟩
      · rcases Nat.lt_or_ge j l.length with hj' | hj'
        · have : (l ++ [x])[j]! = l[j]! := by rw [getElem!_pos (l ++ [x]) j (by simp; omega), getElem!_pos l j hj', List.getElem_append_left hj']
          rw [this, Array.getElem?_setIfInBounds, if_neg (by omega)]
          exact h5 j hj'
        · have hje : j = l.length := by simp at hj; omega
          subst hje
          rw [Array.getElem?_setIfInBounds, if_pos rfl, if_pos (by omega)]
          simp
      · by_cases hgg : g' = g
        · subst hgg
          have := he off l.length cap rfl
          rw [cell_of_heap hc, cell_of_heap h3, Array.getElem?_setIfInBounds, if_neg (by omega)]
        · exact World.cell?_of_block (w := w) (((Kept.refl [g] w).setCell (p := ⟨g, off + l.length, none⟩) (.inl (by simp)) _).block g' hg' (by simpa using hgg))
      · simp only [Value.slice.injEq, Option.some.injEq, Addr.mk.injEq, and_true] at e
        obtain ⟨⟨rfl, rfl⟩, rfl, rfl⟩ := e
        have := he off l.length cap rfl
        omega
    · obtain ⟨v', w', hr, ho, hg⟩ := run_append_arg_grows (P := Tryz.prog) w 75 ty 3 i0 (.int .i64 0) 1 8 Tryz.underlying75 hi hz0 hz1 hz2 rfl (by decide) ⟨g, off, none⟩ l.length cap (l.map fun (x : Nat) => Value.int .i64 (x : Int)) (by simp)
        (fun j u hu => by
          rw [Addr.add_lit, cell_of_heap h3]
          rw [List.getElem?_map] at hu
          cases hj : l[j]? with
          | none => rw [hj] at hu; simp at hu
          | some y =>
            rw [hj] at hu
            have hlt := (List.getElem?_eq_some_iff.1 hj).1
            have := h5 j hlt
            rw [getElem!_pos l j hlt, (List.getElem?_eq_some_iff.1 hj).2] at this
            simp only [Option.map_some, Option.some.injEq] at hu
            rw [this, ← hu]) ⟨b, 0, none⟩ 1 1 [.int .i64 (x : Nat)] rfl hnews (by omega) (by unfold maxLen; omega) (by omega)
      have kk : Kept [] w w' := by simpa [Value.ownBlock] using Kept.of_grown hg
      have hat' : ∀ y ∈ own v', w.heap.size ≤ y := fun y hy => (World.ownsRow.lt ho y (by simpa [own] using hy)).1
      refine ⟨v', w', hr, RowO.of_owns (base := w.heap.size) (by simpa using ho), kk.mono (by simp), fun y hy => .inr (hat' y hy), fun g' j hg' _ => World.cell?_of_block (w := w) (kk.block g' hg' (by simp)), fun g' m hg' _ off' n' cap' e => ?_⟩
      · have := hat' g' (by rw [e]; simp [own, Value.ownBlock])
        omega

end

/-! ### The sorter -/

/-- What stays of a sorter: the disk's block, the text of its rows' names, budget, fan, how. -/
structure Skn where
  p : Nat
  temp : ByteArray
  bud : Nat
  fan : Nat
  how : Int

/-- Its cells. -/
def scells (k : Skn) (cnt : Nat) (hv rv : Value) (last : Nat) : Array Value :=
  #[.pointer (some ⟨k.p, 0, none⟩), .string k.temp, .int .i64 (k.bud : Int), .int .i64 (k.fan : Int), .int .i64 k.how, .int .i64 (cnt : Int), hv, .slice none 0 0, rv, .int .i64 (last : Int)]

/-- A sorter in block sp: H is held (rising), R are the numbers of its rows. -/
structure SoM (w : World) (sp : Nat) (k : Skn) (cnt : Nat) (hv rv : Value) (H : List Rc) (R : List Nat) (last : Nat) : Prop where
  cells : w.heap[sp]? = some (.cells (scells k cnt hv rv last) 77 (0, 0))
  heap : ∃ l, RowR w hv l ∧ HeapOf l H
  rows : RowO w rv R
  hs : sp ∉ own hv
  rs : sp ∉ own rv
  hr : ∀ x ∈ own hv, x ∉ own rv

/-- Its blocks. -/
def sofp (sp : Nat) (hv rv : Value) : List Nat := sp :: (own hv ++ own rv)
theorem sofp_mem {sp : Nat} {hv rv : Value} {x : Nat} : x ∈ sofp sp hv rv ↔ x = sp ∨ x ∈ own hv ∨ x ∈ own rv := by simp [sofp]

section
variable {w w' : World} {sp : Nat} {k : Skn} {cnt : Nat} {hv rv : Value} {H : List Rc} {R : List Nat} {last : Nat}

theorem SoM.lt (h : SoM w sp k cnt hv rv H R last) : ∀ x ∈ sofp sp hv rv, x < w.heap.size := fun x hx => by
  obtain ⟨l, hl, _⟩ := h.heap
  rcases sofp_mem.1 hx with rfl | hx | hx
  · exact heap_lt h.cells
  · exact hl.low x hx
  · exact h.rows.low x hx
theorem SoM.kept {fp : List Nat} (h : SoM w sp k cnt hv rv H R last) (hk : Kept fp w w') (hf : ∀ x ∈ sofp sp hv rv, x ∉ fp) : SoM w' sp k cnt hv rv H R last := by
  obtain ⟨l, hl, ho⟩ := h.heap
  exact ⟨hk.heap9 h.cells (hf sp (sofp_mem.2 (.inl rfl))), ⟨l, hl.kept hk (fun x hx => hf x (sofp_mem.2 (.inr (.inl hx)))), ho⟩, h.rows.kept hk (fun x hx => hf x (sofp_mem.2 (.inr (.inr hx)))), h.hs, h.rs, h.hr⟩
theorem SoM.below (h : SoM w sp k cnt hv rv H R last) (hb : Below w.heap.size w w') : SoM w' sp k cnt hv rv H R last := h.kept (fp := []) (Kept.of_below hb) (by simp)
theorem SoM.cellAt (h : SoM w sp k cnt hv rv H R last) : w.cell? ⟨sp, 0, none⟩ = some (.pointer (some ⟨k.p, 0, none⟩)) ∧ w.cell? ⟨sp, 1, none⟩ = some (.string k.temp) ∧ w.cell? ⟨sp, 2, none⟩ = some (.int .i64 (k.bud : Int)) ∧ w.cell? ⟨sp, 3, none⟩ = some (.int .i64 (k.fan : Int)) ∧
    w.cell? ⟨sp, 4, none⟩ = some (.int .i64 k.how) ∧ w.cell? ⟨sp, 5, none⟩ = some (.int .i64 (cnt : Int)) ∧ w.cell? ⟨sp, 8, none⟩ = some rv ∧ w.cell? ⟨sp, 9, none⟩ = some (.int .i64 (last : Int)) ∧ ∀ o, w.frozen? ⟨sp, o, none⟩ = false :=
  ⟨(cell_of_heap h.cells 0).trans rfl, (cell_of_heap h.cells 1).trans rfl, (cell_of_heap h.cells 2).trans rfl, (cell_of_heap h.cells 3).trans rfl, (cell_of_heap h.cells 4).trans rfl, (cell_of_heap h.cells 5).trans rfl, (cell_of_heap h.cells 8).trans rfl, (cell_of_heap h.cells 9).trans rfl, fun o => frozen_of_heap h.cells o⟩

theorem SoM.held (h : SoM w sp k cnt hv rv H R last) : ∃ l, HeapIn w sp 6 (scells k cnt hv rv last) 77 hv l ∧ HeapOf l H := by
  obtain ⟨l, hl, ho⟩ := h.heap
  exact ⟨l, ⟨h.cells, rfl, rfl, hl, h.hs⟩, ho⟩

theorem SoM.rises (h : SoM w sp k cnt hv rv H R last) : Rises H := by
  obtain ⟨l, hl, ho⟩ := h.heap
  exact ho.rises
theorem SoM.ok (h : SoM w sp k cnt hv rv H R last) : ∀ e ∈ H, okR e := by
  obtain ⟨l, hl, ho⟩ := h.heap
  exact fun e he => hl.2 e (ho.perm.mem_iff.2 he)

/-- Another heap. -/
theorem SoM.turn (h : SoM w sp k cnt hv rv H R last) {hv' : Value} {l' H' : List Rc} (hi : HeapIn w' sp 6 ((scells k cnt hv rv last).setIfInBounds 6 hv') 77 hv' l') (ho : HeapOf l' H') (hk : Kept (sp :: own hv) w w') (hn : Newly w (own hv) (own hv')) :
    SoM w' sp k cnt hv' rv H' R last ∧ Newly w (sofp sp hv rv) (sofp sp hv' rv) ∧ Kept (sofp sp hv rv) w w' := by
  have hd : ∀ x ∈ own rv, x ∉ sp :: own hv := fun x hx e => by
    rcases List.mem_cons.1 e with rfl | e
    · exact h.rs hx
    · exact h.hr x e hx
  refine ⟨⟨hi.cells, ⟨l', hi.row, ho⟩, h.rows.kept hk hd, hi.apart, h.rs, fun x hx e => ?_⟩, fun x hx => ?_, hk.mono (fun x hx => ?_)⟩
  · rcases hn x hx with h1 | h1
    · exact h.hr x h1 e
    · have := h.rows.low x e; omega
  · rcases sofp_mem.1 hx with rfl | hx | hx
    · exact .inl (sofp_mem.2 (.inl rfl))
    · exact (hn x hx).imp (fun e => sofp_mem.2 (.inr (.inl e))) id
    · exact .inl (sofp_mem.2 (.inr (.inr hx)))
  · rcases List.mem_cons.1 hx with rfl | hx
    · exact sofp_mem.2 (.inl rfl)
    · exact sofp_mem.2 (.inr (.inl hx))

theorem SoM.len (h : SoM w sp k cnt hv rv H R last) (hmax : H.length ≤ 1000000) :
    Calls Tryz.prog 77 #[.pointer (some ⟨sp, 6, none⟩)] w fun e w' => e = .returned (.int .i64 H.length) ∧ ∃ m, w' = w.drewN m := by
  obtain ⟨l, hi, ho⟩ := h.held
  rw [← ho.perm.length_eq] at hmax ⊢
  exact jlen_quiet hi hmax

theorem SoM.push (h : SoM w sp k cnt hv rv H R last) (hmax : H.length ≤ 100000) (x1 x2 : Int) (hx : okR (x1, x2)) :
    Calls Tryz.prog 78 #[.pointer (some ⟨sp, 6, none⟩), .agg #[.int .u64 x1, .int .u64 x2]] w fun e w' => e = .returned (.tuple #[]) ∧
      ∃ hv', SoM w' sp k cnt hv' rv (insR (x1, x2) H) R last ∧ Newly w (sofp sp hv rv) (sofp sp hv' rv) ∧ Kept (sofp sp hv rv) w w' := by
  obtain ⟨l, hi, ho⟩ := h.held
  refine (jpush_any hi (by rw [ho.perm.length_eq]; exact hmax) ho.heap x1 x2 hx).mono ?_
  rintro e w' ⟨rfl, hv', l', hi', hh, hp, hk, hn⟩
  exact ⟨rfl, hv', h.turn hi' ⟨hh, (hp.trans ((List.perm_append_singleton (x1, x2) l).trans ((ho.perm.cons (x1, x2)).trans (insR_perm (x1, x2) H).symm))), insR_rises (x1, x2) ho.rises⟩ hk hn⟩

theorem SoM.pop_cons {x1 x2 : Int} (h : SoM w sp k cnt hv rv ((x1, x2) :: H) R last) (hmax : H.length ≤ 100000) :
    Calls Tryz.prog 80 #[.pointer (some ⟨sp, 6, none⟩)] w fun e w' => e = .returned (.tuple #[.agg #[.int .u64 x1, .int .u64 x2], .bool true]) ∧
      ∃ hv', SoM w' sp k cnt hv' rv H R last ∧ Newly w (sofp sp hv rv) (sofp sp hv' rv) ∧ Kept (sofp sp hv rv) w w' := by
  obtain ⟨l, hi, ho⟩ := h.held
  have hlen := ho.perm.length_eq
  simp only [List.length_cons] at hlen
  have hf := ho.first (x1, x2) H rfl
  refine (jpop_some hi (by omega) (by omega) ho.heap).mono ?_
  rw [hf]
  rintro e w' ⟨rfl, hv', l', hi', hh, hp, hk, hn⟩
  exact ⟨rfl, hv', h.turn hi' ⟨hh, List.Perm.cons_inv (hp.trans ho.perm), (List.pairwise_cons.1 ho.rises).2⟩ hk hn⟩

theorem SoM.pop_nil (h : SoM w sp k cnt hv rv [] R last) :
    Calls Tryz.prog 80 #[.pointer (some ⟨sp, 6, none⟩)] w fun e w' => e = .returned (.tuple #[.agg #[.int .u64 0, .int .u64 0], .bool false]) ∧ Kept [] w w' := by
  obtain ⟨l, hi, ho⟩ := h.held
  obtain rfl : l = [] := List.eq_nil_of_length_eq_zero (by simpa using ho.perm.length_eq)
  exact jpop_none hi

end

/-! ### pop feeds -/

theorem popRes (tmps : Array Value) (w : World) (b : Nat) (x1 x2 : Int) (h2 : tmps.getD 2 undef = .pointer (some ⟨b, 0, none⟩)) (c1 : w.cell? ⟨b, 0, none⟩ = some (.int .u64 x1)) (c2 : w.cell? ⟨b, 1, none⟩ = some (.int .u64 x2)) :
    (results Tryz.f56 tmps).run Tryz.prog w = .ok (.tuple #[.agg #[.int .u64 x1, .int .u64 x2], tmps.getD 3 undef, tmps.getD 4 undef]) w := by
  have h2' : tmps[2]?.getD undef = .pointer (some ⟨b, 0, none⟩) := by simpa using h2
  simp [results, Tryz.results56, go_sem, h2', c1, c2]

set_option maxRecDepth 100000 in
set_option maxHeartbeats 2000000 in
theorem pop_any {w : World} {sp : Nat} {k : Skn} {cnt : Nat} {hv rv : Value} {S : List Rc} {R : List Nat} {last : Nat} (h : SoM w sp k cnt hv rv S R last) (hmax : S.length ≤ 100000) :
    Calls Tryz.prog 56 #[.pointer (some ⟨sp, 0, none⟩)] w fun e w' => ∃ y b S' hv', e = .returned (.tuple #[valR y, .bool b, .int .i64 0]) ∧ SoM w' sp k cnt hv' rv S' R last ∧ Newly w (sofp sp hv rv) (sofp sp hv' rv) ∧ Kept (sofp sp hv rv) w w' ∧ ((S = y :: S' ∧ b = true) ∨ (S = [] ∧ S' = [] ∧ b = false)) := by
  obtain ⟨w1, hw1⟩ : ∃ w1, w1 = w.alloc (.cells #[.int .u64 0, .int .u64 0] 52) := ⟨_, rfl⟩
  have bb : Below w.heap.size w w1 := by rw [hw1]; exact (Below.refl _ w).alloc (Nat.le_refl _) _
  have h1 := h.below bb
  have hbx : w1.heap[w.heap.size]? = some (.cells #[.int .u64 0, .int .u64 0] 52 (0, 0)) := by rw [hw1]; exact heap_alloc_new w _
  have hlt := h.lt
  have PP : Calls Tryz.prog 80 #[.pointer (some ⟨sp, 6, none⟩)] w1 fun e w' => ∃ y1 y2 b S' hv', e = .returned (.tuple #[.agg #[.int .u64 y1, .int .u64 y2], .bool b]) ∧ SoM w' sp k cnt hv' rv S' R last ∧ Newly w1 (sofp sp hv rv) (sofp sp hv' rv) ∧ Kept (sofp sp hv rv) w1 w' ∧ ((S = (y1, y2) :: S' ∧ b = true) ∨ (S = [] ∧ S' = [] ∧ b = false)) := by
    cases S with
    | nil =>
      refine h1.pop_nil.mono ?_
      rintro e w' ⟨rfl, k1⟩
      exact ⟨0, 0, false, [], hv, rfl, h1.kept k1 (by simp), Newly.refl _ _, k1.mono (by simp), .inr ⟨rfl, rfl, rfl⟩⟩
    | cons y S =>
      obtain ⟨y1, y2⟩ := y
      refine (h1.pop_cons (by simp at hmax; omega)).mono ?_
      rintro e w' ⟨rfl, hv', s1, n1, k1⟩
      exact ⟨y1, y2, true, S, hv', rfl, s1, n1, k1, .inl ⟨rfl, rfl⟩⟩
  have HPP := hide PP
  have HB := hide (And.intro bb (And.intro hbx hlt))
  rw [hw1] at HPP
  have HW1 := hide hw1
  clear PP h h1 hbx bb hw1 hlt
  go_enter Tryz.func56, Tryz.ntmps56
  go_wp2_with fail
  refine HPP.out.mono ?_
  rw [← HW1.out]
  rintro e w2 ⟨y1, y2, b, S', hv', rfl, s2, n2, k2, hc⟩
  obtain ⟨bb, hbx, hlt⟩ := HB.out
  have hsz : w.heap.size < w1.heap.size := heap_lt hbx
  have hb2 := k2.heap9 hbx (fun e => by have := hlt _ e; omega)
  obtain ⟨w3, hw3⟩ : ∃ w3, w3 = w2.alloc (.cells #[.int .u64 y1, .int .u64 y2] 52) := ⟨_, rfl⟩
  have b3 : Below w2.heap.size w2 w3 := by rw [hw3]; exact (Below.refl _ w2).alloc (Nat.le_refl _) _
  have hb3 := (Kept.of_below (fp := []) b3).heap9 hb2 (by simp)
  have hb4 : w3.heap[w2.heap.size]? = some (.cells #[.int .u64 y1, .int .u64 y2] 52 (0, 0)) := by rw [hw3]; exact heap_alloc_new w2 _
  have c0 : w3.cell? ⟨w.heap.size, 0, none⟩ = some (.int .u64 0) := cell_of_heap hb3 0
  have c1 : w3.cell? ⟨w.heap.size, 1, none⟩ = some (.int .u64 0) := cell_of_heap hb3 1
  have cf : ∀ o, w3.frozen? ⟨w.heap.size, o, none⟩ = false := fun o => frozen_of_heap hb3 o
  have d0 : w3.cell? ⟨w2.heap.size, 0, none⟩ = some (.int .u64 y1) := cell_of_heap hb4 0
  have d1 : w3.cell? ⟨w2.heap.size, 1, none⟩ = some (.int .u64 y2) := cell_of_heap hb4 1
  have HF := hide (And.intro s2 (And.intro n2 (And.intro k2 (And.intro hc (And.intro b3 (And.intro hb3 hb4))))))
  rw [hw3] at c0 c1 cf d0 d1
  have HW3 := hide hw3
  clear s2 n2 k2 hc b3 hb3 hb4 hb2 hw3 hsz bb hbx hlt
  go_wp2
  obtain ⟨s2, n2, k2, hc, b3, hb3, hb4⟩ := HF.out
  obtain ⟨bb, hbx, hlt⟩ := HB.out
  rw [← HW3.out]
  have hb5 := heap_setCell (heap_setCell hb3 0 (.int .u64 y1)) 1 (.int .u64 y2)
  refine bodyPost_ret (popRes _ _ w.heap.size y1 y2 rfl ((cell_of_heap hb5 0).trans rfl) ((cell_of_heap hb5 1).trans rfl)) rfl ?_
  have hsz : w.heap.size < w1.heap.size := heap_lt hbx
  have ks : Kept [w.heap.size] w3 ((w3.setCell ⟨w.heap.size, 0, none⟩ (.int .u64 y1)).setCell ⟨w.heap.size, 1, none⟩ (.int .u64 y2)) := ((Kept.refl _ w3).setCell (.inl (by simp)) _).setCell (.inl (by simp)) _
  have hno : w.heap.size ∉ sofp sp hv' rv := fun e => by
    rcases n2 _ e with e | e
    · have := hlt _ e; omega
    · omega
  have s3 := (s2.below b3).kept ks (fun x hx e => by simp only [List.mem_singleton] at e; subst e; exact hno hx)
  have nn : Newly w (sofp sp hv rv) (sofp sp hv' rv) := fun x hx => by
    rcases n2 x hx with e | e
    · exact .inl e
    · exact .inr (by omega)
  have kk : Kept (sofp sp hv rv) w ((w3.setCell ⟨w.heap.size, 0, none⟩ (.int .u64 y1)).setCell ⟨w.heap.size, 1, none⟩ (.int .u64 y2)) :=
    (((Kept.of_below (fp := sofp sp hv rv) bb).trans k2 (Newly.refl _ _)).trans (Kept.of_below (fp := []) b3) (fun _ hx => by simp at hx)).trans ks (fun x hx => by simp only [List.mem_singleton] at hx; subst hx; exact .inr (Nat.le_refl _))
  exact ⟨(y1, y2), b, S', hv', rfl, s3, nn, kk, hc⟩

/-- pop is a feed. -/
theorem pop_feeds (sp : Nat) (k : Skn) (cnt : Nat) (rv : Value) (R : List Nat) (last : Nat) (A0 : Dsk) (E : List Ab) (n : List UInt8) :
    IsFeed k.p 56 (#[.pointer (some ⟨sp, 0, none⟩)] ++ #[]) sp k.how A0 E n
      (fun w ff S => ∃ hv, SoM w sp k cnt hv rv S R last ∧ ff = sofp sp hv rv ∧ S.length ≤ 100000) (fun w ff => ∃ hv H, SoM w sp k cnt hv rv H R last ∧ ff = sofp sp hv rv) where
  ent := enters_of Tryz.func56 (by kernel_rfl) rfl
  lt := fun {w ff S} ⟨hv, h, e, _⟩ => by rw [e]; exact h.lt
  kept := fun {w w' ff fq S} ⟨hv, h, e, hl⟩ hk hf => ⟨hv, h.kept hk (by rw [← e]; exact hf), e, hl⟩
  how := fun ⟨_, h, _, _⟩ => h.cellAt.2.2.2.2.1
  ok := fun ⟨_, h, _, _⟩ => h.ok
  fe := fun {w ff S} ⟨hv, h, e, _⟩ => ⟨hv, S, h, e⟩
  feb := fun {w w' ff} ⟨hv, H, h, e⟩ hb => ⟨hv, H, h.below hb, e⟩
  call := fun {w fd ff A S x} d ⟨hv, h, e, hl⟩ hd hx _ _ => by
    subst e
    refine (pop_any h hl).mono ?_
    rintro e w' ⟨y, b, S', hv', rfl, s1, n1, k1, hc⟩
    have hf : ∀ z ∈ fd, z ∉ sofp sp hv rv := fun z hz e => hd z e hz
    have hl' : S'.length ≤ 100000 := by
      rcases hc with ⟨rfl, _⟩ | ⟨_, rfl, _⟩
      · simp at hl; omega
      · simp
    refine ⟨A, fd, y, b, 0, rfl, d.kept k1 hf, k1.mono (fun z hz => List.mem_append.2 (.inr hz)), fun z hz => .inl (List.mem_append.2 (.inl hz)), Red.refl (by omega) hx.up, _, fun z hz e => ?_, fun z hz => (n1 z hz).imp (fun e => List.mem_append.2 (.inr e)) id, .inl ⟨hx.up, rfl, S', ⟨hv', s1, rfl, hl'⟩, hc⟩⟩
    rcases n1 z hz with e2 | e2
    · exact hd z e2 e
    · have := d.lt z e; omega

end Go.Proofs.YtgpbanjammipiaaGreatDoor

namespace Go.Proofs.YtgpbanjammipiaaGreatDoor
open Go.RowKit Go.Maps

/-- Three lists of blocks, apart. -/
structure Fr3 (w0 w : World) (fp0 a b c : List Nat) : Prop where
  kept : Kept fp0 w0 w
  new : Newly w0 fp0 (a ++ (b ++ c))
  ab : ∀ x ∈ b, x ∉ a
  ac : ∀ x ∈ c, x ∉ a
  bc : ∀ x ∈ c, x ∉ b

section
variable {w0 w w' : World} {fp0 a b c a' b' c' : List Nat}

theorem Fr3.below (h : Fr3 w0 w fp0 a b c) (hb : Below w.heap.size w w') : Fr3 w0 w' fp0 a b c :=
  ⟨h.kept.trans (Kept.of_below (fp := []) hb) (fun _ hx => by simp at hx), h.new, h.ab, h.ac, h.bc⟩

theorem Fr3.inA (h : Fr3 w0 w fp0 a b c) : Newly w0 fp0 a := fun x hx => h.new x (by simp [hx])
theorem Fr3.inB (h : Fr3 w0 w fp0 a b c) : Newly w0 fp0 b := fun x hx => h.new x (by simp [hx])
theorem Fr3.inC (h : Fr3 w0 w fp0 a b c) : Newly w0 fp0 c := fun x hx => h.new x (by simp [hx])

theorem newly_app {w : World} {fp x y : List Nat} (h : Newly w fp x) (k : Newly w fp y) : Newly w fp (x ++ y) := fun z hz => by
  rcases List.mem_append.1 hz with hz | hz
  · exact h z hz
  · exact k z hz

/-- What came new, or was in fq, is none of what is apart. -/
theorem newly_apart {w : World} {fq x y : List Nat} (h : Newly w fq x) (hy : ∀ z ∈ y, z < w.heap.size) (hd : ∀ z ∈ y, z ∉ fq) : ∀ z ∈ y, z ∉ x := fun z hz e => by
  rcases h z e with e | e
  · exact hd z hz e
  · have := hy z hz; omega

theorem Fr3.moveB (h : Fr3 w0 w fp0 a b c) (ha : ∀ x ∈ a, x < w.heap.size) (hc : ∀ x ∈ c, x < w.heap.size) (hk : Kept b w w') (nb : Newly w b b') : Fr3 w0 w' fp0 a b' c :=
  ⟨h.kept.trans hk h.inB, newly_app h.inA (newly_app (h.inB.trans nb h.kept.size) h.inC), fun x hx e => newly_apart nb ha (fun z hz e => h.ab z e hz) x e hx, h.ac, newly_apart nb hc h.bc⟩

theorem Fr3.moveAC (h : Fr3 w0 w fp0 a b c) (hb : ∀ x ∈ b, x < w.heap.size) (hk : Kept (a ++ c) w w') (na : Newly w (a ++ c) a') (nc : Newly w (a ++ c) c') (d : ∀ x ∈ c', x ∉ a') : Fr3 w0 w' fp0 a' b c' := by
  have hin := newly_app h.inA h.inC
  have hd : ∀ z ∈ b, z ∉ a ++ c := fun z hz e => by
    rcases List.mem_append.1 e with e | e
    · exact h.ab z hz e
    · exact h.bc z e hz
  exact ⟨h.kept.trans hk hin, newly_app (hin.trans na h.kept.size) (newly_app h.inB (hin.trans nc h.kept.size)), newly_apart na hb hd, d, fun x hx e => newly_apart nc hb hd x e hx⟩

theorem Fr3.moveAB (h : Fr3 w0 w fp0 a b c) (hc : ∀ x ∈ c, x < w.heap.size) (hk : Kept (a ++ b) w w') (na : Newly w (a ++ b) a') (nb : Newly w (a ++ b) b') (d : ∀ x ∈ b', x ∉ a') : Fr3 w0 w' fp0 a' b' c := by
  have hin := newly_app h.inA h.inB
  have hd : ∀ z ∈ c, z ∉ a ++ b := fun z hz e => by
    rcases List.mem_append.1 e with e | e
    · exact h.ac z hz e
    · exact h.bc z hz e
  exact ⟨h.kept.trans hk hin, newly_app (hin.trans na h.kept.size) (newly_app (hin.trans nb h.kept.size) h.inC), d, newly_apart na hc hd, newly_apart nb hc hd⟩

theorem Fr3.moveA (h : Fr3 w0 w fp0 a b c) (hb : ∀ x ∈ b, x < w.heap.size) (hc : ∀ x ∈ c, x < w.heap.size) (hk : Kept a w w') (na : Newly w a a') : Fr3 w0 w' fp0 a' b c :=
  ⟨h.kept.trans hk h.inA, newly_app (h.inA.trans na h.kept.size) (newly_app h.inB h.inC), newly_apart na hb h.ab, newly_apart na hc h.ac, h.bc⟩

theorem Fr3.start (hab : ∀ x ∈ b, x ∉ a) (hac : ∀ x ∈ c, x ∉ a) (hbc : ∀ x ∈ c, x ∉ b) : Fr3 w w (a ++ (b ++ c)) a b c := ⟨Kept.refl _ _, Newly.refl _ _, hab, hac, hbc⟩
end

/-- What a source will tell. -/
def lst (i : Bool) (x : Rc) (rs : List Rc) : List Rc := if i then x :: rs else []

/-- The file that a source reads is there, whatever files are made beside it. -/
def Lies (A0 : Dsk) (s : Sid) : Prop := ∃ y, lookA A0.1 s.nm.data.toList = some y ∧ s.c <+: y.2.1

theorem sortR_snocR (H0 t : List Rc) (x : Rc) : sortR H0 (t ++ [x]) = insR x (sortR H0 t) := by
  rw [sortR_append]; rfl

/-- The disk, the sorter, and the source. -/
structure At3 (w0 w : World) (fp0 : List Nat) (sp : Nat) (k : Skn) (A0 A : Dsk) (E : List Ab) (fd fs : List Nat) (cnt : Nat) (hv rv : Value) (H : List Rc) (R : List Nat) (last : Nat) (sid : Sid) (x : Rc) (i : Bool) (rs : List Rc) (er : Int) : Prop where
  disk : Dk w fd k.p A.1 A.2
  sorter : SoM w sp k cnt hv rv H R last
  src : SoA w k.p fs sid x i rs er
  fr : Fr3 w0 w fp0 fd (sofp sp hv rv) fs
  ext : Ext A0 A E

theorem At3.below {w0 w w' : World} {fp0 : List Nat} {sp : Nat} {k : Skn} {A0 A : Dsk} {E : List Ab} {fd fs : List Nat} {cnt : Nat} {hv rv : Value} {H : List Rc} {R : List Nat} {last : Nat} {sid : Sid} {x : Rc} {i : Bool} {rs : List Rc} {er : Int}
    (h : At3 w0 w fp0 sp k A0 A E fd fs cnt hv rv H R last sid x i rs er) (hb : Below w.heap.size w w') : At3 w0 w' fp0 sp k A0 A E fd fs cnt hv rv H R last sid x i rs er :=
  ⟨h.disk.below hb, h.sorter.below hb, h.src.kept (fq := []) (Kept.of_below hb) (by simp), h.fr.below hb, h.ext⟩

/-- The count goes up. -/
theorem SoM.counted {w : World} {sp : Nat} {k : Skn} {cnt : Nat} {hv rv : Value} {H : List Rc} {R : List Nat} {last : Nat} (h : SoM w sp k cnt hv rv H R last) : SoM (w.setCell ⟨sp, 5, none⟩ (.int .i64 ((cnt : Int) + 1))) sp k (cnt + 1) hv rv H R last ∧ Kept (sofp sp hv rv) w (w.setCell ⟨sp, 5, none⟩ (.int .i64 ((cnt : Int) + 1))) := by
  have hk : Kept [sp] w (w.setCell ⟨sp, 5, none⟩ (.int .i64 ((cnt : Int) + 1))) := (Kept.refl _ _).setCell (.inl (by simp)) _
  obtain ⟨l, hl, ho⟩ := h.heap
  refine ⟨⟨?_, ⟨l, hl.kept hk (fun x hx e => ?_), ho⟩, h.rows.kept hk (fun x hx e => ?_), h.hs, h.rs, h.hr⟩, hk.mono (fun x hx => ?_)⟩
  · have := heap_setCell h.cells 5 (.int .i64 ((cnt : Int) + 1))
    simpa [scells] using this
  · simp only [List.mem_singleton] at e; subst e; exact h.hs hx
  · simp only [List.mem_singleton] at e; subst e; exact h.rs hx
  · simp only [List.mem_singleton] at hx; subst hx; exact sofp_mem.2 (.inl rfl)

section
variable {w0 w w' : World} {fp0 : List Nat} {sp : Nat} {k : Skn} {A0 A : Dsk} {E : List Ab} {fd fs : List Nat} {cnt : Nat} {hv rv : Value} {H : List Rc} {R : List Nat} {last : Nat} {sid : Sid} {x : Rc} {i : Bool} {rs : List Rc} {er : Int}

/-- The sorter alone was turned. -/
theorem At3.sort (h : At3 w0 w fp0 sp k A0 A E fd fs cnt hv rv H R last sid x i rs er) {cnt' : Nat} {hv' rv' : Value} {H' : List Rc} {R' : List Nat} {last' : Nat} (s : SoM w' sp k cnt' hv' rv' H' R' last') (n : Newly w (sofp sp hv rv) (sofp sp hv' rv')) (kk : Kept (sofp sp hv rv) w w') :
    At3 w0 w' fp0 sp k A0 A E fd fs cnt' hv' rv' H' R' last' sid x i rs er :=
  ⟨h.disk.kept kk (fun z hz e => h.fr.ab z e hz), s, h.src.kept kk h.fr.bc, h.fr.moveB h.disk.lt h.src.lt kk n, h.ext⟩

/-- A step of the source. -/
theorem At3.step (h : At3 w0 w fp0 sp k A0 A E fd fs cnt hv rv H R last sid x i rs er) (hl : Lies A0 sid) (hops : A.2.ops ≤ 999990) (hnm : sid.nm.size ≤ maxLen) :
    Calls Tryz.prog 53 #[.pointer (some ⟨sid.b, 0, none⟩)] w (StepP w k.p fd fs A sid rs er) := by
  refine step_any h.src h.disk h.fr.ac h.ext.up ?_ (by omega) hnm
  obtain ⟨y, h1, h2⟩ := hl
  exact ⟨y, h.ext.old h1, h2⟩

/-- .. what it leaves. -/
theorem At3.stepped (h : At3 w0 w fp0 sp k A0 A E fd fs cnt hv rv H R last sid x i rs er) {B : Dsk} {fd' fs' : List Nat} {x' : Rc} {i' : Bool} {rs' : List Rc} (d : Dk w' fd' k.p B.1 B.2) (kk : Kept (fd ++ fs) w w') (n : Newly w (fd ++ fs) fd') (up : B.2.down = false) (rd : Red 2 A B) (s : SoA w' k.p fs' sid x' i' rs' er) (hd : ∀ y ∈ fs', y ∉ fd') (n2 : Newly w (fd ++ fs) fs') :
    At3 w0 w' fp0 sp k A0 B E fd' fs' cnt hv rv H R last sid x' i' rs' er :=
  ⟨d, h.sorter.kept kk (fun z hz e => by
    rcases List.mem_append.1 e with e | e
    · exact h.fr.ab z hz e
    · exact h.fr.bc z e hz), s, h.fr.moveAC h.sorter.lt kk n n2 hd, (rd.up up).2 _ _ h.ext⟩

/-- .. behind an error. -/
theorem At3.erred (h : At3 w0 w fp0 sp k A0 A E fd fs cnt hv rv H R last sid x i rs er) {B : Dsk} {fd' : List Nat} (_ : Dk w' fd' k.p B.1 B.2) (kk : Kept (fd ++ fs) w w') (n : Newly w (fd ++ fs) fd') :
    SoM w' sp k cnt hv rv H R last ∧ (∀ z ∈ sofp sp hv rv, z ∉ fd') ∧ Kept fp0 w0 w' ∧ Newly w0 fp0 (fd' ++ sofp sp hv rv) := by
  have hf := h.fr.moveAC (c' := []) h.sorter.lt kk n (fun _ hx => by simp at hx) (by simp)
  refine ⟨h.sorter.kept kk (fun z hz e => ?_), hf.ab, hf.kept, newly_app hf.inA hf.inB⟩
  rcases List.mem_append.1 e with e | e
  · exact h.fr.ab z hz e
  · exact h.fr.bc z e hz
end

/-- What fill leaves. -/
def FillP (sp : Nat) (k : Skn) (A0 : Dsk) (E : List Ab) (M : List UInt8 → Prop) (rv : Value) (R : List Nat) (last : Nat) (sid : Sid) (er : Int) (w : World) (fp0 : List Nat) (cnt : Nat) (H L : List Rc) (o0 : Int) (e : Ending) (w' : World) : Prop :=
  ∃ B e', e = .returned (.int .i64 e') ∧ o0 ≤ B.2.ops ∧ B.2.ops ≤ o0 + 2 * L.length ∧
    ((e' = 0 ∧ ∃ fd fs hv x i rs taken, At3 w w' fp0 sp k A0 B E fd fs (cnt + taken.length) hv rv (sortR H taken) R last sid x i rs er ∧ L = taken ++ lst i x rs ∧ (i = true → H.length + taken.length = k.bud) ∧ (i = false → er = 0) ∧ H.length + taken.length ≤ k.bud) ∨
     (∃ fd hv H' cnt', Dk w' fd k.p B.1 B.2 ∧ SoM w' sp k cnt' hv rv H' R last ∧ (∀ z ∈ sofp sp hv rv, z ∉ fd) ∧ Kept fp0 w w' ∧ Newly w fp0 (fd ++ sofp sp hv rv) ∧ ((e' = er ∧ er ≠ 0 ∧ Ext A0 B E) ∨ (e' = 7 ∧ Cr A0 B M (usedB E)))))

set_option maxRecDepth 100000 in
set_option maxHeartbeats 4000000 in
theorem fill_any {w : World} {sp : Nat} {k : Skn} {A0 A : Dsk} {E : List Ab} {M : List UInt8 → Prop} {fd fs : List Nat} {cnt : Nat} {hv rv : Value} {H : List Rc} {R : List Nat} {last : Nat} {sid : Sid} {x : Rc} {i : Bool} {rs : List Rc} {er : Int} {fp0 : List Nat}
    (h : At3 w w fp0 sp k A0 A E fd fs cnt hv rv H R last sid x i rs er) (hM : ∀ x ∈ E, M x.1) (hl : Lies A0 sid) (hok : ∀ y ∈ lst i x rs, okR y) (hi : i = false → er = 0) (hH : H.length ≤ k.bud) (hbud : k.bud ≤ 100000) (hops : A.2.ops + 2 * (lst i x rs).length ≤ 999990) (hcnt : cnt + (lst i x rs).length ≤ 1000000) (hnm : sid.nm.size ≤ maxLen) :
    Calls Tryz.prog 54 #[.pointer (some ⟨sp, 0, none⟩), .pointer (some ⟨sid.b, 0, none⟩)] w (FillP sp k A0 E M rv R last sid er w fp0 cnt H (lst i x rs) A.2.ops) := by
  obtain ⟨L, hL⟩ : ∃ L, L = lst i x rs := ⟨_, rfl⟩
  rw [← hL] at hok hops hcnt ⊢
  have ST : Hid (∃ A' fd fs hv x i rs taken, At3 w w fp0 sp k A0 A' E fd fs (cnt + taken.length) hv rv (sortR H taken) R last sid x i rs er ∧ L = taken ++ lst i x rs ∧ (i = false → er = 0) ∧ H.length + taken.length ≤ k.bud ∧ A.2.ops ≤ A'.2.ops ∧ A'.2.ops + 2 * (lst i x rs).length ≤ A.2.ops + 2 * L.length ∧ L.length = (lst i x rs).length) :=
    ⟨A, fd, fs, hv, x, i, rs, [], h, by simpa using hL, hi, by simpa using hH, Int.le_refl _, by rw [hL]; exact Int.le_refl _, by rw [hL]⟩
  have HH := hide (And.intro hM (And.intro hl (And.intro hok (And.intro hbud (And.intro hops (And.intro hcnt hnm))))))
  obtain ⟨b, hb⟩ : ∃ b, b = sid.b := ⟨_, rfl⟩
  rw [← hb]
  have HB := hide hb
  clear h hL hi hH hM hl hok hbud hops hcnt hnm hb
  go_enter Tryz.func54, Tryz.ntmps54
  go_wp2_with fail
  go_loopg [] (L.length) (fun gk wr => Hid (∃ A' fd fs hv x i rs taken, At3 w wr fp0 sp k A0 A' E fd fs (cnt + taken.length) hv rv (sortR H taken) R last sid x i rs er ∧ L = taken ++ lst i x rs ∧ (i = false → er = 0) ∧ H.length + taken.length ≤ k.bud ∧ A.2.ops ≤ A'.2.ops ∧ A'.2.ops + 2 * (lst i x rs).length ≤ A.2.ops + 2 * L.length ∧ gk = (lst i x rs).length))
  case atStart => exact ST.out
  case round =>
    obtain ⟨A2, fd2, fs2, hv2, x2, i2, rs2, tk, a3, hL2, hi2, hb2, ho1, ho2, hgk⟩ := hrel
    have hsrc := a3.src.src
    obtain ⟨s0, s1, s2, s3, s4, s5, s8, s9, sf⟩ := a3.sorter.cellAt
    have f2 : wr.cell? ⟨sid.b, 2, none⟩ = some (.bool i2) := cell_of_heap hsrc 2
    have f0 : wr.cell? ⟨sid.b, 0, none⟩ = some (.int .u64 x2.1) := cell_of_heap hsrc 0
    have f1 : wr.cell? ⟨sid.b, 1, none⟩ = some (.int .u64 x2.2) := cell_of_heap hsrc 1
    rw [← HB.out] at f0 f1 f2
    have HA := hide (And.intro a3 (And.intro hL2 (And.intro hi2 (And.intro hb2 (And.intro ho1 (And.intro ho2 hgk))))))
    clear a3 hL2 hi2 hb2 ho1 ho2 hgk hsrc ST
    cases i2 with
    | false =>
      go_wp2
      go_quiet (fail)
      go_wp2
      go_ret
      obtain ⟨a3, hL2, hi2, hb2, ho1, ho2, hgk⟩ := HA.out
      refine ⟨A2, 0, rfl, ho1, by omega, .inl ⟨rfl, fd2, fs2, hv2, x2, false, rs2, tk, a3.below ⟨rfl, rfl, rfl, Nat.le_refl _, fun _ _ => rfl⟩, hL2, by simp, fun _ => hi2 (by simp), hb2⟩⟩
    | true =>
      obtain ⟨n, hn⟩ : ∃ n, n = H.length + tk.length := ⟨_, rfl⟩
      have LEN : Hid (∀ m, Calls Tryz.prog 77 #[.pointer (some ⟨sp, 6, none⟩)] (wr.drewN m) fun e w' => e = .returned (.int .i64 (n : Int)) ∧ ∃ m', w' = (wr.drewN m).drewN m') := fun m => by
        have := (HA.out.1.sorter.below (w' := wr.drewN m) ⟨rfl, rfl, rfl, Nat.le_refl _, fun _ _ => rfl⟩).len (by rw [sortR_length]; have := HA.out.2.2.2.1; have := HH.out.2.2.2.1; omega)
        rw [sortR_length, ← hn] at this
        exact this
      have hnb : n ≤ k.bud := by have := HA.out.2.2.2.1; omega
      have HN := hide hn
      clear hn
      obtain ⟨bud, hbud⟩ : ∃ b, b = k.bud := ⟨_, rfl⟩
      rw [← hbud] at s2 hnb
      have HBUD := hide hbud
      clear hbud
      by_cases hlt : n < bud
      · have hlt' : (n : Int) < (bud : Int) := by omega
        obtain ⟨x1, xv⟩ := x2
        dsimp only at f0 f1
        have hokx : okR (x1, xv) := HH.out.2.2.1 _ (by rw [HA.out.2.1]; simp [lst])
        have PU : Hid (∀ W, Below wr.heap.size wr W → Calls Tryz.prog 78 #[.pointer (some ⟨sp, 6, none⟩), .agg #[.int .u64 x1, .int .u64 xv]] W fun e w' => e = .returned (.tuple #[]) ∧
            ∃ hv', SoM w' sp k (cnt + tk.length) hv' rv (insR (x1, xv) (sortR H tk)) R last ∧ Newly W (sofp sp hv2 rv) (sofp sp hv' rv) ∧ Kept (sofp sp hv2 rv) W w') := fun W hb =>
          (HA.out.1.sorter.below hb).push (by rw [sortR_length]; have := HA.out.2.2.2.1; have := HH.out.2.2.2.1; omega) x1 xv hokx
        have hsn : Hid (b ∉ sofp sp hv2 rv) := by
          show _
          rw [HB.out]
          exact HA.out.1.fr.bc _ HA.out.1.src.mem
        go_wp2
        go_quiet ((go_at_call 77; exact Calls.quiet_of (LEN.out _)))
        obtain ⟨wq, hwq⟩ : ∃ wq, wq = wr.drewN nq := ⟨_, rfl⟩
        rw [← hwq]
        have bq : Below wr.heap.size wr wq := by rw [hwq]; exact ⟨rfl, rfl, rfl, Nat.le_refl _, fun _ _ => rfl⟩
        have g0 : wq.drew.cell? ⟨b, 0, none⟩ = some (.int .u64 x1) := by rw [hwq]; exact f0
        have g1 : wq.drew.cell? ⟨b, 1, none⟩ = some (.int .u64 xv) := by rw [hwq]; exact f1
        have PU2 := hide (PU.out wq.drew bq.drew)
        have HBQ := hide bq.drew
        have KC : Hid (∀ {W : World} {o : Nat} {u : Value}, Kept (sofp sp hv2 rv) wq.drew W → wq.drew.cell? ⟨b, o, none⟩ = some u → W.cell? ⟨b, o, none⟩ = some u) := fun k c => k.cell c (by simpa using hsn.out)
        clear PU LEN f0 f1 f2 bq hwq hokx
        go_wp2
        go_region_held (fun W => W.cell? ⟨b, 0, none⟩ = some (.int .u64 x1) ∧ W.cell? ⟨b, 1, none⟩ = some (.int .u64 xv)) (exact ⟨by assumption, by assumption⟩)
          (first | (go_at_call 78; refine PU2.out.mono ?_; rintro e w2 ⟨rfl, hv3, s9', n9, k9⟩; have q0 := KC.out k9 g0; have q1 := KC.out k9 g1; have HS := hide (And.intro s9' (And.intro n9 k9)); clear s9' n9 k9))
        all_goals
          obtain ⟨t0, t1, t2, t3, t4, t5, t8, t9, tf⟩ := HS.out.1.cellAt
          obtain ⟨c5, hc5⟩ : ∃ c, c = cnt + tk.length := ⟨_, rfl⟩
          rw [← hc5] at t5
          have hw5 : IntKind.i64.wrap ((c5 : Int) + 1) = (c5 : Int) + 1 := i64_small _ (by omega) (by have h1 := HH.out.2.2.2.2.2.1; have h2 := congrArg List.length HA.out.2.1; rw [List.length_append] at h2; omega)
          have HC5 := hide hc5
          have A9 : Hid (At3 w (w2.setCell ⟨sp, 5, none⟩ (.int .i64 ((c5 : Int) + 1))) fp0 sp k A0 A2 E fd2 fs2 (cnt + (tk ++ [(x1, xv)]).length) hv3 rv (sortR H (tk ++ [(x1, xv)])) R last sid (x1, xv) true rs2 er) := by
            show At3 _ _ _ _ _ _ _ _ _ _ _ _ _ _ _ _ _ _ _ _ _
            have b3 := (HA.out.1.below HBQ.out).sort HS.out.1 HS.out.2.1 HS.out.2.2
            obtain ⟨q1, q2⟩ := b3.sorter.counted
            have b4 := b3.sort q1 (Newly.refl _ _) q2
            rw [sortR_snocR, List.length_append, List.length_singleton, hc5, show cnt + (tk.length + 1) = cnt + tk.length + 1 by omega]
            exact b4
          have SX := hide (A9.out.step HH.out.2.1 (by have h1 := HA.out.2.2.2.2.2.1; have h2 := HH.out.2.2.2.2.1; omega) HH.out.2.2.2.2.2.2)
          rw [← HB.out] at SX
          clear hc5 t0 t1 t2 t3 t4 t8 t9 q0 q1 g0 g1 PU2 HBQ KC
          go_wp2_with fail
          refine SX.out.mono ?_
          rintro e w4 ⟨B4, fd4, e4, rfl, d4, k4, n4, r4, hc4⟩
          rcases hc4 with ⟨up, fs4, x4, i4, rs4, so4, dis4, n5, hc4⟩ | ⟨dn, rfl, hsrc4⟩
          · rcases hc4 with ⟨hr, rfl, rfl⟩ | ⟨hr, rfl, rfl, he4⟩
            · have HX := hide (And.intro d4 (And.intro k4 (And.intro n4 (And.intro r4 (And.intro up (And.intro so4 (And.intro dis4 (And.intro n5 hr))))))))
              clear d4 k4 n4 r4 up so4 dis4 n5 hr
              go_wp2
              go_roundg (gk - 1)
              case measure =>
                have := HA.out.2.2.2.2.2.2
                simp only [lst, if_true, List.length_cons] at this
                omega
              case rel =>
                obtain ⟨d4, k4, n4, r4, up, so4, dis4, n5, hr⟩ := HX.out
                obtain ⟨a3, hL2, hi2, hb2, ho1, ho2, hgk⟩ := HA.out
                have A10 := A9.out.stepped d4 k4 n4 up r4 so4 dis4 n5
                have r4o := r4.ops
                simp only [lst, if_true, List.length_cons] at hgk ho2
                have hrl := congrArg List.length hr
                simp only [List.length_cons] at hrl
                refine ⟨B4, fd4, fs4, hv3, x4, true, rs4, tk ++ [(x1, xv)], A10, ?_, by simp, ?_, by omega, ?_, ?_⟩
                · rw [hL2, hr]; simp [lst]
                · rw [List.length_append, List.length_singleton]; have h1 := HN.out; have h2 := HBUD.out; omega
                · simp only [lst, if_true, List.length_cons]; omega
                · simp only [lst, if_true, List.length_cons]; omega
            · rw [he4]
              clear he4
              by_cases her : er = 0
              · rw [her]
                have HER := hide her
                clear her
                have HX := hide (And.intro d4 (And.intro k4 (And.intro n4 (And.intro r4 (And.intro up (And.intro so4 (And.intro dis4 (And.intro n5 hr))))))))
                clear d4 k4 n4 r4 up so4 dis4 n5 hr
                go_wp2
                go_roundg (gk - 1)
                case measure =>
                  have := HA.out.2.2.2.2.2.2
                  simp only [lst, if_true, List.length_cons] at this
                  omega
                case rel =>
                  obtain ⟨d4, k4, n4, r4, up, so4, dis4, n5, hr⟩ := HX.out
                  obtain ⟨a3, hL2, hi2, hb2, ho1, ho2, hgk⟩ := HA.out
                  have A10 := A9.out.stepped d4 k4 n4 up r4 so4 dis4 n5
                  have r4o := r4.ops
                  simp only [lst, if_true, List.length_cons] at hgk ho2
                  have hrl := congrArg List.length hr
                  simp only [List.length_nil] at hrl
                  refine ⟨B4, fd4, fs4, hv3, x4, false, [], tk ++ [(x1, xv)], A10, ?_, fun _ => HER.out, ?_, by omega, ?_, ?_⟩
                  · rw [hL2, hr]; simp [lst]
                  · rw [List.length_append, List.length_singleton]; have h1 := HN.out; have h2 := HBUD.out; omega
                  · simp [lst]; omega
                  · simp [lst]; omega
              · have herb : (er == 0) = false := by simpa using her
                have A10 := A9.out.erred d4 k4 n4
                have E10 := (r4.up up).2 _ _ A9.out.ext
                have r4o := r4.ops
                have HX := hide (And.intro d4 (And.intro A10 (And.intro E10 r4o)))
                have HER := hide her
                clear d4 k4 n4 r4 up so4 dis4 n5 hr A10 E10 r4o
                go_wp2
                go_ret
                obtain ⟨d4, ⟨q1, q2, q3, q4⟩, E10, r4o⟩ := HX.out
                obtain ⟨a3, hL2, hi2, hb2, ho1, ho2, hgk⟩ := HA.out
                simp only [lst, if_true, List.length_cons] at ho2
                exact ⟨B4, er, rfl, by omega, by omega, .inr ⟨fd4, hv3, _, _, d4, q1, q2, q3, q4, .inl ⟨rfl, HER.out, E10⟩⟩⟩
          · have A10 := A9.out.erred d4 k4 n4
            have E10 := r4.down dn _ _ _ A9.out.ext HH.out.1
            have r4o := r4.ops
            have HX := hide (And.intro d4 (And.intro A10 (And.intro E10 r4o)))
            clear d4 k4 n4 r4 dn A10 E10 r4o hsrc4
            go_wp2
            go_ret
            obtain ⟨d4, ⟨q1, q2, q3, q4⟩, E10, r4o⟩ := HX.out
            obtain ⟨a3, hL2, hi2, hb2, ho1, ho2, hgk⟩ := HA.out
            simp only [lst, if_true, List.length_cons] at ho2
            exact ⟨B4, 7, rfl, by omega, by omega, .inr ⟨fd4, hv3, _, _, d4, q1, q2, q3, q4, .inr ⟨rfl, E10⟩⟩⟩
      · have hlt' : ¬ (n : Int) < (bud : Int) := by omega
        go_wp2
        go_quiet ((go_at_call 77; exact Calls.quiet_of (LEN.out _)))
        go_wp2
        go_ret
        obtain ⟨a3, hL2, hi2, hb2, ho1, ho2, hgk⟩ := HA.out
        have h1 := HN.out
        have h2 := HBUD.out
        exact ⟨A2, 0, rfl, ho1, by omega, .inl ⟨rfl, fd2, fs2, hv2, x2, true, rs2, tk, a3.below ⟨rfl, rfl, rfl, Nat.le_refl _, fun _ _ => rfl⟩, hL2, fun _ => by omega, by simp, hb2⟩⟩

end Go.Proofs.YtgpbanjammipiaaGreatDoor
