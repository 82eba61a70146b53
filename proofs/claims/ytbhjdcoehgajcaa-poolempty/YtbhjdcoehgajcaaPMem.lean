/-
  Pools in memory. A lemma file: no statement of the seat is proved here.
-/
import Derived.Test.YtbhjdcoehgajcaaLUseP
namespace Go.Proofs.Ytbhjdcoehgajcaa

abbrev DOutc := @Outc
abbrev DLook := @lookA

end Go.Proofs.Ytbhjdcoehgajcaa
namespace Go.Proofs.Ytbhjdcoehgajcaa.L.P
open Go.RowKit Go.Maps

/-- A page: its place, its block, its bytes (v: the slice), whether it is dirty. -/
structure Pg where
  key : Place
  blk : Nat
  v : Value
  bs : List Int
  dirty : Bool

def Pg.fr (g : Pg) : Fr Place := ⟨0, g.blk, g.key, 0⟩
/-- The blocks of a page, and of a pool. -/
def Pg.feet (g : Pg) : List Nat := g.blk :: own g.v
def pfeet (q bm : Nat) (gs : List Pg) : List Nat := q :: bm :: gs.flatMap Pg.feet

abbrev PagesIs (D : DataW Unit) (gs : List Pg) : Prop := MapIs litP .nil (fun e : Fr Place => .lit (.int .i64 e.blk)) Fr.key D (gs.map Pg.fr)

structure PoolAt (w : World) (q d o bm : Nat) (gs : List Pg) : Prop where
  cells : w.heap[q]? = some (.cells #[.pointer (some ⟨d, 0, none⟩), .pointer (some ⟨o, 0, none⟩), .map (some bm)] 57 (0, 0))
  map : ∃ D, w.ownsMap Try.prog 54 ptrE bm gs.length D ∧ PagesIs D gs
  pages : ∀ g ∈ gs, w.heap[g.blk]? = some (.cells #[g.v, .bool g.dirty] 63 (0, 0)) ∧ RowB w g.v g.bs
  apart : (pfeet q bm gs).Nodup
  keys : (gs.map Pg.key).Nodup

section
variable {w w' : World} {q d o bm : Nat} {gs : List Pg}

theorem pfeet_mem {x : Nat} : x ∈ pfeet q bm gs ↔ x = q ∨ x = bm ∨ ∃ g ∈ gs, x = g.blk ∨ x ∈ own g.v := by
  simp only [pfeet, Pg.feet, List.mem_cons, List.mem_flatMap]

theorem pfeet_blk {g : Pg} (h : g ∈ gs) : g.blk ∈ pfeet q bm gs := pfeet_mem.2 (.inr (.inr ⟨g, h, .inl rfl⟩))
theorem pfeet_own {g : Pg} (h : g ∈ gs) {x : Nat} (hx : x ∈ own g.v) : x ∈ pfeet q bm gs := pfeet_mem.2 (.inr (.inr ⟨g, h, .inr hx⟩))

theorem PoolAt.lt (h : PoolAt w q d o bm gs) : ∀ x ∈ pfeet q bm gs, x < w.heap.size := by
  intro x hx
  rcases pfeet_mem.1 hx with rfl | rfl | ⟨g, hg, rfl | hx⟩
  · exact (Array.getElem?_eq_some_iff.1 h.cells).1
  · obtain ⟨D, h1, _⟩ := h.map
    exact h1.lt
  · exact (Array.getElem?_eq_some_iff.1 (h.pages g hg).1).1
  · exact (h.pages g hg).2.lt x hx

theorem PoolAt.kept {fp : List Nat} (h : PoolAt w q d o bm gs) (hk : Kept fp w w') (hf : ∀ x ∈ pfeet q bm gs, x ∉ fp) : PoolAt w' q d o bm gs := by
  refine ⟨hk.heap h.cells (hf _ (by simp [pfeet])), ?_, fun g hg => ⟨hk.heap (h.pages g hg).1 (hf _ (pfeet_blk hg)), (h.pages g hg).2.kept hk (fun x hx => hf x (pfeet_own hg hx))⟩, h.apart, h.keys⟩
  obtain ⟨D, h1, h2⟩ := h.map
  exact ⟨D, ownsMap_kept h1 hk (hf _ (by simp [pfeet])), h2⟩

theorem PoolAt.below (h : PoolAt w q d o bm gs) (hb : Below w.heap.size w w') : PoolAt w' q d o bm gs := h.kept (fp := []) (Kept.of_below hb) (by simp)

theorem PoolAt.cellAt (h : PoolAt w q d o bm gs) : w.cell? ⟨q, 0, none⟩ = some (.pointer (some ⟨d, 0, none⟩)) ∧ w.cell? ⟨q, 1, none⟩ = some (.pointer (some ⟨o, 0, none⟩)) ∧ w.cell? ⟨q, 2, none⟩ = some (.map (some bm)) := by
  refine ⟨?_, ?_, ?_⟩ <;> simp [World.cell?, h.cells]

theorem PoolAt.pageAt (h : PoolAt w q d o bm gs) {g : Pg} (hg : g ∈ gs) : w.cell? ⟨g.blk, 0, none⟩ = some g.v ∧ w.cell? ⟨g.blk, 1, none⟩ = some (.bool g.dirty) ∧ ∀ o, w.frozen? ⟨g.blk, o, none⟩ = false := by
  refine ⟨by simp [World.cell?, (h.pages g hg).1], by simp [World.cell?, (h.pages g hg).1], fun o => frozen_of_heap (h.pages g hg).1 o⟩

theorem fr_key (gs : List Pg) : (gs.map Pg.fr).map Fr.key = gs.map Pg.key := by rw [List.map_map]; rfl

theorem zeroPP (w : World) : (zeroValue 61).run Try.prog w = .ok (.pointer none) w := by kernel_rfl

/-- A page that is held. -/
theorem PoolAt.look (h : PoolAt w q d o bm gs) {g : Pg} (hg : g ∈ gs) : (Instr.lookup 55 (.map (some bm)) (encP g.key) false).run Try.prog w = .ok (.pointer (some ⟨g.blk, 0, none⟩)) w := by
  obtain ⟨D, h1, h2⟩ := h.map
  obtain ⟨v, ps, hrun, hv⟩ := h1.lookup keyedP Try.underlying55 (zeroPP w) ptrE_none (keyP g.key trivial)
  rw [hrun]
  have hnd : ((gs.map Pg.fr).map Fr.key).Nodup := by rw [fr_key]; exact h.keys
  obtain ⟨a, b, hab⟩ := List.append_of_mem (List.mem_map.2 ⟨g, hg, rfl⟩ : g.fr ∈ gs.map Pg.fr)
  have e := h2.at_ g.key
  rw [hab] at hnd e
  rw [show g.key = g.fr.key from rfl, find_at hnd] at e
  rw [show D.atKey (litP g.key) .nil = .lit (.int .i64 g.blk) from e] at hv
  rw [ptrE_inv hv]

theorem PoolAt.look_ok (h : PoolAt w q d o bm gs) {g : Pg} (hg : g ∈ gs) : (Instr.lookup 55 (.map (some bm)) (encP g.key) true).run Try.prog w = .ok (.tuple #[.pointer (some ⟨g.blk, 0, none⟩), .bool true]) w := by
  obtain ⟨D, h1, h2⟩ := h.map
  obtain ⟨v, ps, hrun, hv⟩ := h1.look_ok keyedP Try.underlying55 (zeroPP w) ptrE_none (keyP g.key trivial)
  have hnd : ((gs.map Pg.fr).map Fr.key).Nodup := by rw [fr_key]; exact h.keys
  obtain ⟨a, b, hab⟩ := List.append_of_mem (List.mem_map.2 ⟨g, hg, rfl⟩ : g.fr ∈ gs.map Pg.fr)
  have e := h2.at_ g.key
  have hh := h2.has g.key
  rw [hab] at hnd e hh
  rw [show g.key = g.fr.key from rfl, find_at hnd] at e hh
  rw [show D.atKey (litP g.key) .nil = .lit (.int .i64 g.blk) from e] at hv
  rw [hrun, ptrE_inv hv]
  rw [show Maps.has D (litP g.key) = true from hh]

theorem PoolAt.look_no (h : PoolAt w q d o bm gs) (k : Place) (hno : ∀ g ∈ gs, g.key ≠ k) : (Instr.lookup 55 (.map (some bm)) (encP k) true).run Try.prog w = .ok (.tuple #[.pointer none, .bool false]) w := by
  obtain ⟨D, h1, h2⟩ := h.map
  obtain ⟨v, ps, hrun, hv⟩ := h1.look_ok keyedP Try.underlying55 (zeroPP w) ptrE_none (keyP k trivial)
  have hf : ∀ e ∈ gs.map Pg.fr, e.key ≠ k := fun e he => by
    obtain ⟨g, hg, rfl⟩ := List.mem_map.1 he
    exact hno g hg
  have e := h2.at_ k
  have hh := h2.has k
  rw [find_none hf] at e hh
  rw [show D.atKey (litP k) .nil = .nil from e] at hv
  rw [hrun, ptrE_inv_nil hv]
  rw [show Maps.has D (litP k) = false from hh]

/-- Another truth of a page. -/
theorem PoolAt.setDirty {a b : List Pg} {g : Pg} (h : PoolAt w q d o bm (a ++ g :: b)) (x : Bool) : PoolAt (w.setCell ⟨g.blk, 1, none⟩ (.bool x)) q d o bm (a ++ { g with dirty := x } :: b) ∧ Kept [g.blk] w (w.setCell ⟨g.blk, 1, none⟩ (.bool x)) := by
  have hk : Kept [g.blk] w (w.setCell ⟨g.blk, 1, none⟩ (.bool x)) := (Kept.refl _ w).setCell (p := ⟨g.blk, 1, none⟩) (.inl (by simp)) _
  have hap := h.apart
  have ef : pfeet q bm (a ++ { g with dirty := x } :: b) = pfeet q bm (a ++ g :: b) := by simp [pfeet, Pg.feet]
  have hne : ∀ y ∈ pfeet q bm (a ++ g :: b), y ∉ g.feet → y ≠ g.blk := fun y _ hn e => hn (by rw [e]; simp [Pg.feet])
  simp only [pfeet, List.flatMap_append, List.flatMap_cons, List.nodup_cons, List.mem_cons, List.mem_append, not_or, List.nodup_append] at hap
  obtain ⟨⟨hqb, hqa, hqg, hqb2⟩, ⟨hba, hbg, hbb⟩, hna, ⟨hng, hnb, hgb⟩, hag⟩ := hap
  refine ⟨⟨hk.heap h.cells ?_, ?_, fun y hy => ?_, by rw [ef]; exact h.apart, by simpa using h.keys⟩, hk⟩
  · simp only [List.mem_singleton]
    intro e
    exact hqg (by rw [e]; simp [Pg.feet])
  · obtain ⟨D, h1, h2⟩ := h.map
    refine ⟨D, by simpa using ownsMap_kept h1 hk (by simp only [List.mem_singleton]; intro e; exact hbg (by rw [e]; simp [Pg.feet])), ?_⟩
    have : (a ++ { g with dirty := x } :: b).map Pg.fr = (a ++ g :: b).map Pg.fr := by simp [Pg.fr]
    rw [PagesIs, this]
    exact h2
  · rcases List.mem_append.1 hy with hy | hy
    · have hy2 := h.pages y (by simp [hy])
      have hn : ∀ z ∈ y.feet, z ≠ g.blk := fun z hz e => hag z (List.mem_flatMap.2 ⟨y, hy, hz⟩) g.blk (.inl (by simp [Pg.feet])) e
      exact ⟨hk.heap hy2.1 (by simpa using hn y.blk (by simp [Pg.feet])), hy2.2.kept hk (fun z hz => by simpa using hn z (by simp [Pg.feet, hz]))⟩
    · rcases List.mem_cons.1 hy with rfl | hy
      · have hg2 := h.pages g (by simp)
        refine ⟨by simpa using heap_setCell hg2.1 1 (.bool x), hg2.2.kept hk (fun z hz e => ?_)⟩
        simp only [List.mem_singleton] at e
        simp only [Pg.feet, List.nodup_cons] at hng
        exact hng.1 (e ▸ hz)
      · have hy2 := h.pages y (by simp [hy])
        have hn : ∀ z ∈ y.feet, z ≠ g.blk := fun z hz e => hgb g.blk (by simp [Pg.feet]) z (List.mem_flatMap.2 ⟨y, hy, hz⟩) e.symm
        exact ⟨hk.heap hy2.1 (by simpa using hn y.blk (by simp [Pg.feet])), hy2.2.kept hk (fun z hz => by simpa using hn z (by simp [Pg.feet, hz]))⟩

/-- Other bytes of a page, in their place. -/
theorem PoolAt.setBytes {a b : List Pg} {g : Pg} (h : PoolAt w q d o bm (a ++ g :: b)) {bs : List Int} (hk : Kept (own g.v) w w') (hr : RowB w' g.v bs) : PoolAt w' q d o bm (a ++ { g with bs := bs } :: b) := by
  have hap := h.apart
  have ef : pfeet q bm (a ++ { g with bs := bs } :: b) = pfeet q bm (a ++ g :: b) := by simp [pfeet, Pg.feet]
  simp only [pfeet, List.flatMap_append, List.flatMap_cons, List.nodup_cons, List.mem_cons, List.mem_append, not_or, List.nodup_append] at hap
  obtain ⟨⟨hqb, hqa, hqg, hqb2⟩, ⟨hba, hbg, hbb⟩, hna, ⟨hng, hnb, hgb⟩, hag⟩ := hap
  refine ⟨hk.heap h.cells (fun e => hqg (by simp [Pg.feet, e])), ?_, fun y hy => ?_, by rw [ef]; exact h.apart, by simpa using h.keys⟩
  · obtain ⟨D, h1, h2⟩ := h.map
    refine ⟨D, by simpa using ownsMap_kept h1 hk (fun e => hbg (by simp [Pg.feet, e])), ?_⟩
    have : (a ++ { g with bs := bs } :: b).map Pg.fr = (a ++ g :: b).map Pg.fr := by simp [Pg.fr]
    rw [PagesIs, this]
    exact h2
  · rcases List.mem_append.1 hy with hy | hy
    · have hy2 := h.pages y (by simp [hy])
      have hn : ∀ z ∈ y.feet, z ∉ own g.v := fun z hz e => hag z (List.mem_flatMap.2 ⟨y, hy, hz⟩) z (.inl (by simp [Pg.feet, e])) rfl
      exact ⟨hk.heap hy2.1 (hn y.blk (by simp [Pg.feet])), hy2.2.kept hk (fun z hz => hn z (by simp [Pg.feet, hz]))⟩
    · rcases List.mem_cons.1 hy with rfl | hy
      · have hg2 := h.pages g (by simp)
        simp only [Pg.feet, List.nodup_cons] at hng
        exact ⟨hk.heap hg2.1 hng.1, hr⟩
      · have hy2 := h.pages y (by simp [hy])
        have hn : ∀ z ∈ y.feet, z ∉ own g.v := fun z hz e => hgb z (by simp [Pg.feet, e]) z (List.mem_flatMap.2 ⟨y, hy, hz⟩) rfl
        exact ⟨hk.heap hy2.1 (hn y.blk (by simp [Pg.feet])), hy2.2.kept hk (fun z hz => hn z (by simp [Pg.feet, hz]))⟩

/-- A page taken out. -/
theorem PoolAt.del {a b : List Pg} {g : Pg} (h : PoolAt w q d o bm (a ++ g :: b)) (hk : Kept [bm] w w') {D : DataW Unit} {n : Nat} (hh : w'.ownsMap Try.prog 54 ptrE bm n D) (hD : PagesIs D (a ++ b)) : PoolAt w' q d o bm (a ++ b) := by
  have hap := h.apart
  have hsub : (a ++ b).Sublist (a ++ g :: b) := List.Sublist.append_left (List.sublist_cons_self g b) a
  have hmem : ∀ x ∈ a ++ b, x ∈ a ++ g :: b := fun x hx => hsub.subset hx
  have hfs : (pfeet q bm (a ++ b)).Sublist (pfeet q bm (a ++ g :: b)) := by
    simp only [pfeet, List.flatMap_append, List.flatMap_cons]
    exact (((List.sublist_append_right _ _).append_left _).cons_cons bm).cons_cons q
  have hq : q ≠ bm ∧ ∀ y ∈ (a ++ g :: b).flatMap Pg.feet, y ≠ bm := by
    simp only [pfeet, List.nodup_cons, List.mem_cons, not_or] at hap
    exact ⟨hap.1.1, fun y hy e => hap.2.1 (e ▸ hy)⟩
  refine ⟨hk.heap h.cells (by simpa using hq.1), ⟨D, ownsMap_fit hh (by rw [hD.size]; simp), hD⟩, fun y hy => ?_, hap.sublist hfs, h.keys.sublist (hsub.map _)⟩
  have hy2 := h.pages y (hmem y hy)
  have hn : ∀ z ∈ y.feet, z ≠ bm := fun z hz => hq.2 z (List.mem_flatMap.2 ⟨y, hmem y hy, hz⟩)
  exact ⟨hk.heap hy2.1 (by simpa using hn y.blk (by simp [Pg.feet])), hy2.2.kept hk (fun z hz => by simpa using hn z (by simp [Pg.feet, hz]))⟩

/-- A page laid in. -/
theorem PoolAt.snoc {g : Pg} (h : PoolAt w q d o bm gs) (hk : Kept [bm] w w') (hc : w.heap[g.blk]? = some (.cells #[g.v, .bool g.dirty] 63 (0, 0))) (hr : RowB w g.v g.bs) (hn : g.feet.Nodup) (hf : ∀ x ∈ g.feet, x ∉ pfeet q bm gs) (hkey : ∀ x ∈ gs, x.key ≠ g.key)
    {D : DataW Unit} {n : Nat} (hh : w'.ownsMap Try.prog 54 ptrE bm n D) (hD : PagesIs D (gs ++ [g])) : PoolAt w' q d o bm (gs ++ [g]) := by
  have hap := h.apart
  have hq : q ≠ bm ∧ ∀ y ∈ gs.flatMap Pg.feet, y ≠ bm := by
    simp only [pfeet, List.nodup_cons, List.mem_cons, not_or] at hap
    exact ⟨hap.1.1, fun y hy e => hap.2.1 (e ▸ hy)⟩
  have hbm : ∀ z ∈ g.feet, z ≠ bm := fun z hz e => hf z hz (by rw [e]; simp [pfeet])
  have e1 : pfeet q bm (gs ++ [g]) = pfeet q bm gs ++ g.feet := by simp [pfeet]
  refine ⟨hk.heap h.cells (by simpa using hq.1), ⟨D, ownsMap_fit hh (by rw [hD.size]; simp), hD⟩, fun y hy => ?_, ?_, ?_⟩
  · rcases List.mem_append.1 hy with hy | hy
    · have hy2 := h.pages y hy
      have hn : ∀ z ∈ y.feet, z ≠ bm := fun z hz => hq.2 z (List.mem_flatMap.2 ⟨y, hy, hz⟩)
      exact ⟨hk.heap hy2.1 (by simpa using hn y.blk (by simp [Pg.feet])), hy2.2.kept hk (fun z hz => by simpa using hn z (by simp [Pg.feet, hz]))⟩
    · simp at hy
      subst hy
      exact ⟨hk.heap hc (by simpa using hbm y.blk (by simp [Pg.feet])), hr.kept hk (fun z hz => by simpa using hbm z (by simp [Pg.feet, hz]))⟩
  · rw [e1, List.nodup_append]
    exact ⟨hap, hn, fun x hx y hy e => hf y hy (e ▸ hx)⟩
  · rw [List.map_append, List.nodup_append]
    refine ⟨h.keys, by simp, fun x hx y hy e => ?_⟩
    obtain ⟨z, hz, rfl⟩ := List.mem_map.1 hx
    simp at hy
    exact hkey z hz (e.trans hy)

end
end Go.Proofs.Ytbhjdcoehgajcaa.L.P
