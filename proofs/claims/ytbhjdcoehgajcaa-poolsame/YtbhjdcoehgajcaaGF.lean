/-
  Lemma texts, one behind the other: PMem, PSave, PUse, PFill, PHold, PWithin, PClos. No statement of the seat is proved here.
-/
import Derived.Test.YtbhjdcoehgajcaaGE
namespace Go.Proofs.Ytbhjdcoehgajcaa

abbrev DOutc := @Outc
abbrev DLook := @lookA

end Go.Proofs.Ytbhjdcoehgajcaa
namespace Go.Proofs.Ytbhjdcoehgajcaa.L.P
open Go.RowKit Go.Maps

/-- A page: its place, its block, its bytes (v: the slice), whether it is dirty. -/
structure Pg where
  key : Place
  blk : Nat
  v : Value
  bs : List Int
  dirty : Bool

def Pg.fr (g : Pg) : Fr Place := ⟨0, g.blk, g.key, 0⟩
/-- The blocks of a page, and of a pool. -/
def Pg.feet (g : Pg) : List Nat := g.blk :: own g.v
def pfeet (q bm : Nat) (gs : List Pg) : List Nat := q :: bm :: gs.flatMap Pg.feet

abbrev PagesIs (D : DataW Unit) (gs : List Pg) : Prop := MapIs litP .nil (fun e : Fr Place => .lit (.int .i64 e.blk)) Fr.key D (gs.map Pg.fr)

structure PoolAt (w : World) (q d o bm : Nat) (gs : List Pg) : Prop where
  cells : w.heap[q]? = some (.cells #[.pointer (some ⟨d, 0, none⟩), .pointer (some ⟨o, 0, none⟩), .map (some bm)] 57 (0, 0))
  map : ∃ D, w.ownsMap Try.prog 54 ptrE bm gs.length D ∧ PagesIs D gs
  pages : ∀ g ∈ gs, w.heap[g.blk]? = some (.cells #[g.v, .bool g.dirty] 63 (0, 0)) ∧ RowB w g.v g.bs
  apart : (pfeet q bm gs).Nodup
  keys : (gs.map Pg.key).Nodup

section
variable {w w' : World} {q d o bm : Nat} {gs : List Pg}

theorem pfeet_mem {x : Nat} : x ∈ pfeet q bm gs ↔ x = q ∨ x = bm ∨ ∃ g ∈ gs, x = g.blk ∨ x ∈ own g.v := by
  simp only [pfeet, Pg.feet, List.mem_cons, List.mem_flatMap]

theorem pfeet_blk {g : Pg} (h : g ∈ gs) : g.blk ∈ pfeet q bm gs := pfeet_mem.2 (.inr (.inr ⟨g, h, .inl rfl⟩))
theorem pfeet_own {g : Pg} (h : g ∈ gs) {x : Nat} (hx : x ∈ own g.v) : x ∈ pfeet q bm gs := pfeet_mem.2 (.inr (.inr ⟨g, h, .inr hx⟩))

theorem PoolAt.lt (h : PoolAt w q d o bm gs) : ∀ x ∈ pfeet q bm gs, x < w.heap.size := by
  intro x hx
  rcases pfeet_mem.1 hx with rfl | rfl | ⟨g, hg, rfl | hx⟩
  · exact (Array.getElem?_eq_some_iff.1 h.cells).1
  · obtain ⟨D, h1, _⟩ := h.map
    exact h1.lt
  · exact (Array.getElem?_eq_some_iff.1 (h.pages g hg).1).1
  · exact (h.pages g hg).2.lt x hx

theorem PoolAt.kept {fp : List Nat} (h : PoolAt w q d o bm gs) (hk : Kept fp w w') (hf : ∀ x ∈ pfeet q bm gs, x ∉ fp) : PoolAt w' q d o bm gs := by
  refine ⟨hk.heap h.cells (hf _ (by simp [pfeet])), ?_, fun g hg => ⟨hk.heap (h.pages g hg).1 (hf _ (pfeet_blk hg)), (h.pages g hg).2.kept hk (fun x hx => hf x (pfeet_own hg hx))⟩, h.apart, h.keys⟩
  obtain ⟨D, h1, h2⟩ := h.map
  exact ⟨D, ownsMap_kept h1 hk (hf _ (by simp [pfeet])), h2⟩

theorem PoolAt.below (h : PoolAt w q d o bm gs) (hb : Below w.heap.size w w') : PoolAt w' q d o bm gs := h.kept (fp := []) (Kept.of_below hb) (by simp)

theorem PoolAt.cellAt (h : PoolAt w q d o bm gs) : w.cell? ⟨q, 0, none⟩ = some (.pointer (some ⟨d, 0, none⟩)) ∧ w.cell? ⟨q, 1, none⟩ = some (.pointer (some ⟨o, 0, none⟩)) ∧ w.cell? ⟨q, 2, none⟩ = some (.map (some bm)) := by
  refine ⟨?_, ?_, ?_⟩ <;> simp [World.cell?, h.cells]

theorem PoolAt.pageAt (h : PoolAt w q d o bm gs) {g : Pg} (hg : g ∈ gs) : w.cell? ⟨g.blk, 0, none⟩ = some g.v ∧ w.cell? ⟨g.blk, 1, none⟩ = some (.bool g.dirty) ∧ ∀ o, w.frozen? ⟨g.blk, o, none⟩ = false := by
  refine ⟨by simp [World.cell?, (h.pages g hg).1], by simp [World.cell?, (h.pages g hg).1], fun o => frozen_of_heap (h.pages g hg).1 o⟩

theorem fr_key (gs : List Pg) : (gs.map Pg.fr).map Fr.key = gs.map Pg.key := by rw [List.map_map]; rfl

theorem zeroPP (w : World) : (zeroValue 61).run Try.prog w = .ok (.pointer none) w := by kernel_rfl

/-- A page that is held. -/
theorem PoolAt.look (h : PoolAt w q d o bm gs) {g : Pg} (hg : g ∈ gs) : (Instr.lookup 55 (.map (some bm)) (encP g.key) false).run Try.prog w = .ok (.pointer (some ⟨g.blk, 0, none⟩)) w := by
  obtain ⟨D, h1, h2⟩ := h.map
  obtain ⟨v, ps, hrun, hv⟩ := h1.lookup keyedP Try.underlying55 (zeroPP w) ptrE_none (keyP g.key trivial)
  rw [hrun]
  have hnd : ((gs.map Pg.fr).map Fr.key).Nodup := by rw [fr_key]; exact h.keys
  obtain ⟨a, b, hab⟩ := List.append_of_mem (List.mem_map.2 ⟨g, hg, rfl⟩ : g.fr ∈ gs.map Pg.fr)
  have e := h2.at_ g.key
  rw [hab] at hnd e
  rw [show g.key = g.fr.key from rfl, find_at hnd] at e
  rw [show D.atKey (litP g.key) .nil = .lit (.int .i64 g.blk) from e] at hv
  rw [ptrE_inv hv]

theorem PoolAt.look_ok (h : PoolAt w q d o bm gs) {g : Pg} (hg : g ∈ gs) : (Instr.lookup 55 (.map (some bm)) (encP g.key) true).run Try.prog w = .ok (.tuple #[.pointer (some ⟨g.blk, 0, none⟩), .bool true]) w := by
  obtain ⟨D, h1, h2⟩ := h.map
  obtain ⟨v, ps, hrun, hv⟩ := h1.look_ok keyedP Try.underlying55 (zeroPP w) ptrE_none (keyP g.key trivial)
  have hnd : ((gs.map Pg.fr).map Fr.key).Nodup := by rw [fr_key]; exact h.keys
  obtain ⟨a, b, hab⟩ := List.append_of_mem (List.mem_map.2 ⟨g, hg, rfl⟩ : g.fr ∈ gs.map Pg.fr)
  have e := h2.at_ g.key
  have hh := h2.has g.key
  rw [hab] at hnd e hh
  rw [show g.key = g.fr.key from rfl, find_at hnd] at e hh
  rw [show D.atKey (litP g.key) .nil = .lit (.int .i64 g.blk) from e] at hv
  rw [hrun, ptrE_inv hv]
  rw [show Maps.has D (litP g.key) = true from hh]

theorem PoolAt.look_no (h : PoolAt w q d o bm gs) (k : Place) (hno : ∀ g ∈ gs, g.key ≠ k) : (Instr.lookup 55 (.map (some bm)) (encP k) true).run Try.prog w = .ok (.tuple #[.pointer none, .bool false]) w := by
  obtain ⟨D, h1, h2⟩ := h.map
  obtain ⟨v, ps, hrun, hv⟩ := h1.look_ok keyedP Try.underlying55 (zeroPP w) ptrE_none (keyP k trivial)
  have hf : ∀ e ∈ gs.map Pg.fr, e.key ≠ k := fun e he => by
    obtain ⟨g, hg, rfl⟩ := List.mem_map.1 he
    exact hno g hg
  have e := h2.at_ k
  have hh := h2.has k
  rw [find_none hf] at e hh
  rw [show D.atKey (litP k) .nil = .nil from e] at hv
  rw [hrun, ptrE_inv_nil hv]
  rw [show Maps.has D (litP k) = false from hh]

/-- Another truth of a page. -/
theorem PoolAt.setDirty {a b : List Pg} {g : Pg} (h : PoolAt w q d o bm (a ++ g :: b)) (x : Bool) : PoolAt (w.setCell ⟨g.blk, 1, none⟩ (.bool x)) q d o bm (a ++ { g with dirty := x } :: b) ∧ Kept [g.blk] w (w.setCell ⟨g.blk, 1, none⟩ (.bool x)) := by
  have hk : Kept [g.blk] w (w.setCell ⟨g.blk, 1, none⟩ (.bool x)) := (Kept.refl _ w).setCell (p := ⟨g.blk, 1, none⟩) (.inl (by simp)) _
  have hap := h.apart
  have ef : pfeet q bm (a ++ { g with dirty := x } :: b) = pfeet q bm (a ++ g :: b) := by simp [pfeet, Pg.feet]
  have hne : ∀ y ∈ pfeet q bm (a ++ g :: b), y ∉ g.feet → y ≠ g.blk := fun y _ hn e => hn (by rw [e]; simp [Pg.feet])
  simp only [pfeet, List.flatMap_append, List.flatMap_cons, List.nodup_cons, List.mem_cons, List.mem_append, not_or, List.nodup_append] at hap
  obtain ⟨⟨hqb, hqa, hqg, hqb2⟩, ⟨hba, hbg, hbb⟩, hna, ⟨hng, hnb, hgb⟩, hag⟩ := hap
  refine ⟨⟨hk.heap h.cells ?_, ?_, fun y hy => ?_, by rw [ef]; exact h.apart, by simpa using h.keys⟩, hk⟩
  · simp only [List.mem_singleton]
    intro e
    exact hqg (by rw [e]; simp [Pg.feet])
  · obtain ⟨D, h1, h2⟩ := h.map
    refine ⟨D, by simpa using ownsMap_kept h1 hk (by simp only [List.mem_singleton]; intro e; exact hbg (by rw [e]; simp [Pg.feet])), ?_⟩
    have : (a ++ { g with dirty := x } :: b).map Pg.fr = (a ++ g :: b).map Pg.fr := by simp [Pg.fr]
    rw [PagesIs, this]
    exact h2
  · rcases List.mem_append.1 hy with hy | hy
    · have hy2 := h.pages y (by simp [hy])
      have hn : ∀ z ∈ y.feet, z ≠ g.blk := fun z hz e => hag z (List.mem_flatMap.2 ⟨y, hy, hz⟩) g.blk (.inl (by simp [Pg.feet])) e
      exact ⟨hk.heap hy2.1 (by simpa using hn y.blk (by simp [Pg.feet])), hy2.2.kept hk (fun z hz => by simpa using hn z (by simp [Pg.feet, hz]))⟩
    · rcases List.mem_cons.1 hy with rfl | hy
      · have hg2 := h.pages g (by simp)
        refine ⟨by simpa using heap_setCell hg2.1 1 (.bool x), hg2.2.kept hk (fun z hz e => ?_)⟩
        simp only [List.mem_singleton] at e
        simp only [Pg.feet, List.nodup_cons] at hng
        exact hng.1 (e ▸ hz)
      · have hy2 := h.pages y (by simp [hy])
        have hn : ∀ z ∈ y.feet, z ≠ g.blk := fun z hz e => hgb g.blk (by simp [Pg.feet]) z (List.mem_flatMap.2 ⟨y, hy, hz⟩) e.symm
        exact ⟨hk.heap hy2.1 (by simpa using hn y.blk (by simp [Pg.feet])), hy2.2.kept hk (fun z hz => by simpa using hn z (by simp [Pg.feet, hz]))⟩

/-- Other bytes of a page, in their place. -/
theorem PoolAt.setBytes {a b : List Pg} {g : Pg} (h : PoolAt w q d o bm (a ++ g :: b)) {bs : List Int} (hk : Kept (own g.v) w w') (hr : RowB w' g.v bs) : PoolAt w' q d o bm (a ++ { g with bs := bs } :: b) := by
  have hap := h.apart
  have ef : pfeet q bm (a ++ { g with bs := bs } :: b) = pfeet q bm (a ++ g :: b) := by simp [pfeet, Pg.feet]
  simp only [pfeet, List.flatMap_append, List.flatMap_cons, List.nodup_cons, List.mem_cons, List.mem_append, not_or, List.nodup_append] at hap
  obtain ⟨⟨hqb, hqa, hqg, hqb2⟩, ⟨hba, hbg, hbb⟩, hna, ⟨hng, hnb, hgb⟩, hag⟩ := hap
  refine ⟨hk.heap h.cells (fun e => hqg (by simp [Pg.feet, e])), ?_, fun y hy => ?_, by rw [ef]; exact h.apart, by simpa using h.keys⟩
  · obtain ⟨D, h1, h2⟩ := h.map
    refine ⟨D, by simpa using ownsMap_kept h1 hk (fun e => hbg (by simp [Pg.feet, e])), ?_⟩
    have : (a ++ { g with bs := bs } :: b).map Pg.fr = (a ++ g :: b).map Pg.fr := by simp [Pg.fr]
    rw [PagesIs, this]
    exact h2
  · rcases List.mem_append.1 hy with hy | hy
    · have hy2 := h.pages y (by simp [hy])
      have hn : ∀ z ∈ y.feet, z ∉ own g.v := fun z hz e => hag z (List.mem_flatMap.2 ⟨y, hy, hz⟩) z (.inl (by simp [Pg.feet, e])) rfl
      exact ⟨hk.heap hy2.1 (hn y.blk (by simp [Pg.feet])), hy2.2.kept hk (fun z hz => hn z (by simp [Pg.feet, hz]))⟩
    · rcases List.mem_cons.1 hy with rfl | hy
      · have hg2 := h.pages g (by simp)
        simp only [Pg.feet, List.nodup_cons] at hng
        exact ⟨hk.heap hg2.1 hng.1, hr⟩
      · have hy2 := h.pages y (by simp [hy])
        have hn : ∀ z ∈ y.feet, z ∉ own g.v := fun z hz e => hgb z (by simp [Pg.feet, e]) z (List.mem_flatMap.2 ⟨y, hy, hz⟩) rfl
        exact ⟨hk.heap hy2.1 (hn y.blk (by simp [Pg.feet])), hy2.2.kept hk (fun z hz => hn z (by simp [Pg.feet, hz]))⟩

/-- A page taken out. -/
theorem PoolAt.del {a b : List Pg} {g : Pg} (h : PoolAt w q d o bm (a ++ g :: b)) (hk : Kept [bm] w w') {D : DataW Unit} {n : Nat} (hh : w'.ownsMap Try.prog 54 ptrE bm n D) (hD : PagesIs D (a ++ b)) : PoolAt w' q d o bm (a ++ b) := by
  have hap := h.apart
  have hsub : (a ++ b).Sublist (a ++ g :: b) := List.Sublist.append_left (List.sublist_cons_self g b) a
  have hmem : ∀ x ∈ a ++ b, x ∈ a ++ g :: b := fun x hx => hsub.subset hx
  have hfs : (pfeet q bm (a ++ b)).Sublist (pfeet q bm (a ++ g :: b)) := by
    simp only [pfeet, List.flatMap_append, List.flatMap_cons]
    exact (((List.sublist_append_right _ _).append_left _).cons_cons bm).cons_cons q
  have hq : q ≠ bm ∧ ∀ y ∈ (a ++ g :: b).flatMap Pg.feet, y ≠ bm := by
    simp only [pfeet, List.nodup_cons, List.mem_cons, not_or] at hap
    exact ⟨hap.1.1, fun y hy e => hap.2.1 (e ▸ hy)⟩
  refine ⟨hk.heap h.cells (by simpa using hq.1), ⟨D, ownsMap_fit hh (by rw [hD.size]; simp), hD⟩, fun y hy => ?_, hap.sublist hfs, h.keys.sublist (hsub.map _)⟩
  have hy2 := h.pages y (hmem y hy)
  have hn : ∀ z ∈ y.feet, z ≠ bm := fun z hz => hq.2 z (List.mem_flatMap.2 ⟨y, hmem y hy, hz⟩)
  exact ⟨hk.heap hy2.1 (by simpa using hn y.blk (by simp [Pg.feet])), hy2.2.kept hk (fun z hz => by simpa using hn z (by simp [Pg.feet, hz]))⟩

/-- A page laid in. -/
theorem PoolAt.snoc {g : Pg} (h : PoolAt w q d o bm gs) (hk : Kept [bm] w w') (hc : w.heap[g.blk]? = some (.cells #[g.v, .bool g.dirty] 63 (0, 0))) (hr : RowB w g.v g.bs) (hn : g.feet.Nodup) (hf : ∀ x ∈ g.feet, x ∉ pfeet q bm gs) (hkey : ∀ x ∈ gs, x.key ≠ g.key)
    {D : DataW Unit} {n : Nat} (hh : w'.ownsMap Try.prog 54 ptrE bm n D) (hD : PagesIs D (gs ++ [g])) : PoolAt w' q d o bm (gs ++ [g]) := by
  have hap := h.apart
  have hq : q ≠ bm ∧ ∀ y ∈ gs.flatMap Pg.feet, y ≠ bm := by
    simp only [pfeet, List.nodup_cons, List.mem_cons, not_or] at hap
    exact ⟨hap.1.1, fun y hy e => hap.2.1 (e ▸ hy)⟩
  have hbm : ∀ z ∈ g.feet, z ≠ bm := fun z hz e => hf z hz (by rw [e]; simp [pfeet])
  have e1 : pfeet q bm (gs ++ [g]) = pfeet q bm gs ++ g.feet := by simp [pfeet]
  refine ⟨hk.heap h.cells (by simpa using hq.1), ⟨D, ownsMap_fit hh (by rw [hD.size]; simp), hD⟩, fun y hy => ?_, ?_, ?_⟩
  · rcases List.mem_append.1 hy with hy | hy
    · have hy2 := h.pages y hy
      have hn : ∀ z ∈ y.feet, z ≠ bm := fun z hz => hq.2 z (List.mem_flatMap.2 ⟨y, hy, hz⟩)
      exact ⟨hk.heap hy2.1 (by simpa using hn y.blk (by simp [Pg.feet])), hy2.2.kept hk (fun z hz => by simpa using hn z (by simp [Pg.feet, hz]))⟩
    · simp at hy
      subst hy
      exact ⟨hk.heap hc (by simpa using hbm y.blk (by simp [Pg.feet])), hr.kept hk (fun z hz => by simpa using hbm z (by simp [Pg.feet, hz]))⟩
  · rw [e1, List.nodup_append]
    exact ⟨hap, hn, fun x hx y hy e => hf y hy (e ▸ hx)⟩
  · rw [List.map_append, List.nodup_append]
    refine ⟨h.keys, by simp, fun x hx y hy e => ?_⟩
    obtain ⟨z, hz, rfl⟩ := List.mem_map.1 hx
    simp at hy
    exact hkey z hz (e.trans hy)

end
end Go.Proofs.Ytbhjdcoehgajcaa.L.P

namespace Go.Proofs.Ytbhjdcoehgajcaa.L.P
open Go.RowKit Go.Maps

/-- The box of a place. -/
@[reducible] def boxP (w : World) (k : Place) : World := w.alloc (.cells #[.string k.1.1, .int .i64 k.1.2] 54)
theorem boxP_at (w : World) (k : Place) : (boxP w k).cell? ⟨w.heap.size, 0, none⟩ = some (.string k.1.1) ∧ (boxP w k).cell? ⟨w.heap.size, 1, none⟩ = some (.int .i64 k.1.2) ∧ Below w.heap.size w (boxP w k) :=
  ⟨(box2 w (.string k.1.1) (.int .i64 k.1.2) 54).1, (box2 w (.string k.1.1) (.int .i64 k.1.2) 54).2, (Below.refl _ w).alloc (Nat.le_refl _) _⟩

section
variable {w w' : World} {q d o bm : Nat} {gs : List Pg}

set_option maxRecDepth 100000 in
set_option maxHeartbeats 4000000 in
theorem save_clean (h : PoolAt w q d o bm gs) {g : Pg} (hg : g ∈ gs) (hd : g.dirty = false) :
    Calls Try.prog 33 #[.pointer (some ⟨q, 0, none⟩), encP g.key] w fun e w' => e = .returned (.int .i64 0) ∧ Below w.heap.size w w' := by
  obtain ⟨b0, b1, bb⟩ := boxP_at w g.key
  have h1 := h.below bb.drew
  have LK := h1.look hg
  obtain ⟨c0, c1, c2⟩ := h1.cellAt
  obtain ⟨p0, p1, _⟩ := h1.pageAt hg
  rw [hd] at p1
  have B0 : (boxP w g.key).drew.cell? ⟨w.heap.size, 0, none⟩ = some (.string g.key.1.1) := b0
  have B1 : (boxP w g.key).drew.cell? ⟨w.heap.size, 1, none⟩ = some (.int .i64 g.key.1.2) := b1
  have BB := hide bb.drew
  obtain ⟨k, hk⟩ : ∃ k, k = g.key := ⟨_, rfl⟩
  obtain ⟨gb, hgb⟩ : ∃ gb, gb = g.blk := ⟨_, rfl⟩
  rw [← hk] at LK c0 c1 c2 p0 p1 B0 B1 BB ⊢
  rw [← hgb] at LK p0 p1
  clear h h1 hg hd b0 b1 bb hk hgb c0 c1 p0
  go_enter Try.func33, Try.ntmps33
  go_wp2
  go_region_held (fun W => W.cell? ⟨q, 2, none⟩ = some (.map (some bm)) ∧ W.cell? ⟨w.heap.size, 0, none⟩ = some (.string k.1.1) ∧ W.cell? ⟨w.heap.size, 1, none⟩ = some (.int .i64 k.1.2)) (go_keep) (fail)
  all_goals
  go_wp2_with fail
  go_ret
  exact ⟨rfl, BB.out⟩

set_option maxRecDepth 100000 in
set_option maxHeartbeats 4000000 in
theorem save_dirty {a b : List Pg} {g : Pg} {fd : List Nat} {l : List Ab} {s : Ds} {A : List Ab × Ds} (h : PoolAt w q d o bm (a ++ g :: b)) (hdt : g.dirty = true) (hd : Dk w fd d l s) (hap : ∀ x ∈ fd, x ∉ pfeet q bm (a ++ g :: b)) (hn : s.ops ≤ 1000000) (hl : g.bs.length ≤ 64)
    (hA : writeAtA (beginA l s) g.key.1.1.data.toList g.key.1.2 g.bs = (0, A)) :
    Calls Try.prog 33 #[.pointer (some ⟨q, 0, none⟩), encP g.key] w fun e w' => e = .returned (.int .i64 0) ∧ PoolAt w' q d o bm (a ++ { g with dirty := false } :: b) ∧ ∃ fd', Dk w' fd' d A.1 A.2 ∧ Kept (fd ++ [g.blk]) w w' ∧ Newly w fd fd' := by
  obtain ⟨b0, b1, bb⟩ := boxP_at w g.key
  have hg : g ∈ a ++ g :: b := by simp
  have h1 := h.below bb.drew
  have LK := h1.look hg
  obtain ⟨c0, c1, c2⟩ := h1.cellAt
  obtain ⟨p0, p1, _⟩ := h1.pageAt hg
  rw [hdt] at p1
  have B0 : (boxP w g.key).drew.cell? ⟨w.heap.size, 0, none⟩ = some (.string g.key.1.1) := b0
  have B1 : (boxP w g.key).drew.cell? ⟨w.heap.size, 1, none⟩ = some (.int .i64 g.key.1.2) := b1
  have hfn : ∀ x ∈ own g.v, x ∉ fd := fun x hx e => hap x e (pfeet_own hg hx)
  have WR := hide (fun (W : World) (bw : Below w.heap.size w W) => (hd.below bw).writeAt hn g.key.1.1 g.key.2.1 g.key.1.2 g.key.2.2 g.v g.bs (h.below bw |>.pages g hg).2.isB (by omega) (fun _ => hfn))
  rw [hA] at WR
  have BB := hide bb.drew
  have H := hide h
  have HAP := hide hap
  have HLT := hide hd.lt
  obtain ⟨va, vc, hv, _⟩ := (h.pages g hg).2.isB.form
  have HV := hide hv
  rw [hv] at p0 WR
  obtain ⟨k, hk⟩ : ∃ k, k = g.key := ⟨_, rfl⟩
  obtain ⟨gb, hgb⟩ : ∃ gb, gb = g.blk := ⟨_, rfl⟩
  rw [← hk] at LK c0 c1 c2 p0 p1 B0 B1 BB WR
  rw [← hk]
  rw [← hgb] at LK p0 p1
  have HG := hide hgb
  have HKK := hide hk
  clear h h1 hg hd hdt hap b0 b1 bb hk hgb c1 hfn hA hv
  go_enter Try.func33, Try.ntmps33
  go_wp2
  go_region_held (fun W => W.cell? ⟨q, 2, none⟩ = some (.map (some bm)) ∧ W.cell? ⟨w.heap.size, 0, none⟩ = some (.string k.1.1) ∧ W.cell? ⟨w.heap.size, 1, none⟩ = some (.int .i64 k.1.2)) (go_keep) (fail)
  all_goals
  go_wp2_with fail
  obtain ⟨W1, hW1⟩ : ∃ W1, W1 = (boxP w k).drew := ⟨_, rfl⟩
  rw [← hW1] at c0 c2 p0 p1 B0 B1 BB ⊢
  have WD := hide (WR.out W1.drew BB.out.drew)
  have HP1 := hide (H.out.below BB.out.drew)
  have c0' : W1.drew.cell? ⟨q, 0, none⟩ = some (.pointer (some ⟨d, 0, none⟩)) := c0
  have p0' : W1.drew.cell? ⟨gb, 0, none⟩ = some (.slice va g.bs.length vc) := p0
  have B0' : W1.drew.cell? ⟨w.heap.size, 0, none⟩ = some (.string k.1.1) := B0
  have B1' : W1.drew.cell? ⟨w.heap.size, 1, none⟩ = some (.int .i64 k.1.2) := B1
  have SB : Hid (W1.drew.heap.size = W1.heap.size) := rfl
  clear hW1 LK
  go_region_held (fun W => W.cell? ⟨q, 0, none⟩ = some (.pointer (some ⟨d, 0, none⟩)) ∧ W.cell? ⟨w.heap.size, 0, none⟩ = some (.string k.1.1) ∧ W.cell? ⟨w.heap.size, 1, none⟩ = some (.int .i64 k.1.2) ∧ W.cell? ⟨gb, 0, none⟩ = some (.slice va g.bs.length vc)) (exact ⟨by assumption, by assumption, by assumption, by assumption⟩) (first | (go_at_call 48; refine WD.out.mono ?_; rintro e w2 ⟨rfl, fd', d2, k2, n2⟩; have u0 := k2.cell c0' (fun e => HAP.out q e (by simp [pfeet])); have u1 := k2.cell B0' (fun e => by have := HLT.out _ e; simp at this); have u2 := k2.cell B1' (fun e => by have := HLT.out _ e; simp at this); have u3 := k2.cell p0' (fun e => HAP.out gb e (by rw [HG.out]; exact pfeet_blk (by simp))); have D2 := hide d2; have K2 := hide k2; have N2 := hide n2; have P2 := hide (HP1.out.kept k2 (fun x hx e => HAP.out x e hx)); clear d2 k2 n2))
  all_goals
    obtain ⟨_, t1, t2⟩ := P2.out.pageAt (g := g) (by simp)
    rw [← HG.out] at t1 t2
    have t3 := t2 1
    clear t2
    go_wp2_with fail
    go_ret
    have SD := P2.out.setDirty false
    have e1 := HG.out
    have e2 := HKK.out
    subst e1
    subst e2
    have kk : Kept (fd ++ [g.blk]) w w2 := (Kept.of_below (fp := fd ++ [g.blk]) BB.out.drew).trans (K2.out.mono (fp' := fd ++ [g.blk]) (by intro x hx; simp [hx])) (Newly.refl _ _)
    refine ⟨rfl, SD.1, fd', D2.out.kept SD.2 (fun x hx e => ?_), kk.trans SD.2 (fun x hx => .inl (by simp at hx; simp [hx])), fun x hx => (N2.out x hx).imp id (fun q => Nat.le_trans BB.out.size q)⟩
    simp only [List.mem_singleton] at e
    rcases N2.out x hx with q | q
    · exact HAP.out x q (by rw [e]; exact pfeet_blk (by simp))
    · have := H.out.lt g.blk (pfeet_blk (by simp))
      have := BB.out.size
      have hsz : W1.drew.heap.size ≤ x := q
      have hsb : W1.drew.heap.size = W1.heap.size := rfl
      omega

end
end Go.Proofs.Ytbhjdcoehgajcaa.L.P

namespace Go.Proofs.Ytbhjdcoehgajcaa.L.P
open Go.RowKit Go.Maps

theorem cell_set2 {W : World} {b : Nat} {x y v : Value} {a : Addr} (h : W.cell? a = some v) (hn : a.block ≠ b) : ((W.setCell ⟨b, 0, none⟩ x).setCell ⟨b, 1, none⟩ y).cell? a = some v :=
  (((Kept.refl [b] W).setCell (p := ⟨b, 0, none⟩) (.inl (by simp)) x).setCell (p := ⟨b, 1, none⟩) (.inl (by simp)) y).cell h (by simpa using hn)
theorem cell_new {W : World} {o : Obj} {v : Value} {a : Addr} (h : W.cell? a = some v) : (W.alloc o).cell? a = some v := ((Kept.refl [] W).alloc o).cell h (by simp)

/-- A pool with its disk and its frames, by their blocks. -/
def Pl (w : World) (fp : List Nat) (q d o : Nat) (fr : Int) (N : Nat) (l : List Ab) (s : Ds) (ord : List (Place × Nat)) (gs : List Pg) : Prop :=
  ∃ fd fo bm, Dk w fd d l s ∧ Ck kP w fo o fr N ord ∧ PoolAt w q d o bm gs ∧ fp = fd ++ (fo ++ pfeet q bm gs) ∧ (∀ x ∈ fd, x ∉ fo) ∧ (∀ x ∈ fd, x ∉ pfeet q bm gs) ∧ ∀ x ∈ fo, x ∉ pfeet q bm gs
/-- What a call leaves. -/
def PlO (w w' : World) (fp : List Nat) (q d o : Nat) (fr : Int) (N : Nat) (l : List Ab) (s : Ds) (ord : List (Place × Nat)) (gs : List Pg) : Prop :=
  ∃ fp', Pl w' fp' q d o fr N l s ord gs ∧ Kept fp w w' ∧ Newly w fp fp'

section
variable {w w' : World} {fp : List Nat} {q d o : Nat} {fr : Int} {N : Nat} {l : List Ab} {s : Ds} {ord : List (Place × Nat)} {gs : List Pg}

theorem Pl.lt (h : Pl w fp q d o fr N l s ord gs) : ∀ x ∈ fp, x < w.heap.size := by
  obtain ⟨fd, fo, bm, h1, h2, h3, rfl, _⟩ := h
  intro x hx
  simp only [List.mem_append] at hx
  rcases hx with hx | hx | hx
  · exact h1.lt x hx
  · exact h2.lt x hx
  · exact h3.lt x hx

theorem Pl.kept {fp2 : List Nat} (h : Pl w fp q d o fr N l s ord gs) (hk : Kept fp2 w w') (hf : ∀ x ∈ fp, x ∉ fp2) : Pl w' fp q d o fr N l s ord gs := by
  obtain ⟨fd, fo, bm, h1, h2, h3, rfl, a1, a2, a3⟩ := h
  exact ⟨fd, fo, bm, h1.kept hk (fun x hx => hf x (by simp [hx])), h2.kept hk (fun x hx => hf x (by simp [hx])), h3.kept hk (fun x hx => hf x (by simp [hx])), rfl, a1, a2, a3⟩

theorem Pl.below (h : Pl w fp q d o fr N l s ord gs) (hb : Below w.heap.size w w') : Pl w' fp q d o fr N l s ord gs := h.kept (fp2 := []) (Kept.of_below hb) (by simp)

theorem PlO.trans {w2 : World} {N2 : Nat} {l2 : List Ab} {s2 : Ds} {ord2 : List (Place × Nat)} {gs2 : List Pg} (h : PlO w w' fp q d o fr N l s ord gs) (k : ∀ fp', Pl w' fp' q d o fr N l s ord gs → PlO w' w2 fp' q d o fr N2 l2 s2 ord2 gs2) : PlO w w2 fp q d o fr N2 l2 s2 ord2 gs2 := by
  obtain ⟨fp1, h1, k1, n1⟩ := h
  obtain ⟨fp2, h2, k2, n2⟩ := k fp1 h1
  exact ⟨fp2, h2, k1.trans k2 n1, n1.trans n2 k1.size⟩

theorem PlO.of_below {w2 : World} (hb : Below w.heap.size w w') (h : Pl w fp q d o fr N l s ord gs) {N2 : Nat} {l2 : List Ab} {s2 : Ds} {ord2 : List (Place × Nat)} {gs2 : List Pg} (k : Pl w' fp q d o fr N l s ord gs → PlO w' w2 fp q d o fr N2 l2 s2 ord2 gs2) : PlO w w2 fp q d o fr N2 l2 s2 ord2 gs2 := by
  obtain ⟨fp2, h2, k2, n2⟩ := k (h.below hb)
  exact ⟨fp2, h2, (Kept.of_below (fp := fp) hb).trans k2 (Newly.refl _ _), (Newly.refl w fp).trans n2 hb.size⟩

/-- Behind something done with the frames. -/
theorem Pl.order {ord' : List (Place × Nat)} {N' : Nat} (h : Pl w fp q d o fr N l s ord gs) (ho : ∀ fo, Ck kP w fo o fr N ord → Outc kP w w' fo o fr N' ord') : PlO w w' fp q d o fr N' l s ord' gs := by
  obtain ⟨fd, fo, bm, h1, h2, h3, rfl, a1, a2, a3⟩ := h
  obtain ⟨fo', o1, o2, o3⟩ := ho fo h2
  refine ⟨fd ++ (fo' ++ pfeet q bm gs), ⟨fd, fo', bm, h1.kept o2 a1, o1, h3.kept o2 (fun x hx e => a3 x e hx), rfl, fun x hx e => ?_, a2, fun x hx e => ?_⟩, o2.mono (by intro x hx; simp [hx]), fun x hx => ?_⟩
  · rcases o3 x e with q | q
    · exact a1 x hx q
    · have := h1.lt x hx; omega
  · rcases o3 x hx with q | q
    · exact a3 x q e
    · have := h3.lt x e; omega
  · simp only [List.mem_append] at hx ⊢
    rcases hx with hx | hx | hx
    · exact .inl (.inl hx)
    · rcases o3 x hx with q | q
      · exact .inl (.inr (.inl q))
      · exact .inr q
    · exact .inl (.inr (.inr hx))

theorem Pl.calls_order {f : Nat} {args : Array Value} {R : Ending → Prop} {ord' : List (Place × Nat)} {N' : Nat} (h : Pl w fp q d o fr N l s ord gs) (hc : ∀ fo, Ck kP w fo o fr N ord → Calls Try.prog f args w fun e w' => R e ∧ Outc kP w w' fo o fr N' ord') :
    Calls Try.prog f args w fun e w' => R e ∧ PlO w w' fp q d o fr N' l s ord' gs := by
  have h0 := h
  obtain ⟨fd, fo, bm, h1, h2, h3, rfl, a1, a2, a3⟩ := h
  refine (hc fo h2).mono ?_
  rintro e w' ⟨hr, fo', o1, o2, o3⟩
  refine ⟨hr, fd ++ (fo' ++ pfeet q bm gs), ⟨fd, fo', bm, h1.kept o2 a1, o1, h3.kept o2 (fun x hx e => a3 x e hx), rfl, fun x hx e => ?_, a2, fun x hx e => ?_⟩, o2.mono (by intro x hx; simp [hx]), fun x hx => ?_⟩
  · rcases o3 x e with q | q
    · exact a1 x hx q
    · have := h1.lt x hx; omega
  · rcases o3 x hx with q | q
    · exact a3 x q e
    · have := h3.lt x e; omega
  · simp only [List.mem_append] at hx ⊢
    rcases hx with hx | hx | hx
    · exact .inl (.inl hx)
    · rcases o3 x hx with q | q
      · exact .inl (.inr (.inl q))
      · exact .inr q
    · exact .inl (.inr (.inr hx))

theorem Pl.cells (h : Pl w fp q d o fr N l s ord gs) : ∃ bm, bm ∈ fp ∧ w.cell? ⟨q, 0, none⟩ = some (.pointer (some ⟨d, 0, none⟩)) ∧ w.cell? ⟨q, 1, none⟩ = some (.pointer (some ⟨o, 0, none⟩)) ∧ w.cell? ⟨q, 2, none⟩ = some (.map (some bm)) := by
  obtain ⟨fd, fo, bm, h1, h2, h3, rfl, a1, a2, a3⟩ := h
  exact ⟨bm, by simp [pfeet], h3.cellAt⟩

/-- save. -/
theorem Pl.save_clean (h : Pl w fp q d o fr N l s ord gs) {g : Pg} (hg : g ∈ gs) (hd : g.dirty = false) :
    Calls Try.prog 33 #[.pointer (some ⟨q, 0, none⟩), encP g.key] w fun e w' => e = .returned (.int .i64 0) ∧ PlO w w' fp q d o fr N l s ord gs := by
  have h0 := h
  obtain ⟨fd, fo, bm, h1, h2, h3, hfp, a1, a2, a3⟩ := h
  refine (P.save_clean h3 hg hd).mono ?_
  rintro e w' ⟨rfl, b⟩
  exact ⟨rfl, fp, h0.below b, Kept.of_below b, Newly.refl _ _⟩

theorem Pl.save_dirty {a b : List Pg} {g : Pg} {A : List Ab × Ds} (h : Pl w fp q d o fr N l s ord (a ++ g :: b)) (hdt : g.dirty = true) (hn : s.ops ≤ 1000000) (hl : g.bs.length ≤ 64) (hA : writeAtA (beginA l s) g.key.1.1.data.toList g.key.1.2 g.bs = (0, A)) :
    Calls Try.prog 33 #[.pointer (some ⟨q, 0, none⟩), encP g.key] w fun e w' => e = .returned (.int .i64 0) ∧ PlO w w' fp q d o fr N A.1 A.2 ord (a ++ { g with dirty := false } :: b) := by
  obtain ⟨fd, fo, bm, h1, h2, h3, rfl, a1, a2, a3⟩ := h
  have ef : pfeet q bm (a ++ { g with dirty := false } :: b) = pfeet q bm (a ++ g :: b) := by simp [pfeet, Pg.feet]
  have hb := pfeet_blk (q := q) (bm := bm) (gs := a ++ g :: b) (g := g) (by simp)
  refine (P.save_dirty h3 hdt h1 a2 hn hl hA).mono ?_
  rintro e w' ⟨rfl, p, fd', d', k, n⟩
  refine ⟨rfl, fd' ++ (fo ++ pfeet q bm (a ++ { g with dirty := false } :: b)), ⟨fd', fo, bm, d', h2.kept k (fun x hx e => ?_), p, rfl, fun x hx e => ?_, fun x hx e => ?_, fun x hx e => ?_⟩, k.mono (fun x hx => ?_), fun x hx => ?_⟩
  · simp only [List.mem_append, List.mem_singleton] at e
    rcases e with e | e
    · exact a1 x e hx
    · exact a3 x hx (e ▸ hb)
  · rcases n x hx with q | q
    · exact a1 x q e
    · have := h2.lt x e; omega
  · rw [ef] at e
    rcases n x hx with q | q
    · exact a2 x q e
    · have := h3.lt x e; omega
  · rw [ef] at e
    exact a3 x hx e
  · simp only [List.mem_append, List.mem_singleton] at hx ⊢
    rcases hx with hx | hx
    · exact .inl hx
    · exact .inr (.inr (hx ▸ hb))
  · rw [ef] at hx
    simp only [List.mem_append] at hx ⊢
    rcases hx with hx | hx | hx
    · rcases n x hx with q | q
      · exact .inl (.inl q)
      · exact .inr q
    · exact .inl (.inr (.inl hx))
    · exact .inl (.inr (.inr hx))

/-- A page taken out of the map. -/
theorem Pl.delete {a b : List Pg} {g : Pg} (h : Pl w fp q d o fr N l s ord (a ++ g :: b)) : ∃ bm w', w.cell? ⟨q, 2, none⟩ = some (.map (some bm)) ∧ (Builtin.delete_ #[55, 54] 0 #[.map (some bm), encP g.key]).run Try.prog w = .ok (.tuple #[]) w' ∧ PlO w w' fp q d o fr N l s ord (a ++ b) := by
  obtain ⟨fd, fo, bm, h1, h2, h3, rfl, a1, a2, a3⟩ := h
  obtain ⟨D, hown, hD⟩ := h3.map
  obtain ⟨w', r, o1, t⟩ := hown.drop keyedP Try.underlying55 (keyP g.key trivial) 0
  have hk := turned_kept t
  have hnd : (((a.map Pg.fr) ++ g.fr :: (b.map Pg.fr)).map Fr.key).Nodup := by have := h3.keys; rw [← fr_key] at this; simpa using this
  have hD2 : PagesIs (D.del (litP g.key)) (a ++ b) := by
    have e : (a ++ g :: b).map Pg.fr = a.map Pg.fr ++ g.fr :: b.map Pg.fr := by simp
    unfold PagesIs at hD ⊢
    rw [e] at hD
    have := hD.del injP (hown.tidy keyedP) hnd
    rw [List.map_append]
    exact this
  have p' := h3.del hk o1 hD2
  have hbm : bm ∈ pfeet q bm (a ++ g :: b) := by simp [pfeet]
  have hsub : ∀ x ∈ pfeet q bm (a ++ b), x ∈ pfeet q bm (a ++ g :: b) := fun x hx => by
    rcases pfeet_mem.1 hx with h | h | ⟨y, hy, h⟩
    · exact pfeet_mem.2 (.inl h)
    · exact pfeet_mem.2 (.inr (.inl h))
    · exact pfeet_mem.2 (.inr (.inr ⟨y, by rcases List.mem_append.1 hy with hy | hy <;> simp [hy], h⟩))
  refine ⟨bm, w', h3.cellAt.2.2, r, fd ++ (fo ++ pfeet q bm (a ++ b)), ⟨fd, fo, bm, h1.kept hk (fun x hx e => ?_), h2.kept hk (fun x hx e => ?_), p', rfl, a1, fun x hx e => a2 x hx (hsub x e), fun x hx e => a3 x hx (hsub x e)⟩, hk.mono (by intro x hx; simp at hx; simp [hx, hbm]), Newly.of_sub fun x hx => ?_⟩
  · simp at e
    exact a2 x hx (e ▸ hbm)
  · simp at e
    exact a3 x hx (e ▸ hbm)
  · simp only [List.mem_append] at hx ⊢
    rcases hx with hx | hx | hx
    · exact .inl hx
    · exact .inr (.inl hx)
    · exact .inr (.inr (hsub x hx))

def zeroP : Place := ⟨(⟨#[]⟩, 0), by unfold maxLen; decide, by decide, by decide⟩

/-- Behind 'gone, is, err := p.order.Use(at)': gone lies in the box bx. -/
structure MidP (w W3 : World) (fp : List Nat) (bx : Nat) (k0 : Place) (q d o : Nat) (fr : Int) (N : Nat) (l : List Ab) (s : Ds) (ord : List (Place × Nat)) (gs : List Pg) : Prop where
  out : ∃ fp3, Pl W3 fp3 q d o fr N l s ord gs ∧ Kept fp w W3 ∧ Newly w fp fp3 ∧ bx ∉ fp3
  c0 : W3.cell? ⟨bx, 0, none⟩ = some (.string k0.1.1)
  c1 : W3.cell? ⟨bx, 1, none⟩ = some (.int .i64 k0.1.2)
  low : w.heap.size ≤ bx

theorem MidP.of_set {Wc w2 : World} {k0 : Place} {x : Obj} {N1 : Nat} {ord1 : List (Place × Nat)} {gs1 : List Pg} (h : Pl w fp q d o fr N1 l s ord1 gs1) (hb : Below w.heap.size w Wc) (o2 : PlO Wc w2 fp q d o fr N l s ord gs) (hx : Wc.heap[w.heap.size + 1]? = some x) (hx2 : x = .cells #[.string ⟨#[]⟩, .int .i64 0] 54 (0, 0)) :
    MidP w ((w2.setCell ⟨w.heap.size + 1, 0, none⟩ (.string k0.1.1)).setCell ⟨w.heap.size + 1, 1, none⟩ (.int .i64 k0.1.2)) fp (w.heap.size + 1) k0 q d o fr N l s ord gs := by
  subst hx2
  obtain ⟨fp', p', k', n'⟩ := o2
  have hlt := (Array.getElem?_eq_some_iff.1 hx).1
  have hn : ∀ y ∈ fp', y ≠ w.heap.size + 1 := fun y hy e => by
    rcases n' y hy with q | q
    · have := h.lt y q; omega
    · omega
  have g := heap_setCell (heap_setCell (k'.heap hx (fun e => by have := h.lt _ e; omega)) 0 (.string k0.1.1)) 1 (.int .i64 k0.1.2)
  have ks : Kept [w.heap.size + 1] w2 ((w2.setCell ⟨w.heap.size + 1, 0, none⟩ (.string k0.1.1)).setCell ⟨w.heap.size + 1, 1, none⟩ (.int .i64 k0.1.2)) := ((Kept.refl _ w2).setCell (p := ⟨w.heap.size + 1, 0, none⟩) (.inl (by simp)) _).setCell (p := ⟨w.heap.size + 1, 1, none⟩) (.inl (by simp)) _
  refine ⟨⟨fp', p'.kept ks (fun y hy e => hn y hy (by simpa using e)), ((Kept.of_below (fp := fp) hb).trans k' (Newly.refl _ _)).trans ks (fun y hy => .inr (by simp at hy; omega)), fun y hy => (n' y hy).imp id (fun q => Nat.le_trans hb.size q), fun e => hn _ e rfl⟩, ?_, ?_, by omega⟩
  · have := cell_of_heap g 0
    simpa using this
  · have := cell_of_heap g 1
    simpa using this

theorem MidP.of_new {Wc w2 : World} {k0 : Place} (hb : Below w.heap.size w Wc) (o2 : PlO Wc w2 fp q d o fr N l s ord gs) :
    MidP w (w2.alloc (.cells #[.string k0.1.1, .int .i64 k0.1.2] 54)) fp w2.heap.size k0 q d o fr N l s ord gs := by
  obtain ⟨fp', p', k', n'⟩ := o2
  obtain ⟨e0, e1⟩ := box2 w2 (.string k0.1.1) (.int .i64 k0.1.2) 54
  refine ⟨⟨fp', p'.below ((Below.refl _ w2).alloc (Nat.le_refl _) _), ((Kept.of_below (fp := fp) hb).trans k' (Newly.refl _ _)).alloc _, fun y hy => (n' y hy).imp id (fun q => Nat.le_trans hb.size q), fun e => by have := p'.lt _ e; omega⟩, e0, e1, Nat.le_trans hb.size k'.size⟩

set_option maxRecDepth 100000 in
set_option maxHeartbeats 4000000 in
/-- use: no page has to go. -/
theorem use_keep {ord' : List (Place × Nat)} (h : Pl w fp q d o fr N l s ord gs) (hN : N + 1 ≤ 1000000) (k : Place) (hfn : fr ≤ (ord.length : Int) → firstA ord ≠ none) (hu : useA fr ord k = (none, 0, ord')) :
    Calls Try.prog 60 #[.pointer (some ⟨q, 0, none⟩), encP k] w fun e w' => e = .returned (.int .i64 0) ∧ PlO w w' fp q d o fr (N + 1) l s ord' gs := by
  obtain ⟨b0, b1, bb⟩ := boxP_at w k
  have US := hide (fun (W : World) (bw : Below w.heap.size w W) => (h.below bw).calls_order (fun fo c => P.use_any c hN k trivial hfn))
  rw [hu] at US
  simp only [goneV, Option.isSome_none] at US
  have HC := hide (fun (W : World) (bw : Below w.heap.size w W) => (h.below bw).cells)
  have H := hide h
  obtain ⟨bm, hbm, c0, c1, c2⟩ := h.below bb.drew |>.cells
  have B0 : (boxP w k).drew.cell? ⟨w.heap.size, 0, none⟩ = some (.string k.1.1) := b0
  have B1 : (boxP w k).drew.cell? ⟨w.heap.size, 1, none⟩ = some (.int .i64 k.1.2) := b1
  have BB := hide bb.drew
  have B0a := hide (((Kept.refl [] (boxP w k).drew).alloc (.cells #[.string ⟨#[]⟩, .int .i64 0] 54)).cell B0 (by simp))
  have B1a := hide (((Kept.refl [] (boxP w k).drew).alloc (.cells #[.string ⟨#[]⟩, .int .i64 0] 54)).cell B1 (by simp))
  have SA := hide (And.intro (((Kept.refl [] (boxP w k).drew).alloc (.cells #[.string ⟨#[]⟩, .int .i64 0] 54)).cell c1 (by simp)) (And.intro B0a.out B1a.out))
  have hq : q < w.heap.size := by obtain ⟨fd, fo, bm, _, _, h3, _⟩ := h; exact (Array.getElem?_eq_some_iff.1 h3.cells).1
  have BBA := hide (bb.drew.alloc (by simp) (.cells #[.string ⟨#[]⟩, .int .i64 0] 54))
  have GBX : Hid (((boxP w k).drew.alloc (.cells #[.string ⟨#[]⟩, .int .i64 0] 54)).heap[w.heap.size + 1]? = some (.cells #[.string ⟨#[]⟩, .int .i64 0] 54 (0, 0))) := by
    have e := heap_alloc_new (boxP w k).drew (.cells #[.string ⟨#[]⟩, .int .i64 0] 54)
    have e2 : (boxP w k).drew.heap.size = w.heap.size + 1 := by simp
    rw [e2] at e
    exact e
  have FN2 : Hid (∀ y, w.heap.size ≤ y → y ∉ fp) := fun y hy e => by have := h.lt y e; omega
  clear h hu hfn b0 b1 bb hbm c0 c2
  go_enter Try.func60, Try.ntmps60
  go_wp2_with fail
  go_region_held_law (fun W => W.cell? ⟨q, 1, none⟩ = some (.pointer (some ⟨o, 0, none⟩)) ∧ W.cell? ⟨w.heap.size, 0, none⟩ = some (.string k.1.1) ∧ W.cell? ⟨w.heap.size, 1, none⟩ = some (.int .i64 k.1.2)) (first | exact SA.out | exact ⟨by assumption, by assumption, by assumption⟩ | exact ⟨cell_new (by assumption), cell_new (by assumption), cell_new (by assumption)⟩ | exact ⟨cell_set2 (by assumption) (by simp; omega), cell_set2 (by assumption) (by simp), cell_set2 (by assumption) (by simp)⟩) (first | (go_at_call 70; refine (US.out _ (by first | exact BB.out | exact BB.out.alloc (by simp) _)).mono ?_; rintro e w2 ⟨rfl, o2⟩; have O2 := hide o2; obtain ⟨fp2, pl2, k2, n2⟩ := o2; obtain ⟨bm2, hb2, u9, u0, u8⟩ := pl2.cells; have u1 : w2.cell? ⟨w.heap.size, 0, none⟩ = some (.string k.1.1) := k2.cell (by first | exact B0 | exact B0a.out) (FN2.out _ (Nat.le_refl _)); have u2 : w2.cell? ⟨w.heap.size, 1, none⟩ = some (.int .i64 k.1.2) := k2.cell (by first | exact B1 | exact B1a.out) (FN2.out _ (Nat.le_refl _)); clear pl2 n2 hb2 u9 u8; (first | (have gb := k2.heap (b := w.heap.size + 1) (o := .cells #[.string ⟨#[]⟩, .int .i64 0] 54 (0, 0)) GBX.out (FN2.out _ (by omega)); have g0 := cell_of_heap gb 0; have g1 := cell_of_heap gb 1; simp at g0 g1; have z0 := frozen_of_heap gb 0; have z1 := frozen_of_heap gb 1; clear gb k2) | clear k2)))
  all_goals
    first
    | (have MID : Hid (MidP w (w2.alloc (.cells #[.string ⟨#[]⟩, .int .i64 0] 54)) fp w2.heap.size zeroP q d o fr (N + 1) l s ord' gs) := MidP.of_new (k0 := zeroP) BB.out O2.out; generalize w2.alloc (.cells #[.string ⟨#[]⟩, .int .i64 0] 54) = W3 at MID ⊢)
    | (have MID : Hid (MidP w ((w2.setCell ⟨w.heap.size + 1, 0, none⟩ (.string ⟨#[]⟩)).setCell ⟨w.heap.size + 1, 1, none⟩ (.int .i64 0)) fp (w.heap.size + 1) zeroP q d o fr (N + 1) l s ord' gs) := MidP.of_set (k0 := zeroP) H.out BBA.out O2.out GBX.out rfl; generalize (w2.setCell ⟨w.heap.size + 1, 0, none⟩ (.string ⟨#[]⟩)).setCell ⟨w.heap.size + 1, 1, none⟩ (.int .i64 0) = W3 at MID ⊢)
    go_wp2_with fail
    go_ret
    obtain ⟨fp3, p3, k3, n3, _⟩ := MID.out.out
    exact ⟨rfl, fp3, p3, k3, n3⟩

set_option maxRecDepth 100000 in
set_option maxHeartbeats 4000000 in
/-- use: a page has to go. -/
theorem use_out {ord' : List (Place × Nat)} {a b : List Pg} {g : Pg} {l2 : List Ab} {s2 : Ds} {x : Bool} (h : Pl w fp q d o fr N l s ord (a ++ g :: b)) (hN : N + 1 ≤ 1000000) (k : Place) (hfn : fr ≤ (ord.length : Int) → firstA ord ≠ none) (hu : useA fr ord k = (some g.key, 0, ord'))
    (hsv : ∀ W fq, Pl W fq q d o fr (N + 1) l s ord' (a ++ g :: b) → Calls Try.prog 33 #[.pointer (some ⟨q, 0, none⟩), encP g.key] W fun e W' => e = .returned (.int .i64 0) ∧ PlO W W' fq q d o fr (N + 1) l2 s2 ord' (a ++ { g with dirty := x } :: b)) :
    Calls Try.prog 60 #[.pointer (some ⟨q, 0, none⟩), encP k] w fun e w' => e = .returned (.int .i64 0) ∧ PlO w w' fp q d o fr (N + 1) l2 s2 ord' (a ++ b) := by
  obtain ⟨b0, b1, bb⟩ := boxP_at w k
  have US := hide (fun (W : World) (bw : Below w.heap.size w W) => (h.below bw).calls_order (fun fo c => P.use_any c hN k trivial hfn))
  rw [hu] at US
  simp only [goneV, Option.isSome_some] at US
  have SV := hide hsv
  have HC := hide (fun (W : World) (bw : Below w.heap.size w W) => (h.below bw).cells)
  have H := hide h
  obtain ⟨bm, hbm, c0, c1, c2⟩ := h.below bb.drew |>.cells
  have B0 : (boxP w k).drew.cell? ⟨w.heap.size, 0, none⟩ = some (.string k.1.1) := b0
  have B1 : (boxP w k).drew.cell? ⟨w.heap.size, 1, none⟩ = some (.int .i64 k.1.2) := b1
  have BB := hide bb.drew
  have B0a := hide (((Kept.refl [] (boxP w k).drew).alloc (.cells #[.string ⟨#[]⟩, .int .i64 0] 54)).cell B0 (by simp))
  have B1a := hide (((Kept.refl [] (boxP w k).drew).alloc (.cells #[.string ⟨#[]⟩, .int .i64 0] 54)).cell B1 (by simp))
  have SA := hide (And.intro (((Kept.refl [] (boxP w k).drew).alloc (.cells #[.string ⟨#[]⟩, .int .i64 0] 54)).cell c1 (by simp)) (And.intro B0a.out B1a.out))
  have hq : q < w.heap.size := by obtain ⟨fd, fo, bm, _, _, h3, _⟩ := h; exact (Array.getElem?_eq_some_iff.1 h3.cells).1
  have BBA := hide (bb.drew.alloc (by simp) (.cells #[.string ⟨#[]⟩, .int .i64 0] 54))
  have GBX : Hid (((boxP w k).drew.alloc (.cells #[.string ⟨#[]⟩, .int .i64 0] 54)).heap[w.heap.size + 1]? = some (.cells #[.string ⟨#[]⟩, .int .i64 0] 54 (0, 0))) := by
    have e := heap_alloc_new (boxP w k).drew (.cells #[.string ⟨#[]⟩, .int .i64 0] 54)
    have e2 : (boxP w k).drew.heap.size = w.heap.size + 1 := by simp
    rw [e2] at e
    exact e
  have FN2 : Hid (∀ y, w.heap.size ≤ y → y ∉ fp) := fun y hy e => by have := h.lt y e; omega
  clear h hu hfn hsv b0 b1 bb hbm c0 c2
  go_enter Try.func60, Try.ntmps60
  go_wp2_with fail
  go_region_held_law (fun W => W.cell? ⟨q, 1, none⟩ = some (.pointer (some ⟨o, 0, none⟩)) ∧ W.cell? ⟨w.heap.size, 0, none⟩ = some (.string k.1.1) ∧ W.cell? ⟨w.heap.size, 1, none⟩ = some (.int .i64 k.1.2)) (first | exact SA.out | exact ⟨by assumption, by assumption, by assumption⟩ | exact ⟨cell_new (by assumption), cell_new (by assumption), cell_new (by assumption)⟩ | exact ⟨cell_set2 (by assumption) (by simp; omega), cell_set2 (by assumption) (by simp), cell_set2 (by assumption) (by simp)⟩) (first | (go_at_call 70; refine (US.out _ (by first | exact BB.out | exact BB.out.alloc (by simp) _)).mono ?_; rintro e w2 ⟨rfl, o2⟩; have O2 := hide o2; obtain ⟨fp2, pl2, k2, n2⟩ := o2; obtain ⟨bm2, hb2, u9, u0, u8⟩ := pl2.cells; have u1 : w2.cell? ⟨w.heap.size, 0, none⟩ = some (.string k.1.1) := k2.cell (by first | exact B0 | exact B0a.out) (FN2.out _ (Nat.le_refl _)); have u2 : w2.cell? ⟨w.heap.size, 1, none⟩ = some (.int .i64 k.1.2) := k2.cell (by first | exact B1 | exact B1a.out) (FN2.out _ (Nat.le_refl _)); clear pl2 n2 hb2 u9 u8; (first | (have gb := k2.heap (b := w.heap.size + 1) (o := .cells #[.string ⟨#[]⟩, .int .i64 0] 54 (0, 0)) GBX.out (FN2.out _ (by omega)); have g0 := cell_of_heap gb 0; have g1 := cell_of_heap gb 1; simp at g0 g1; have z0 := frozen_of_heap gb 0; have z1 := frozen_of_heap gb 1; clear gb k2) | clear k2)))
  all_goals
    first
    | (have MID : Hid (MidP w (w2.alloc (.cells #[.string g.key.1.1, .int .i64 g.key.1.2] 54)) fp w2.heap.size g.key q d o fr (N + 1) l s ord' (a ++ g :: b)) := MidP.of_new (k0 := g.key) BB.out O2.out; generalize w2.alloc (.cells #[.string g.key.1.1, .int .i64 g.key.1.2] 54) = W3 at MID ⊢; generalize w2.heap.size = bx at MID ⊢)
    | (have MID : Hid (MidP w ((w2.setCell ⟨w.heap.size + 1, 0, none⟩ (.string g.key.1.1)).setCell ⟨w.heap.size + 1, 1, none⟩ (.int .i64 g.key.1.2)) fp (w.heap.size + 1) g.key q d o fr (N + 1) l s ord' (a ++ g :: b)) := MidP.of_set (k0 := g.key) H.out BBA.out O2.out GBX.out rfl; generalize (w2.setCell ⟨w.heap.size + 1, 0, none⟩ (.string g.key.1.1)).setCell ⟨w.heap.size + 1, 1, none⟩ (.int .i64 g.key.1.2) = W3 at MID ⊢; generalize w.heap.size + 1 = bx at MID ⊢)
    obtain ⟨fp3, p3, k3, n3, hbx⟩ := MID.out.out
    have m0 := MID.out.c0
    have m1 := MID.out.c1
    have S3 := hide (SV.out W3 fp3 p3)
    have K3 := hide (And.intro k3 (And.intro n3 hbx))
    have LB := hide (World.block_lt_of_cell? W3 _ m0)
    clear p3 k3 n3 hbx
    go_wp2_with fail
    refine S3.out.mono ?_
    rintro e w4 ⟨rfl, o4⟩
    obtain ⟨fp4, p4, k4, n4⟩ := o4
    obtain ⟨fp5, w5, r5⟩ : ∃ bm w5, w4.drew.cell? ⟨q, 2, none⟩ = some (.map (some bm)) ∧ (Builtin.delete_ #[55, 54] 0 #[.map (some bm), encP g.key]).run Try.prog w4.drew = .ok (.tuple #[]) w5 ∧ PlO w4.drew w5 fp4 q d o fr (N + 1) l2 s2 ord' (a ++ b) := (p4.below (Below.refl _ w4).drew).delete (g := { g with dirty := x })
    obtain ⟨r0, r1, r2⟩ := r5
    have e0 : w4.drew.cell? ⟨bx, 0, none⟩ = some (.string g.key.1.1) := k4.cell m0 K3.out.2.2
    have e1 : w4.drew.cell? ⟨bx, 1, none⟩ = some (.int .i64 g.key.1.2) := k4.cell m1 K3.out.2.2
    have R1 := hide r1
    have R2 := hide r2
    have K4 := hide (And.intro k4 n4)
    clear r1 r2 k4 n4 p4 m0 m1
    go_wp2_with fail
    go_region_law (refine step_delete rfl (.tmp 47) (.tmp 48) 55 54 rfl rfl fp5 (encP g.key) ?_ ?_ R1.out ?_; (simp [Act.eval]); (simp [Act.eval]))
    all_goals
      go_wp2
      go_ret
      obtain ⟨fp6, p6, k6, n6⟩ := R2.out
      have q1 := K3.out.1.trans K4.out.1 K3.out.2.1
      have q2 := K3.out.2.1.trans K4.out.2 K3.out.1.size
      exact ⟨rfl, fp6, p6, (q1.drew).trans k6 q2, q2.trans n6 q1.size⟩

end
end Go.Proofs.Ytbhjdcoehgajcaa.L.P

namespace Go.Proofs.Ytbhjdcoehgajcaa.L.P
open Go.RowKit Go.Maps

section
variable {w w' : World} {fp : List Nat} {q d o : Nat} {fr : Int} {N : Nat} {l : List Ab} {s : Ds} {ord : List (Place × Nat)} {gs : List Pg}

/-- ReadAt of the disk. -/
theorem Pl.read (h : Pl w fp q d o fr N l s ord gs) (hn : s.ops ≤ 1000000) (nm : ByteArray) (hnm : nm.size ≤ maxLen) {x : Ab} (he : errA (beginA l s) nm.data.toList = none) (hx : DLook (beginA l s).1 nm.data.toList = some x) (a m : Nat) (ham : a + m ≤ x.2.1.length) :
    Calls Try.prog 16 #[.pointer (some ⟨d, 0, none⟩), .string nm, .int .i64 (a : Int), .int .i64 (m : Int)] w fun e w' => ∃ v, e = .returned (.tuple #[v, .int .i64 0]) ∧ RowB w' v ((x.2.1.drop a).take m) ∧
      ∃ fp', Pl w' fp' q d o fr N (beginA l s).1 (beginA l s).2 ord gs ∧ Kept fp w w' ∧ Newly w fp fp' ∧ ∀ y ∈ own v, w.heap.size ≤ y ∧ y ∉ fp' := by
  obtain ⟨fd, fo, bm, h1, h2, h3, rfl, a1, a2, a3⟩ := h
  refine (h1.read hn nm hnm he hx a m ham).mono ?_
  rintro e w' ⟨v, rfl, hr, fd', d', k, n, hy⟩
  refine ⟨v, rfl, hr, fd' ++ (fo ++ pfeet q bm gs), ⟨fd', fo, bm, d', h2.kept k (fun x hx e => a1 x e hx), h3.kept k (fun x hx e => a2 x e hx), rfl, fun x hx e => ?_, fun x hx e => ?_, a3⟩, k.mono (by intro x hx; simp [hx]), fun x hx => ?_, fun y hy2 => ⟨(hy y hy2).1, fun e => ?_⟩⟩
  · rcases n x hx with q | q
    · exact a1 x q e
    · have := h2.lt x e; omega
  · rcases n x hx with q | q
    · exact a2 x q e
    · have := h3.lt x e; omega
  · simp only [List.mem_append] at hx ⊢
    rcases hx with hx | hx
    · exact (n x hx).imp .inl id
    · exact .inl (.inr hx)
  · simp only [List.mem_append] at e
    have q := (hy y hy2).1
    rcases e with e | e | e
    · exact (hy y hy2).2 e
    · have := h2.lt y e; omega
    · have := h3.lt y e; omega

/-- Size of the disk. -/
theorem Pl.size (h : Pl w fp q d o fr N l s ord gs) (hn : s.ops ≤ 1000000) (nm : ByteArray) (hnm : nm.size ≤ maxLen) :
    Calls Try.prog 45 #[.pointer (some ⟨d, 0, none⟩), .string nm] w fun e w' => e = .returned (.tuple #[.int .i64 (sizeA (beginA l s) nm.data.toList).1, .int .i64 (sizeA (beginA l s) nm.data.toList).2]) ∧ PlO w w' fp q d o fr N (beginA l s).1 (beginA l s).2 ord gs := by
  obtain ⟨fd, fo, bm, h1, h2, h3, rfl, a1, a2, a3⟩ := h
  refine (h1.size hn nm hnm).mono ?_
  rintro e w' ⟨rfl, fd', d', k, n⟩
  refine ⟨rfl, fd' ++ (fo ++ pfeet q bm gs), ⟨fd', fo, bm, d', h2.kept k (fun x hx e => a1 x e hx), h3.kept k (fun x hx e => a2 x e hx), rfl, fun x hx e => ?_, fun x hx e => ?_, a3⟩, k.mono (by intro x hx; simp [hx]), fun x hx => ?_⟩
  · rcases n x hx with q | q
    · exact a1 x q e
    · have := h2.lt x e; omega
  · rcases n x hx with q | q
    · exact a2 x q e
    · have := h3.lt x e; omega
  · simp only [List.mem_append] at hx ⊢
    rcases hx with hx | hx
    · exact (n x hx).imp .inl id
    · exact .inl (.inr hx)

set_option maxRecDepth 100000 in
set_option maxHeartbeats 4000000 in
/-- fill of a page that has all. -/
theorem fill_held (gb n c : Nat) (va : Option Addr) (k : Place) (m : Int) (hm : m ≤ (n : Int)) (hc : w.cell? ⟨gb, 0, none⟩ = some (.slice va n c)) :
    Calls Try.prog 61 #[.pointer (some ⟨q, 0, none⟩), .pointer (some ⟨gb, 0, none⟩), encP k, .int .i64 m] w fun e w' => e = .returned (.int .i64 0) ∧ Below w.heap.size w w' := by
  obtain ⟨_, _, bb⟩ := boxP_at w k
  have c1 : (boxP w k).cell? ⟨gb, 0, none⟩ = some (.slice va n c) := cell_new hc
  have BB := hide bb
  clear bb hc
  go_enter Try.func61, Try.ntmps61
  go_wp2
  go_ret
  exact ⟨rfl, BB.out⟩

set_option maxRecDepth 100000 in
set_option maxHeartbeats 400000 in
/-- fill of a new page. -/
theorem fill_new (h : Pl w fp q d o fr N l s ord gs) (hn : s.ops ≤ 1000000) (gb : Nat) (k : Place) (a m : Nat) (hka : k.1.2 = (a : Int)) (hm : 0 < m) (hm2 : m ≤ 64) {x : Ab} (he : errA (beginA l s) k.1.1.data.toList = none) (hx : DLook (beginA l s).1 k.1.1.data.toList = some x) (ham : a + m ≤ x.2.1.length) (ha : a ≤ 1000000000)
    (hc : w.heap[gb]? = some (.cells #[.slice none 0 0, .bool false] 63 (0, 0))) (hgf : gb ∉ fp) :
    Calls Try.prog 61 #[.pointer (some ⟨q, 0, none⟩), .pointer (some ⟨gb, 0, none⟩), encP k, .int .i64 m] w fun e w' => e = .returned (.int .i64 0) ∧ ∃ v fp', Pl w' fp' q d o fr N (beginA l s).1 (beginA l s).2 ord gs ∧ w'.heap[gb]? = some (.cells #[v, .bool false] 63 (0, 0)) ∧ RowB w' v ((x.2.1.drop a).take m) ∧
      Kept (fp ++ [gb]) w w' ∧ Newly w fp fp' ∧ (∀ y ∈ own v, w.heap.size ≤ y ∧ y ∉ fp') ∧ gb ∉ fp' := by
  obtain ⟨⟨nm, kz⟩, hk1, hk2⟩ := k
  simp only at hka he hx hk1
  subst hka
  obtain ⟨b0, b1, bb⟩ := boxP_at w ⟨(nm, (a : Int)), hk1, hk2⟩
  simp only at b0 b1
  have hgl : gb < w.heap.size := (Array.getElem?_eq_some_iff.1 hc).1
  have c1 : (boxP w ⟨(nm, (a : Int)), hk1, hk2⟩).cell? ⟨gb, 0, none⟩ = some (.slice none 0 0) := cell_new (by simpa using cell_of_heap hc 0)
  obtain ⟨bm, _, c0, _, _⟩ := (h.below bb.drew).cells
  have c1' : (boxP w ⟨(nm, (a : Int)), hk1, hk2⟩).drew.cell? ⟨gb, 0, none⟩ = some (.slice none 0 0) := c1
  have B0 : (boxP w ⟨(nm, (a : Int)), hk1, hk2⟩).drew.cell? ⟨w.heap.size, 0, none⟩ = some (.string nm) := b0
  have B1 : (boxP w ⟨(nm, (a : Int)), hk1, hk2⟩).drew.cell? ⟨w.heap.size, 1, none⟩ = some (.int .i64 (a : Int)) := b1
  have RD := hide ((h.below bb.drew).read hn nm hk1 he hx a m ham)
  have H := hide h
  have BB := hide bb.drew
  have HGB := hide ((Kept.of_below (fp := []) bb.drew).heap hc (by simp))
  have HF := hide (And.intro hgf hgl)
  have HLT := hide h.lt
  have h1 : ¬ (m : Int) ≤ 0 := by omega
  have h2 : IntKind.i64.wrap (a : Int) = (a : Int) := i64_small _ (by omega) (by omega)
  have h3 : IntKind.i64.wrap (m : Int) = (m : Int) := i64_small _ (by omega) (by omega)
  have HML : Hid (((x.2.1.drop a).take m).length ≤ 64) := by show _ ≤ _; simp; omega
  clear h b0 b1 bb hc he hx hgf hgl
  go_enter Try.func61, Try.ntmps61
  go_wp2_with fail
  obtain ⟨W1, hW1⟩ : ∃ W1, W1 = (boxP w ⟨(nm, (a : Int)), hk1, hk2⟩) := ⟨_, rfl⟩
  rw [← hW1] at c0 c1 c1' B0 B1 RD BB HGB
  rw [show w.alloc (.cells #[.string nm, .int .i64 (a : Int)] 54) = W1 from hW1.symm]
  clear hW1
  go_region_held (fun W => W.cell? ⟨q, 0, none⟩ = some (.pointer (some ⟨d, 0, none⟩)) ∧ W.cell? ⟨w.heap.size, 0, none⟩ = some (.string nm) ∧ W.cell? ⟨w.heap.size, 1, none⟩ = some (.int .i64 (a : Int))) (exact ⟨by assumption, by assumption, by assumption⟩) (first | (go_at_call 16; refine RD.out.mono ?_; rintro e w2 ⟨v2, rfl, r2, fp2, p2, k2, n2, y2⟩; obtain ⟨bm2, _, u0, _, _⟩ := p2.cells; have u1 := k2.cell B0 (fun e => by have := HLT.out _ e; simp at this); have u2 := k2.cell B1 (fun e => by have := HLT.out _ e; simp at this); have gb2 := k2.heap HGB.out HF.out.1; have g0 := cell_of_heap gb2 0; simp at g0; have z0 := frozen_of_heap gb2 0; have R2 := hide r2; have P2 := hide (And.intro p2 (And.intro k2 (And.intro n2 y2))); have GB2 := hide gb2; clear r2 p2 k2 n2 y2 gb2))
  all_goals
    go_wp2_with (refine wp_appendR _ rfl (.tmp 41) (.tmp 42) rfl (.slice none 0 0) v2 [] ((x.2.1.drop a).take m) rfl (RowB.nil _) rfl R2.out.isB (by have := HML.out; simp only [List.length_nil]; omega) ?_; intro v3 w3 r3 k3 n3 f3; obtain ⟨vb, vcap, hv3, _⟩ := r3.isB.form; obtain ⟨n9, hn9⟩ : ∃ n, n = ([] ++ (x.2.1.drop a).take m).length := ⟨_, rfl⟩; rw [← hn9] at hv3; clear hn9; have gb3 := k3.heap GB2.out (by simp [own, Value.ownBlock]); have g3 := cell_of_heap gb3 0; simp at g3; have z3 := frozen_of_heap gb3 0; have R3 := hide r3; have K3 := hide (And.intro k3 n3); have GB3 := hide gb3; have HV3 := hide hv3; rw [hv3]; clear r3 k3 n3 f3 gb3 hv3)
    go_ret
    obtain ⟨p2, k2, n2, y2⟩ := P2.out
    obtain ⟨k3, n3⟩ := K3.out
    have e3 := HV3.out
    rw [List.nil_append] at R3
    have ks : Kept [gb] w3 (w3.setCell ⟨gb, 0, none⟩ v3) := (Kept.refl _ w3).setCell (p := ⟨gb, 0, none⟩) (.inl (by simp)) _
    have k3' : Kept [] w2 w3 := k3
    have hW : W1.heap.size = w.heap.size + 1 ∨ True := .inr trivial
    have hsz := BB.out.size
    have hy3 : ∀ y ∈ own v3, w2.heap.size ≤ y := fun y hy => by
      rcases n3 y hy with q | q
      · simp [own, Value.ownBlock] at q
      · exact q
    have hg2 : gb ∉ fp2 := fun e => by
      rcases n2 gb e with q | q
      · exact HF.out.1 q
      · have := HF.out.2; have hq : W1.heap.size ≤ gb := q; have hs : w.heap.size ≤ W1.heap.size := hsz; omega
    rw [← e3]
    refine ⟨rfl, v3, fp2, (p2.kept k3' (by simp)).kept ks (fun y hy e => hg2 (by simp at e; exact e ▸ hy)), by simpa using heap_setCell GB3.out 0 v3, R3.out.kept ks (fun y hy e => ?_), ?_, fun y hy => (n2 y hy).imp id (fun q => Nat.le_trans hsz q), fun y hy => ⟨?_, fun e => ?_⟩, hg2⟩
    · have h5 := hy3 y hy
      simp only [List.mem_singleton] at e
      have := (Array.getElem?_eq_some_iff.1 GB2.out).1
      omega
    · exact ((((Kept.of_below (fp := fp ++ [gb]) BB.out).trans (k2.mono (fp' := fp ++ [gb]) (by intro y hy; simp [hy])) (Newly.refl _ _))).trans (k3'.mono (fp' := fp ++ [gb]) (by simp)) (Newly.refl _ _)).trans ks (fun y hy => .inl (by simp at hy; simp [hy]))
    · exact Nat.le_trans hsz (Nat.le_trans k2.size (hy3 y hy))
    · have := p2.lt y e
      have := hy3 y hy
      omega

end
end Go.Proofs.Ytbhjdcoehgajcaa.L.P

namespace Go.Proofs.Ytbhjdcoehgajcaa.L.P
open Go.RowKit Go.Maps

/-- A value laid in once more. -/
theorem mapIs_again {α β : Type} [DecidableEq β] {lt : β → Lit} {zd : DataW Unit} {val : Fr α → DataW Unit} {kf : Fr α → β} {D : DataW Unit} {ds rs : List (Fr α)} {e : Fr α} (h : MapIs lt zd val kf D (ds ++ e :: rs)) (hinj : ∀ x y, lt x = lt y → x = y) (hkl : ∀ x, WideAt.IsKeyLit (lt x)) (ht : Tidy D) (hnd : ((ds ++ e :: rs).map kf).Nodup) :
    MapIs lt zd val kf (D.put (lt (kf e)) (val e)) (ds ++ e :: rs) := by
  have hat := find_at hnd
  refine ⟨fun x => ?_, fun x => ?_, ?_⟩
  · by_cases hx : kf e = x
    · subst hx
      rw [atKey_put_same ht.isMap (hkl _), hat]
    · rw [atKey_put_other (fun e2 => hx (hinj _ _ e2).symm), h.at_ x]
  · by_cases hx : kf e = x
    · subst hx
      rw [has_put_same ht.isMap (hkl _), hat]
      rfl
    · rw [has_put_other (fun e2 => hx (hinj _ _ e2).symm), h.has x]
  · rw [size_put ht, h.has, hat, h.size]
    simp

section
variable {w w' : World} {fp : List Nat} {q d o : Nat} {fr : Int} {N : Nat} {l : List Ab} {s : Ds} {ord : List (Place × Nat)} {gs : List Pg}

theorem Pl.look_no (h : Pl w fp q d o fr N l s ord gs) (k : Place) (hno : ∀ g ∈ gs, g.key ≠ k) : ∃ bm, w.cell? ⟨q, 2, none⟩ = some (.map (some bm)) ∧ (Instr.lookup 55 (.map (some bm)) (encP k) true).run Try.prog w = .ok (.tuple #[.pointer none, .bool false]) w := by
  obtain ⟨fd, fo, bm, h1, h2, h3, rfl, a1, a2, a3⟩ := h
  exact ⟨bm, h3.cellAt.2.2, h3.look_no k hno⟩
theorem Pl.look_ok (h : Pl w fp q d o fr N l s ord gs) {g : Pg} (hg : g ∈ gs) : ∃ bm, w.cell? ⟨q, 2, none⟩ = some (.map (some bm)) ∧ (Instr.lookup 55 (.map (some bm)) (encP g.key) true).run Try.prog w = .ok (.tuple #[.pointer (some ⟨g.blk, 0, none⟩), .bool true]) w := by
  obtain ⟨fd, fo, bm, h1, h2, h3, rfl, a1, a2, a3⟩ := h
  exact ⟨bm, h3.cellAt.2.2, h3.look_ok hg⟩
theorem Pl.page (h : Pl w fp q d o fr N l s ord gs) {g : Pg} (hg : g ∈ gs) : w.cell? ⟨g.blk, 0, none⟩ = some g.v ∧ w.cell? ⟨g.blk, 1, none⟩ = some (.bool g.dirty) ∧ (∀ o, w.frozen? ⟨g.blk, o, none⟩ = false) ∧ RowB w g.v g.bs ∧ g.blk ∈ fp ∧ ∀ x ∈ own g.v, x ∈ fp := by
  obtain ⟨fd, fo, bm, h1, h2, h3, rfl, a1, a2, a3⟩ := h
  obtain ⟨e0, e1, e2⟩ := h3.pageAt hg
  exact ⟨e0, e1, e2, (h3.pages g hg).2, by have := pfeet_blk (q := q) (bm := bm) hg; simp [this], fun x hx => by have := pfeet_own (q := q) (bm := bm) hg hx; simp [this]⟩

theorem Pl.insert (h : Pl w fp q d o fr N l s ord gs) (g : Pg) (hc : w.heap[g.blk]? = some (.cells #[g.v, .bool g.dirty] 63 (0, 0))) (hr : RowB w g.v g.bs) (hnd : g.feet.Nodup) (hf : ∀ x ∈ g.feet, x ∉ fp) (hkey : ∀ x ∈ gs, x.key ≠ g.key) (hlen : gs.length < maxLen) :
    ∃ bm w', w.cell? ⟨q, 2, none⟩ = some (.map (some bm)) ∧ (Instr.mapUpdate 55 (.map (some bm)) (encP g.key) (.pointer (some ⟨g.blk, 0, none⟩))).run Try.prog w = .ok () w' ∧ w'.cell? ⟨q, 2, none⟩ = some (.map (some bm)) ∧ ∃ fp', Pl w' fp' q d o fr N l s ord (gs ++ [g]) ∧ Kept fp w w' ∧ ∀ x ∈ fp', x ∈ fp ∨ x ∈ g.feet := by
  obtain ⟨fd, fo, bm, h1, h2, h3, rfl, a1, a2, a3⟩ := h
  obtain ⟨D, hown, hD⟩ := h3.map
  obtain ⟨w', r, o1, t⟩ := hown.store keyedP Try.underlying55 hlen (keyP g.key trivial) (ptrE_some g.blk)
  have hk := turned_kept t
  have hD2 : PagesIs (D.put (litP g.key) (.lit (.int .i64 g.blk))) (gs ++ [g]) := by
    have := hD.snoc (e := g.fr) injP litP_key (hown.tidy keyedP) (fun y hy => by obtain ⟨z, hz, rfl⟩ := List.mem_map.1 hy; exact hkey z hz)
    unfold PagesIs
    rw [List.map_append]
    exact this
  have p' := h3.snoc (g := g) hk hc hr hnd (fun x hx e => hf x hx (by simp [e])) hkey o1 hD2
  have hbm : bm ∈ pfeet q bm gs := by simp [pfeet]
  have e1 : pfeet q bm (gs ++ [g]) = pfeet q bm gs ++ g.feet := by simp [pfeet]
  refine ⟨bm, w', h3.cellAt.2.2, r, p'.cellAt.2.2, fd ++ (fo ++ pfeet q bm (gs ++ [g])), ⟨fd, fo, bm, h1.kept hk (fun x hx e => ?_), h2.kept hk (fun x hx e => ?_), p', rfl, a1, fun x hx e => ?_, fun x hx e => ?_⟩, hk.mono (by intro x hx; simp at hx; simp [hx, hbm]), fun x hx => ?_⟩
  · simp at e
    exact a2 x hx (e ▸ hbm)
  · simp at e
    exact a3 x hx (e ▸ hbm)
  · rw [e1, List.mem_append] at e
    rcases e with e | e
    · exact a2 x hx e
    · exact hf x e (by simp [hx])
  · rw [e1, List.mem_append] at e
    rcases e with e | e
    · exact a3 x hx e
    · exact hf x e (by simp [hx])
  · rw [e1] at hx
    simp only [List.mem_append] at hx ⊢
    rcases hx with hx | hx | hx | hx
    · exact .inl (.inl hx)
    · exact .inl (.inr (.inl hx))
    · exact .inl (.inr (.inr hx))
    · exact .inr hx

theorem Pl.again {a b : List Pg} {g : Pg} (h : Pl w fp q d o fr N l s ord (a ++ g :: b)) (hlen : (a ++ g :: b).length < maxLen) :
    ∃ bm w', w.cell? ⟨q, 2, none⟩ = some (.map (some bm)) ∧ (Instr.mapUpdate 55 (.map (some bm)) (encP g.key) (.pointer (some ⟨g.blk, 0, none⟩))).run Try.prog w = .ok () w' ∧ w'.cell? ⟨q, 2, none⟩ = some (.map (some bm)) ∧ PlO w w' fp q d o fr N l s ord (a ++ g :: b) := by
  obtain ⟨fd, fo, bm, h1, h2, h3, rfl, a1, a2, a3⟩ := h
  obtain ⟨D, hown, hD⟩ := h3.map
  obtain ⟨w', r, o1, t⟩ := hown.store keyedP Try.underlying55 hlen (keyP g.key trivial) (ptrE_some g.blk)
  have hk := turned_kept t
  have e : (a ++ g :: b).map Pg.fr = a.map Pg.fr ++ g.fr :: b.map Pg.fr := by simp
  have hnd : ((a.map Pg.fr ++ g.fr :: b.map Pg.fr).map Fr.key).Nodup := by have := h3.keys; rw [← fr_key, e] at this; exact this
  have hD2 : PagesIs (D.put (litP g.key) (.lit (.int .i64 g.blk))) (a ++ g :: b) := by
    unfold PagesIs at hD ⊢
    rw [e] at hD ⊢
    have := mapIs_again (e := g.fr) hD injP litP_key (hown.tidy keyedP) hnd
    exact this
  have hbm : bm ∈ pfeet q bm (a ++ g :: b) := by simp [pfeet]
  have hap := h3.apart
  have hq : q ≠ bm ∧ ∀ y ∈ (a ++ g :: b).flatMap Pg.feet, y ≠ bm := by
    simp only [pfeet, List.nodup_cons, List.mem_cons, not_or] at hap
    exact ⟨hap.1.1, fun y hy e => hap.2.1 (e ▸ hy)⟩
  have p' : PoolAt w' q d o bm (a ++ g :: b) := by
    refine ⟨hk.heap h3.cells (by simpa using hq.1), ⟨_, ownsMap_fit o1 (by rw [hD2.size]; simp), hD2⟩, fun y hy => ?_, hap, h3.keys⟩
    have hy2 := h3.pages y hy
    have hn : ∀ z ∈ y.feet, z ≠ bm := fun z hz => hq.2 z (List.mem_flatMap.2 ⟨y, hy, hz⟩)
    exact ⟨hk.heap hy2.1 (by simpa using hn y.blk (by simp [Pg.feet])), hy2.2.kept hk (fun z hz => by simpa using hn z (by simp [Pg.feet, hz]))⟩
  refine ⟨bm, w', h3.cellAt.2.2, r, p'.cellAt.2.2, _, ⟨fd, fo, bm, h1.kept hk (fun x hx e => a2 x hx (by simp at e; exact e ▸ hbm)), h2.kept hk (fun x hx e => a3 x hx (by simp at e; exact e ▸ hbm)), p', rfl, a1, a2, a3⟩, hk.mono (by intro x hx; simp at hx; simp [hx, hbm]), Newly.refl _ _⟩

set_option maxRecDepth 100000 in
set_option maxHeartbeats 400000 in
/-- hold of a page that is held. -/
theorem hold_in {N' : Nat} {ord' : List (Place × Nat)} {a b : List Pg} {g : Pg} (h : Pl w fp q d o fr N l s ord (a ++ g :: b)) (m : Int) (hm : m ≤ (g.bs.length : Int)) (hlen : (a ++ g :: b).length < maxLen)
    (hu : ∀ W, Pl W fp q d o fr N l s ord (a ++ g :: b) → Calls Try.prog 60 #[.pointer (some ⟨q, 0, none⟩), encP g.key] W fun e W' => e = .returned (.int .i64 0) ∧ PlO W W' fp q d o fr N' l s ord' (a ++ g :: b)) :
    Calls Try.prog 46 #[.pointer (some ⟨q, 0, none⟩), encP g.key, .int .i64 m] w fun e w' => e = .returned (.tuple #[.pointer (some ⟨g.blk, 0, none⟩), .int .i64 0]) ∧ PlO w w' fp q d o fr N' l s ord' (a ++ g :: b) := by
  obtain ⟨b0, b1, bb⟩ := boxP_at w g.key
  have hg : g ∈ a ++ g :: b := by simp
  have US := hide (hu _ (h.below bb))
  have HB := hide (And.intro b0 (And.intro b1 bb))
  have HLT := hide h.lt
  have HG := hide hg
  have HL := hide hlen
  clear h hu hg b0 b1 bb hlen
  obtain ⟨k, hk⟩ : ∃ k, k = g.key := ⟨_, rfl⟩
  rw [← hk] at US HB
  rw [← hk]
  have HK := hide hk
  clear hk
  go_enter Try.func46, Try.ntmps46
  go_wp2_with (go_at_call 60; refine US.out.mono ?_; rintro e w2 ⟨rfl, o2⟩; have O2 := hide o2; clear o2)
  obtain ⟨fp2, p2, k2, n2⟩ := O2.out
  have pd := p2.below (Below.refl _ w2).drew
  obtain ⟨bm, c2, LK⟩ := pd.look_ok HG.out
  rw [← HK.out] at LK
  have nf : w.heap.size ∉ fp := fun e => by have := HLT.out _ e; omega
  have e0 : w2.drew.cell? ⟨w.heap.size, 0, none⟩ = some (.string k.1.1) := k2.cell HB.out.1 nf
  have e1 : w2.drew.cell? ⟨w.heap.size, 1, none⟩ = some (.int .i64 k.1.2) := k2.cell HB.out.2.1 nf
  obtain ⟨g0, _, _, gr, _, _⟩ := pd.page HG.out
  obtain ⟨va, vc, hv, _⟩ := gr.isB.form
  rw [hv] at g0
  have FH := hide (fill_held (q := q) g.blk g.bs.length vc va k m hm g0)
  have PD := hide pd
  have K2 := hide (And.intro k2 n2)
  obtain ⟨gb, hgb⟩ : ∃ gb, gb = g.blk := ⟨_, rfl⟩
  rw [← hgb] at LK FH
  have HGB := hide hgb
  clear p2 k2 n2 pd g0 gr hv hgb hm
  go_region_held (fun W => W.cell? ⟨q, 2, none⟩ = some (.map (some bm)) ∧ W.cell? ⟨w.heap.size, 0, none⟩ = some (.string k.1.1) ∧ W.cell? ⟨w.heap.size, 1, none⟩ = some (.int .i64 k.1.2)) (exact ⟨by assumption, by assumption, by assumption⟩) (fail)
  all_goals
    clear LK
    go_wp2_with fail
    refine FH.out.mono ?_
    rintro e w3 ⟨rfl, b3⟩
    have pd3 := PD.out.below (b3.drew)
    obtain ⟨bm3, w4, c4, r4, c5, o4⟩ := pd3.again HL.out
    rw [← HK.out, ← HGB.out] at r4
    have f0 : w3.drew.cell? ⟨w.heap.size, 0, none⟩ = some (.string k.1.1) := (Kept.of_below (fp := []) b3).cell e0 (by simp)
    have f1 : w3.drew.cell? ⟨w.heap.size, 1, none⟩ = some (.int .i64 k.1.2) := (Kept.of_below (fp := []) b3).cell e1 (by simp)
    have nf2 : w.heap.size ∉ fp2 := fun e => by
      have hs : (boxP w k).heap.size = w.heap.size + 1 := by simp
      rcases K2.out.2 _ e with u | u
      · exact nf u
      · omega
    obtain ⟨fp5, p5, k5, n5⟩ := o4
    have f2 := k5.cell f0 nf2
    have f3 := k5.cell f1 nf2
    have O4 := hide (And.intro p5 (And.intro k5 n5))
    have B3 := hide b3
    clear p5 k5 n5 b3 pd3 c2 e0 e1
    go_wp2_with fail
    go_region_held (fun W => W.cell? ⟨q, 2, none⟩ = some (.map (some bm3)) ∧ W.cell? ⟨w.heap.size, 0, none⟩ = some (.string k.1.1) ∧ W.cell? ⟨w.heap.size, 1, none⟩ = some (.int .i64 k.1.2)) (exact ⟨by assumption, by assumption, by assumption⟩) (fail)
    all_goals
      go_wp2_with fail
      go_ret2
      obtain ⟨p5, k5, n5⟩ := O4.out
      have q1 : Kept fp w w2.drew := ((Kept.of_below (fp := fp) HB.out.2.2).trans K2.out.1 (Newly.refl _ _)).drew
      have q2 : Newly w fp fp2 := fun x hx => (K2.out.2 x hx).imp id (fun q => Nat.le_trans HB.out.2.2.size q)
      have q3 : Kept fp w w3.drew := (q1.trans (Kept.of_below (fp := fp) B3.out) (Newly.refl _ _)).drew
      have eg := HGB.out
      subst eg
      exact ⟨rfl, fp5, p5, q3.trans k5 q2, q2.trans n5 q3.size⟩

set_option maxRecDepth 100000 in
set_option maxHeartbeats 400000 in
/-- hold of a page that is not held. -/
theorem hold_new {N' : Nat} {l' : List Ab} {s' : Ds} {ord' : List (Place × Nat)} {gs' : List Pg} (h : Pl w fp q d o fr N l s ord gs) (k : Place) (a m : Nat) (hka : k.1.2 = (a : Int)) (hm : 0 < m) (hm2 : m ≤ 64) (hn : s'.ops ≤ 1000000) {x : Ab} (he : errA (beginA l' s') k.1.1.data.toList = none) (hx : DLook (beginA l' s').1 k.1.1.data.toList = some x) (ham : a + m ≤ x.2.1.length) (ha : a ≤ 1000000000) (hno : ∀ g ∈ gs', g.key ≠ k) (hlen : gs'.length < maxLen)
    (hu : ∀ W, Pl W fp q d o fr N l s ord gs → Calls Try.prog 60 #[.pointer (some ⟨q, 0, none⟩), encP k] W fun e W' => e = .returned (.int .i64 0) ∧ PlO W W' fp q d o fr N' l' s' ord' gs') :
    Calls Try.prog 46 #[.pointer (some ⟨q, 0, none⟩), encP k, .int .i64 m] w fun e w' => ∃ gb v, e = .returned (.tuple #[.pointer (some ⟨gb, 0, none⟩), .int .i64 0]) ∧ PlO w w' fp q d o fr N' (beginA l' s').1 (beginA l' s').2 ord' (gs' ++ [⟨k, gb, v, (x.2.1.drop a).take m, false⟩]) := by
  obtain ⟨b0, b1, bb⟩ := boxP_at w k
  have US := hide (hu _ (h.below bb))
  have HB := hide (And.intro b0 (And.intro b1 bb))
  have HLT := hide h.lt
  have HA := hide (And.intro hka (And.intro hm (And.intro hm2 (And.intro hn (And.intro he (And.intro hx (And.intro ham ha)))))))
  have HNO := hide hno
  have HL := hide hlen
  clear h hu b0 b1 bb hka hm hm2 hn he hx ham ha hno hlen
  go_enter Try.func46, Try.ntmps46
  go_wp2_with (go_at_call 60; refine US.out.mono ?_; rintro e w2 ⟨rfl, o2⟩; have O2 := hide o2; clear o2)
  obtain ⟨fp2, p2, k2, n2⟩ := O2.out
  have pd := p2.below (Below.refl _ w2).drew
  obtain ⟨bm, c2, LK⟩ := pd.look_no k HNO.out
  have nf : w.heap.size ∉ fp := fun e => by have := HLT.out _ e; omega
  have e0 : w2.drew.cell? ⟨w.heap.size, 0, none⟩ = some (.string k.1.1) := k2.cell HB.out.1 nf
  have e1 : w2.drew.cell? ⟨w.heap.size, 1, none⟩ = some (.int .i64 k.1.2) := k2.cell HB.out.2.1 nf
  have d0 : (w2.alloc (.cells #[.slice none 0 0, .bool false] 63)).drew.cell? ⟨w.heap.size, 0, none⟩ = some (.string k.1.1) := cell_new e0
  have d1 : (w2.alloc (.cells #[.slice none 0 0, .bool false] 63)).drew.cell? ⟨w.heap.size, 1, none⟩ = some (.int .i64 k.1.2) := cell_new e1
  have p3 : Pl (w2.alloc (.cells #[.slice none 0 0, .bool false] 63)).drew fp2 q d o fr N' l' s' ord' gs' := p2.below ((Below.refl _ w2).alloc (Nat.le_refl _) (.cells #[.slice none 0 0, .bool false] 63)).drew
  have g3 : w2.heap.size ∉ fp2 := fun e => by have := p2.lt _ e; omega
  have FN := hide (fill_new p3 HA.out.2.2.2.1 w2.heap.size k a m HA.out.1 HA.out.2.1 HA.out.2.2.1 HA.out.2.2.2.2.1 HA.out.2.2.2.2.2.1 HA.out.2.2.2.2.2.2.1 HA.out.2.2.2.2.2.2.2 (heap_alloc_new w2 _) g3)
  have K2 := hide (And.intro k2 n2)
  have P2 := hide p2
  have G3 := hide g3
  clear p2 k2 n2 pd p3 g3
  go_region_held (fun W => W.cell? ⟨q, 2, none⟩ = some (.map (some bm)) ∧ W.cell? ⟨w.heap.size, 0, none⟩ = some (.string k.1.1) ∧ W.cell? ⟨w.heap.size, 1, none⟩ = some (.int .i64 k.1.2)) (exact ⟨by assumption, by assumption, by assumption⟩) (fail)
  all_goals
    clear LK
    go_wp2_with fail
    refine FN.out.mono ?_
    rintro e w4 ⟨rfl, v, fp4, p4, hb4, r4, k4, n4, y4, g4⟩
    have hs : (boxP w k).heap.size = w.heap.size + 1 := by simp
    have hs2 := K2.out.1.size
    have nf2 : w.heap.size ∉ fp2 := fun e => by
      rcases K2.out.2 _ e with u | u
      · exact nf u
      · omega
    have nf4 : w.heap.size ∉ fp2 ++ [w2.heap.size] := fun e => by
      rcases List.mem_append.1 e with u | u
      · exact nf2 u
      · simp at u; omega
    have f0 : w4.drew.cell? ⟨w.heap.size, 0, none⟩ = some (.string k.1.1) := k4.cell d0 nf4
    have f1 : w4.drew.cell? ⟨w.heap.size, 1, none⟩ = some (.int .i64 k.1.2) := k4.cell d1 nf4
    obtain ⟨bm5, w5, c5, r5, c6, fp5, p5, k5, n5⟩ := (p4.below (Below.refl _ w4).drew).insert ⟨k, w2.heap.size, v, (x.2.1.drop a).take m, false⟩ hb4 (r4.kept (fp := []) (Kept.of_below (Below.refl _ w4).drew) (by simp)) (by
      simp only [Pg.feet, List.nodup_cons]
      refine ⟨fun e => ?_, ?_⟩
      · have h9 : (w2.alloc (.cells #[.slice none 0 0, .bool false] 63)).drew.heap.size ≤ w2.heap.size := (y4 _ e).1
        have hs3 : (w2.alloc (.cells #[.slice none 0 0, .bool false] 63)).drew.heap.size = w2.heap.size + 1 := by simp
        omega
      · cases v <;> simp [own, Value.ownBlock]
        rename_i a0 _ _
        cases a0 <;> simp) (by
      intro y hy e
      simp only [Pg.feet, List.mem_cons] at hy
      rcases hy with rfl | hy
      · exact g4 e
      · exact (y4 y hy).2 e) HNO.out HL.out
    have nf5 : w.heap.size ∉ fp4 := fun e => by
      rcases n4 _ e with u | u
      · exact nf2 u
      · have hs3 : (w2.alloc (.cells #[.slice none 0 0, .bool false] 63)).drew.heap.size = w2.heap.size + 1 := by simp
        omega
    have f2 := k5.cell f0 nf5
    have f3 := k5.cell f1 nf5
    have P5 := hide (And.intro p5 (And.intro k5 n5))
    have K4 := hide (And.intro k4 (And.intro n4 y4))
    clear p5 k5 n5 k4 n4 y4 p4 r4 g4 hb4 nf5 nf4 d0 d1 e0 e1
    go_wp2_with fail
    go_region_held (fun W => W.cell? ⟨q, 2, none⟩ = some (.map (some bm5)) ∧ W.cell? ⟨w.heap.size, 0, none⟩ = some (.string k.1.1) ∧ W.cell? ⟨w.heap.size, 1, none⟩ = some (.int .i64 k.1.2)) (exact ⟨by assumption, by assumption, by assumption⟩) (fail)
    all_goals
      go_wp2_with fail
      go_ret2
      obtain ⟨p5, k5, n5⟩ := P5.out
      obtain ⟨k4, n4, y4⟩ := K4.out
      have q1 : Kept fp w w2 := (Kept.of_below (fp := fp) HB.out.2.2).trans K2.out.1 (Newly.refl _ _)
      have q2 : Newly w fp fp2 := fun x hx => (K2.out.2 x hx).imp id (fun q => Nat.le_trans HB.out.2.2.size q)
      have q3 : Kept fp w (w2.alloc (.cells #[.slice none 0 0, .bool false] 63)).drew := (q1.alloc _).drew
      have hw2 := q1.size
      have q4 : Kept fp w w4 := q3.trans k4 (fun x hx => by
        rcases List.mem_append.1 hx with u | u
        · exact q2 x u
        · simp at u; exact .inr (by omega))
      have q5 : Newly w fp fp4 := q2.trans n4 q3.size
      refine ⟨w2.heap.size, v, rfl, fp5, p5, q4.drew.trans k5 q5, fun y hy => ?_⟩
      rcases n5 y hy with u | u
      · exact q5 y u
      · simp only [Pg.feet, List.mem_cons] at u
        rcases u with rfl | u
        · exact .inr hw2
        · have := (y4 y u).1
          exact .inr (Nat.le_trans q3.size this)

end
end Go.Proofs.Ytbhjdcoehgajcaa.L.P

namespace Go.Proofs.Ytbhjdcoehgajcaa.L.P
open Go.RowKit Go.Maps

def numP (v : Value) : Nat := match v with | .int _ n => n.toNat | _ => 0

section
variable {w w' : World} {fp : List Nat} {q d o : Nat} {fr : Int} {N : Nat} {l : List Ab} {s : Ds} {ord : List (Place × Nat)} {gs : List Pg}

set_option maxRecDepth 100000 in
set_option maxHeartbeats 400000 in
theorem within_err (h : Pl w fp q d o fr N l s ord gs) (hn : s.ops ≤ 1000000) (nm : ByteArray) (hnm : nm.size ≤ maxLen) (at_ n : Int) {z k : Int} (hz : sizeA (beginA l s) nm.data.toList = (z, k)) (hk : k ≠ 0) :
    Calls Try.prog 28 #[.pointer (some ⟨q, 0, none⟩), .string nm, .int .i64 at_, .int .i64 n] w fun e w' => e = .returned (.tuple #[.int .i64 0, .int .i64 k]) ∧ PlO w w' fp q d o fr N (beginA l s).1 (beginA l s).2 ord gs := by
  have SZ := hide (h.size hn nm hnm)
  rw [hz] at SZ
  obtain ⟨bm, _, c0, _, _⟩ := h.cells
  have hk2 : (k == 0) = false := by simpa using hk
  clear h hz
  go_enter Try.func28, Try.ntmps28
  go_wp2_with (go_at_call 45; refine SZ.out.mono ?_; rintro e w1 ⟨rfl, o1⟩; have O1 := hide o1; clear o1)
  go_ret2
  exact ⟨rfl, O1.out⟩

set_option maxRecDepth 100000 in
set_option maxHeartbeats 400000 in
theorem within_ok (h : Pl w fp q d o fr N l s ord gs) (hn : s.ops ≤ 1000000) (nm : ByteArray) (hnm : nm.size ≤ maxLen) (at_ n : Int) {L : Nat} (hz : sizeA (beginA l s) nm.data.toList = ((L : Int), 0)) (hL : L ≤ 1000000000) (h0 : 0 ≤ at_) (h1 : 0 ≤ n) (h2 : n ≤ (L : Int) - at_) :
    Calls Try.prog 28 #[.pointer (some ⟨q, 0, none⟩), .string nm, .int .i64 at_, .int .i64 n] w fun e w' => e = .returned (.tuple #[.int .i64 L, .int .i64 0]) ∧ PlO w w' fp q d o fr N (beginA l s).1 (beginA l s).2 ord gs := by
  have SZ := hide (h.size hn nm hnm)
  rw [hz] at SZ
  obtain ⟨bm, _, c0, _, _⟩ := h.cells
  have g0 : ¬ at_ < 0 := by omega
  have g1 : ¬ n < 0 := by omega
  have g2 : ¬ (L : Int) - at_ < n := by omega
  have g3 : IntKind.i64.wrap ((L : Int) - at_) = (L : Int) - at_ := i64_small _ (by omega) (by omega)
  clear h hz
  go_enter Try.func28, Try.ntmps28
  go_wp2_with (go_at_call 45; refine SZ.out.mono ?_; rintro e w1 ⟨rfl, o1⟩; have O1 := hide o1; clear o1)
  go_ret2
  exact ⟨rfl, O1.out⟩

set_option maxRecDepth 100000 in
set_option maxHeartbeats 400000 in
theorem within_arg (h : Pl w fp q d o fr N l s ord gs) (hn : s.ops ≤ 1000000) (nm : ByteArray) (hnm : nm.size ≤ maxLen) (at_ n : Int) {L : Nat} (hz : sizeA (beginA l s) nm.data.toList = ((L : Int), 0)) (hL : L ≤ 1000000000) (hat : at_ ≤ 9223372036854775807) (hb : at_ < 0 ∨ n < 0 ∨ (L : Int) - at_ < n) :
    Calls Try.prog 28 #[.pointer (some ⟨q, 0, none⟩), .string nm, .int .i64 at_, .int .i64 n] w fun e w' => e = .returned (.tuple #[.int .i64 0, .int .i64 1]) ∧ PlO w w' fp q d o fr N (beginA l s).1 (beginA l s).2 ord gs := by
  have SZ := hide (h.size hn nm hnm)
  rw [hz] at SZ
  obtain ⟨bm, _, c0, _, _⟩ := h.cells
  clear h hz
  have hc : at_ < 0 ∨ (¬ at_ < 0 ∧ n < 0) ∨ (¬ at_ < 0 ∧ ¬ n < 0 ∧ (L : Int) - at_ < n) := by omega
  clear hb
  rcases hc with g0 | ⟨g0, g1⟩ | ⟨g0, g1, g2⟩
  · go_enter Try.func28, Try.ntmps28
    go_wp2_with (go_at_call 45; refine SZ.out.mono ?_; rintro e w1 ⟨rfl, o1⟩; have O1 := hide o1; clear o1)
    go_ret2
    exact ⟨rfl, O1.out⟩
  · go_enter Try.func28, Try.ntmps28
    go_wp2_with (go_at_call 45; refine SZ.out.mono ?_; rintro e w1 ⟨rfl, o1⟩; have O1 := hide o1; clear o1)
    go_ret2
    exact ⟨rfl, O1.out⟩
  · have g3 : IntKind.i64.wrap ((L : Int) - at_) = (L : Int) - at_ := i64_small _ (by omega) (by omega)
    go_enter Try.func28, Try.ntmps28
    go_wp2_with (go_at_call 45; refine SZ.out.mono ?_; rintro e w1 ⟨rfl, o1⟩; have O1 := hide o1; clear o1)
    go_ret2
    exact ⟨rfl, O1.out⟩

set_option maxRecDepth 100000 in
set_option maxHeartbeats 400000 in
theorem resident_any (h : Pl w fp q d o fr N l s ord gs) : Calls Try.prog 17 #[.pointer (some ⟨q, 0, none⟩)] w fun e w' => e = .returned (.int .i64 gs.length) ∧ w' = w := by
  obtain ⟨fd, fo, bm, h1, h2, h3, rfl, a1, a2, a3⟩ := h
  obtain ⟨c0, c1, c2⟩ := h3.cellAt
  obtain ⟨D, hown, hD⟩ := h3.map
  have LN : ∀ ty, (Builtin.len_ #[55] ty #[.map (some bm)]).run Try.prog w = .ok (.int .i64 gs.length) w := fun ty => by
    rw [hown.len Try.underlying55 ty, hD.size]
    simp
  clear h1 h2 h3 hown hD
  go_enter Try.func17, Try.ntmps17
  go_wp2
  go_ret
  exact ⟨rfl, rfl⟩

end

set_option maxRecDepth 100000 in
set_option maxHeartbeats 1000000 in
/-- each, for whatever is done with a page. -/
theorem each_any {w : World} (q at_ n size : Nat) (nm : ByteArray) (ha : at_ ≤ 1000000) (hn : n ≤ 1000000) (hs : size ≤ 1000000) (hfit : at_ + n ≤ size) (f : Nat) (lb : Array Value) (ef : ∀ args w, (callFunc f args).run Try.prog w = .ok (.enter f args) w) (I : Nat → World → Prop) (h0 : I 0 w)
    (hI : ∀ done W, done < n → I done W → ∃ k : Place, k.1.1 = nm ∧ k.1.2 = ((at_ + done - (at_ + done) % 64 : Nat) : Int) ∧
      Calls Try.prog 46 #[.pointer (some ⟨q, 0, none⟩), encP k, .int .i64 (min 64 (size - (at_ + done - (at_ + done) % 64)) : Nat)] W fun e W1 => ∃ gb, e = .returned (.tuple #[.pointer (some ⟨gb, 0, none⟩), .int .i64 0]) ∧
        Calls Try.prog f (#[.pointer (some ⟨gb, 0, none⟩), .int .i64 ((at_ + done) % 64 : Nat), .int .i64 done] ++ lb) W1 fun e W2 => e = .returned (.tuple #[]) ∧ I (done + (64 - (at_ + done) % 64)) W2) :
    Calls Try.prog 29 #[.pointer (some ⟨q, 0, none⟩), .string nm, .int .i64 at_, .int .i64 n, .int .i64 size, .func (.func f) #[] lb] w fun e w' => e = .returned (.int .i64 0) ∧ ∃ done, n ≤ done ∧ I done w' := by
  have HI := hide hI
  have H0 := hide h0
  clear hI h0
  go_enter Try.func29, Try.ntmps29
  go_wp2_with fail
  go_loopw [13] (fun v wr => ∃ dn : Nat, v = .int .i64 dn ∧ dn ≤ n + 64 ∧ Hid (I dn wr)) (fun v _ => n + 64 - numP v)
  case atStart => exact ⟨0, rfl, Nat.zero_le _, H0⟩
  case round =>
    obtain ⟨dn, rfl, hdn, HD⟩ := hrel
    by_cases hlt : dn < n
    · have hl2 : (dn : Int) < (n : Int) := by omega
      obtain ⟨k, k1, k2, HC⟩ := HI.out dn wr hlt HD.out
      obtain ⟨A, hA⟩ : ∃ A, A = at_ + dn := ⟨_, rfl⟩
      obtain ⟨R, hR⟩ : ∃ R, R = A % 64 := ⟨_, rfl⟩
      obtain ⟨S, hS⟩ : ∃ S, S = A - R := ⟨_, rfl⟩
      obtain ⟨T, hT⟩ : ∃ T, T = size - S := ⟨_, rfl⟩
      obtain ⟨U, hU⟩ : ∃ U, U = 64 - R := ⟨_, rfl⟩
      obtain ⟨V, hV⟩ : ∃ V, V = dn + U := ⟨_, rfl⟩
      rw [← hA, ← hR, ← hS] at k2
      rw [← hA, ← hR, ← hS, ← hT, ← hU, ← hV] at HC
      have m1 : (at_ : Int) + (dn : Int) = (A : Int) := by omega
      have m2 : (A : Int).tmod 64 = (R : Int) := by rw [Int.tmod_eq_emod_of_nonneg (by omega)]; omega
      have m3 : (A : Int) - (R : Int) = (S : Int) := by omega
      have m4 : (size : Int) - (S : Int) = (T : Int) := by omega
      have m5 : (64 : Int) - (R : Int) = (U : Int) := by omega
      have m6 : (dn : Int) + (U : Int) = (V : Int) := by omega
      have b1 : A ≤ 3000000 := by omega
      have b2 : R < 64 := by omega
      have b3 : S ≤ 3000000 := by omega
      have b4 : T ≤ 1000000 := by omega
      have b5 : U ≤ 64 := by omega
      have b6 : V ≤ 2000000 := by omega
      have w1 : IntKind.i64.wrap (A : Int) = (A : Int) := i64_small _ (by omega) (by omega)
      have w2 : IntKind.i64.wrap (R : Int) = (R : Int) := i64_small _ (by omega) (by omega)
      have w3 : IntKind.i64.wrap (S : Int) = (S : Int) := i64_small _ (by omega) (by omega)
      have w4 : IntKind.i64.wrap (T : Int) = (T : Int) := i64_small _ (by omega) (by omega)
      have w5 : IntKind.i64.wrap (U : Int) = (U : Int) := i64_small _ (by omega) (by omega)
      have w6 : IntKind.i64.wrap (V : Int) = (V : Int) := i64_small _ (by omega) (by omega)
      have hmin : ∀ (ts : Array TypeId) (t : TypeId) (W : World), (Builtin.min_ ts t #[.int .i64 64, .int .i64 (T : Int)]).run Try.prog W = .ok (.int .i64 ((min 64 T : Nat) : Int)) W := by
        intro ts t W
        rw [run_min_int2]
        congr 2
        split <;> omega
      have eK : encP k = .agg #[.string nm, .int .i64 (S : Int)] := by simp [encP, k1, k2]
      rw [eK] at HC
      have HCC := hide HC
      have HV : Hid (V ≤ n + 64 ∧ dn < V) := ⟨by omega, by omega⟩
      generalize (min 64 T : Nat) = M at HCC hmin
      clear hA hR hS hT hU hV HC k1 k2 eK
      go_wp2_with fail
      refine HCC.out.mono ?_
      rintro e W1 ⟨gb, rfl, hc⟩
      have H1 := hide hc
      clear hc HCC
      go_wp2_with fail
      refine H1.out.mono ?_
      rintro e W2 ⟨rfl, hI2⟩
      have HI2 := hide hI2
      clear hI2 H1
      go_wp2_with fail
      go_roundw
      case rel => exact ⟨V, rfl, HV.out.1, HI2⟩
      case measure => have := HV.out; simp [numP]; omega
    · have hl2 : ¬ (dn : Int) < (n : Int) := by omega
      go_wp2_with fail
      go_ret
      exact ⟨rfl, dn, by omega, HD.out⟩

end Go.Proofs.Ytbhjdcoehgajcaa.L.P

namespace Go.Proofs.Ytbhjdcoehgajcaa.L.P
open Go.RowKit Go.Maps

theorem dp_at {w : World} {na : Option Addr} {L cap a : Nat} {bs : List Int} (hr : RowB w (.slice na L cap) bs) : a < bs.length → ∀ g, (Value.slice na L cap).ownBlock = some g → (if cap = a then na else na.map (·.add a)) = some ⟨g, a, none⟩ := by
  intro ha g hg
  rcases hr.1.2 with ⟨_, h0⟩ | ⟨g2, cap2, cur, e, _, _, hnc, _⟩
  · omega
  · simp only [Value.slice.injEq] at e
    obtain ⟨rfl, _, rfl⟩ := e
    simp [Value.ownBlock] at hg
    subst hg
    rw [if_neg (by omega)]
    simp [Addr.add_lit]

section
variable {w : World}

set_option maxRecDepth 100000 in
set_option maxHeartbeats 400000 in
/-- What ReadAt does with a page. -/
theorem read1_any (gb R D bx n c pn pc : Nat) (va pa : Option Addr) (buf bs : List Int) (hb : w.cell? ⟨bx, 0, none⟩ = some (.slice va n c)) (hg : w.cell? ⟨gb, 0, none⟩ = some (.slice pa pn pc)) (hr : RowB w (.slice va n c) buf) (hn : buf.length = n) (hp : IsB w (.slice pa pn pc) bs) (hD : D ≤ n) (hR : R ≤ pn) (hx : bx ∉ own (.slice va n c)) (hy : gb ∉ own (.slice va n c)) :
    Calls Try.prog 30 #[.pointer (some ⟨gb, 0, none⟩), .int .i64 R, .int .i64 D, .pointer (some ⟨bx, 0, none⟩)] w fun e w' => e = .returned (.tuple #[]) ∧ RowB w' (.slice va n c) (buf.take D ++ ((bs.drop R).take (n - D) ++ buf.drop (D + (bs.drop R).length))) ∧ Kept (own (.slice va n c)) w w' := by
  have sl1 := slice_from va n c D hD
  have sl2 := slice_from pa pn pc R hR
  obtain ⟨dp, hdp⟩ : ∃ dp, dp = (if c = D then va else va.map (·.add D)) := ⟨_, rfl⟩
  obtain ⟨sp, hsp⟩ : ∃ sp, sp = (if pc = R then pa else pa.map (·.add R)) := ⟨_, rfl⟩
  have HD := hide (dp_at (a := D) hr)
  have HF := hide (hp.from R hR)
  rw [← hdp] at sl1 HD
  rw [← hsp] at sl2 HF
  have HR := hide hr
  have HN := hide hn
  have hb' : w.drew.cell? ⟨bx, 0, none⟩ = some (.slice va n c) := hb
  have hg' : w.drew.cell? ⟨gb, 0, none⟩ = some (.slice pa pn pc) := hg
  obtain ⟨n1, hn1⟩ : ∃ n1, n1 = n - D := ⟨_, rfl⟩
  obtain ⟨c1, hc1⟩ : ∃ c1, c1 = c - D := ⟨_, rfl⟩
  obtain ⟨n2, hn2⟩ : ∃ n2, n2 = pn - R := ⟨_, rfl⟩
  obtain ⟨c2, hc2⟩ : ∃ c2, c2 = pc - R := ⟨_, rfl⟩
  rw [← hn1, ← hc1] at sl1
  rw [← hn2, ← hc2] at sl2 HF
  have HQ := hide hn1
  have HDn := hide hD
  clear hr hn hp hdp hsp hn1 hc1 hn2 hc2
  go_enter Try.func30, Try.ntmps30
  go_wp2_with fail
  go_region_held_law (fun W => W.cell? ⟨bx, 0, none⟩ = some (.slice va n c) ∧ W.cell? ⟨gb, 0, none⟩ = some (.slice pa pn pc)) (exact ⟨by assumption, by assumption⟩) ((refine step_copyR _ ?_ (.tmp 9) (.tmp 15) ?_ (.slice va n c) buf ?_ D ?_ (.slice sp n2 c2) (bs.drop R) ?_ dp n1 c1 ?_ ?_ HD.out ?_ ?_; rfl; rfl; exact HR.out.kept (fp := []) (Kept.of_below (Below.refl _ w).drew) (by simp); (rw [HN.out]; exact HDn.out); exact HF.out.kept (fp := []) (Kept.of_below (Below.refl _ w).drew) (by simp); rfl; (rw [HN.out]; exact HQ.out); rfl; intro w2 r2 k2; have u0 := k2.cell hb' hx; have u1 := k2.cell hg' hy; have R2 := hide r2; have K2 := hide k2; clear r2 k2))
  all_goals
    go_wp2_with fail
    go_end0
    have r := R2.out
    rw [HN.out] at r
    exact ⟨rfl, r, ((Kept.refl (own (.slice va n c)) w).drew).trans K2.out (Newly.refl _ _)⟩

set_option maxRecDepth 100000 in
set_option maxHeartbeats 400000 in
/-- What WriteAt does with a page. -/
theorem write1_any (gb R D bx n c pn pc : Nat) (va pa : Option Addr) (buf bs : List Int) (hb : w.cell? ⟨bx, 0, none⟩ = some (.slice va n c)) (hg : w.cell? ⟨gb, 0, none⟩ = some (.slice pa pn pc)) (hp : RowB w (.slice pa pn pc) bs) (hpn : bs.length = pn) (hr : IsB w (.slice va n c) buf) (hD : D ≤ n) (hR : R ≤ pn) (hx : bx ∉ own (.slice pa pn pc)) (hy : gb ∉ own (.slice pa pn pc))
    {dt : Bool} (hc : w.heap[gb]? = some (.cells #[.slice pa pn pc, .bool dt] 63 (0, 0))) :
    Calls Try.prog 31 #[.pointer (some ⟨gb, 0, none⟩), .int .i64 R, .int .i64 D, .pointer (some ⟨bx, 0, none⟩)] w fun e w' => e = .returned (.tuple #[]) ∧ ∃ w2, w' = w2.setCell ⟨gb, 1, none⟩ (.bool true) ∧ RowB w2 (.slice pa pn pc) (bs.take R ++ ((buf.drop D).take (pn - R) ++ bs.drop (R + (buf.drop D).length))) ∧ Kept (own (.slice pa pn pc)) w w2 := by
  have sl1 := slice_from va n c D hD
  have sl2 := slice_from pa pn pc R hR
  obtain ⟨dp, hdp⟩ : ∃ dp, dp = (if pc = R then pa else pa.map (·.add R)) := ⟨_, rfl⟩
  obtain ⟨sp, hsp⟩ : ∃ sp, sp = (if c = D then va else va.map (·.add D)) := ⟨_, rfl⟩
  have HD := hide (dp_at (a := R) hp)
  have HF := hide (hr.from D hD)
  rw [← hsp] at sl1 HF
  rw [← hdp] at sl2 HD
  have HR := hide hp
  have HN := hide hpn
  have hb' : w.drew.cell? ⟨bx, 0, none⟩ = some (.slice va n c) := hb
  have hg' : w.drew.cell? ⟨gb, 0, none⟩ = some (.slice pa pn pc) := hg
  obtain ⟨n1, hn1⟩ : ∃ n1, n1 = n - D := ⟨_, rfl⟩
  obtain ⟨c1, hc1⟩ : ∃ c1, c1 = c - D := ⟨_, rfl⟩
  obtain ⟨n2, hn2⟩ : ∃ n2, n2 = pn - R := ⟨_, rfl⟩
  obtain ⟨c2, hc2⟩ : ∃ c2, c2 = pc - R := ⟨_, rfl⟩
  rw [← hn1, ← hc1] at sl1 HF
  rw [← hn2, ← hc2] at sl2
  have HQ := hide hn2
  have HDn := hide hR
  have HC := hide hc
  clear hr hp hpn hdp hsp hn1 hc1 hn2 hc2 hc
  go_enter Try.func31, Try.ntmps31
  go_wp2_with fail

  go_region_held_law (fun W => W.cell? ⟨bx, 0, none⟩ = some (.slice va n c) ∧ W.cell? ⟨gb, 0, none⟩ = some (.slice pa pn pc)) (exact ⟨by assumption, by assumption⟩) ((refine step_copyR _ ?_ (.tmp 12) (.tmp 15) ?_ (.slice pa pn pc) bs ?_ R ?_ (.slice sp n1 c1) (buf.drop D) ?_ dp n2 c2 ?_ ?_ HD.out ?_ ?_; rfl; rfl; exact HR.out.kept (fp := []) (Kept.of_below (Below.refl _ w).drew) (by simp); (rw [HN.out]; exact HDn.out); exact HF.out.kept (fp := []) (Kept.of_below (Below.refl _ w).drew) (by simp); rfl; (rw [HN.out]; exact HQ.out); rfl; intro w2 r2 k2; have u0 := k2.cell hb' hx; have u1 := k2.cell hg' hy; have R2 := hide r2; have K2 := hide k2; have hc2 := k2.heap (w := w.drew) HC.out hy; have t1 := cell_of_heap hc2 1; simp at t1; have t2 := frozen_of_heap hc2 1; clear r2 k2 hc2))
  all_goals
    go_wp2_with fail
    go_end0
    have r := R2.out
    rw [HN.out] at r
    exact ⟨rfl, w2, rfl, r, ((Kept.refl (own (.slice pa pn pc)) w).drew).trans K2.out (Newly.refl _ _)⟩

end
end Go.Proofs.Ytbhjdcoehgajcaa.L.P
