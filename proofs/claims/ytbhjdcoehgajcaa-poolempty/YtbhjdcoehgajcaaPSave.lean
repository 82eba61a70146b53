/-
  Pools: save. A lemma file: no statement of the seat is proved here.
-/
import Derived.Test.YtbhjdcoehgajcaaPMem
namespace Go.Proofs.Ytbhjdcoehgajcaa.L.P
open Go.RowKit Go.Maps

/-- The box of a place. -/
@[reducible] def boxP (w : World) (k : Place) : World := w.alloc (.cells #[.string k.1.1, .int .i64 k.1.2] 54)
theorem boxP_at (w : World) (k : Place) : (boxP w k).cell? ⟨w.heap.size, 0, none⟩ = some (.string k.1.1) ∧ (boxP w k).cell? ⟨w.heap.size, 1, none⟩ = some (.int .i64 k.1.2) ∧ Below w.heap.size w (boxP w k) :=
  ⟨(box2 w (.string k.1.1) (.int .i64 k.1.2) 54).1, (box2 w (.string k.1.1) (.int .i64 k.1.2) 54).2, (Below.refl _ w).alloc (Nat.le_refl _) _⟩

section
variable {w w' : World} {q d o bm : Nat} {gs : List Pg}

set_option maxRecDepth 100000 in
set_option maxHeartbeats 4000000 in
theorem save_clean (h : PoolAt w q d o bm gs) {g : Pg} (hg : g ∈ gs) (hd : g.dirty = false) :
    Calls Try.prog 33 #[.pointer (some ⟨q, 0, none⟩), encP g.key] w fun e w' => e = .returned (.int .i64 0) ∧ Below w.heap.size w w' := by
  obtain ⟨b0, b1, bb⟩ := boxP_at w g.key
  have h1 := h.below bb.drew
  have LK := h1.look hg
  obtain ⟨c0, c1, c2⟩ := h1.cellAt
  obtain ⟨p0, p1, _⟩ := h1.pageAt hg
  rw [hd] at p1
  have B0 : (boxP w g.key).drew.cell? ⟨w.heap.size, 0, none⟩ = some (.string g.key.1.1) := b0
  have B1 : (boxP w g.key).drew.cell? ⟨w.heap.size, 1, none⟩ = some (.int .i64 g.key.1.2) := b1
  have BB := hide bb.drew
  obtain ⟨k, hk⟩ : ∃ k, k = g.key := ⟨_, rfl⟩
  obtain ⟨gb, hgb⟩ : ∃ gb, gb = g.blk := ⟨_, rfl⟩
  rw [← hk] at LK c0 c1 c2 p0 p1 B0 B1 BB ⊢
  rw [← hgb] at LK p0 p1
  clear h h1 hg hd b0 b1 bb hk hgb c0 c1 p0
  go_enter Try.func33, Try.ntmps33
  go_wp2
  go_region_held (fun W => W.cell? ⟨q, 2, none⟩ = some (.map (some bm)) ∧ W.cell? ⟨w.heap.size, 0, none⟩ = some (.string k.1.1) ∧ W.cell? ⟨w.heap.size, 1, none⟩ = some (.int .i64 k.1.2)) (go_keep) (fail)
  all_goals
  go_wp2_with fail
  go_ret
  exact ⟨rfl, BB.out⟩

set_option maxRecDepth 100000 in
set_option maxHeartbeats 4000000 in
theorem save_dirty {a b : List Pg} {g : Pg} {fd : List Nat} {l : List Ab} {s : Ds} {A : List Ab × Ds} (h : PoolAt w q d o bm (a ++ g :: b)) (hdt : g.dirty = true) (hd : Dk w fd d l s) (hap : ∀ x ∈ fd, x ∉ pfeet q bm (a ++ g :: b)) (hn : s.ops ≤ 1000000) (hl : g.bs.length ≤ 64)
    (hA : writeAtA (beginA l s) g.key.1.1.data.toList g.key.1.2 g.bs = (0, A)) :
    Calls Try.prog 33 #[.pointer (some ⟨q, 0, none⟩), encP g.key] w fun e w' => e = .returned (.int .i64 0) ∧ PoolAt w' q d o bm (a ++ { g with dirty := false } :: b) ∧ ∃ fd', Dk w' fd' d A.1 A.2 ∧ Kept (fd ++ [g.blk]) w w' ∧ Newly w fd fd' := by
  obtain ⟨b0, b1, bb⟩ := boxP_at w g.key
  have hg : g ∈ a ++ g :: b := by simp
  have h1 := h.below bb.drew
  have LK := h1.look hg
  obtain ⟨c0, c1, c2⟩ := h1.cellAt
  obtain ⟨p0, p1, _⟩ := h1.pageAt hg
  rw [hdt] at p1
  have B0 : (boxP w g.key).drew.cell? ⟨w.heap.size, 0, none⟩ = some (.string g.key.1.1) := b0
  have B1 : (boxP w g.key).drew.cell? ⟨w.heap.size, 1, none⟩ = some (.int .i64 g.key.1.2) := b1
  have hfn : ∀ x ∈ own g.v, x ∉ fd := fun x hx e => hap x e (pfeet_own hg hx)
  have WR := hide (fun (W : World) (bw : Below w.heap.size w W) => (hd.below bw).writeAt hn g.key.1.1 g.key.2.1 g.key.1.2 g.key.2.2 g.v g.bs (h.below bw |>.pages g hg).2.isB (by omega) (fun _ => hfn))
  rw [hA] at WR
  have BB := hide bb.drew
  have H := hide h
  have HAP := hide hap
  have HLT := hide hd.lt
  obtain ⟨va, vc, hv, _⟩ := (h.pages g hg).2.isB.form
  have HV := hide hv
  rw [hv] at p0 WR
  obtain ⟨k, hk⟩ : ∃ k, k = g.key := ⟨_, rfl⟩
  obtain ⟨gb, hgb⟩ : ∃ gb, gb = g.blk := ⟨_, rfl⟩
  rw [← hk] at LK c0 c1 c2 p0 p1 B0 B1 BB WR
  rw [← hk]
  rw [← hgb] at LK p0 p1
  have HG := hide hgb
  have HKK := hide hk
  clear h h1 hg hd hdt hap b0 b1 bb hk hgb c1 hfn hA hv
  go_enter Try.func33, Try.ntmps33
  go_wp2
  go_region_held (fun W => W.cell? ⟨q, 2, none⟩ = some (.map (some bm)) ∧ W.cell? ⟨w.heap.size, 0, none⟩ = some (.string k.1.1) ∧ W.cell? ⟨w.heap.size, 1, none⟩ = some (.int .i64 k.1.2)) (go_keep) (fail)
  all_goals
  go_wp2_with fail
  obtain ⟨W1, hW1⟩ : ∃ W1, W1 = (boxP w k).drew := ⟨_, rfl⟩
  rw [← hW1] at c0 c2 p0 p1 B0 B1 BB ⊢
  have WD := hide (WR.out W1.drew BB.out.drew)
  have HP1 := hide (H.out.below BB.out.drew)
  have c0' : W1.drew.cell? ⟨q, 0, none⟩ = some (.pointer (some ⟨d, 0, none⟩)) := c0
  have p0' : W1.drew.cell? ⟨gb, 0, none⟩ = some (.slice va g.bs.length vc) := p0
  have B0' : W1.drew.cell? ⟨w.heap.size, 0, none⟩ = some (.string k.1.1) := B0
  have B1' : W1.drew.cell? ⟨w.heap.size, 1, none⟩ = some (.int .i64 k.1.2) := B1
  have SB : Hid (W1.drew.heap.size = W1.heap.size) := rfl
  clear hW1 LK
  go_region_held (fun W => W.cell? ⟨q, 0, none⟩ = some (.pointer (some ⟨d, 0, none⟩)) ∧ W.cell? ⟨w.heap.size, 0, none⟩ = some (.string k.1.1) ∧ W.cell? ⟨w.heap.size, 1, none⟩ = some (.int .i64 k.1.2) ∧ W.cell? ⟨gb, 0, none⟩ = some (.slice va g.bs.length vc)) (exact ⟨by assumption, by assumption, by assumption, by assumption⟩) (first | (go_at_call 48; refine WD.out.mono ?_; rintro e w2 ⟨rfl, fd', d2, k2, n2⟩; have u0 := k2.cell c0' (fun e => HAP.out q e (by simp [pfeet])); have u1 := k2.cell B0' (fun e => by have := HLT.out _ e; simp at this); have u2 := k2.cell B1' (fun e => by have := HLT.out _ e; simp at this); have u3 := k2.cell p0' (fun e => HAP.out gb e (by rw [HG.out]; exact pfeet_blk (by simp))); have D2 := hide d2; have K2 := hide k2; have N2 := hide n2; have P2 := hide (HP1.out.kept k2 (fun x hx e => HAP.out x e hx)); clear d2 k2 n2))
  all_goals
    obtain ⟨_, t1, t2⟩ := P2.out.pageAt (g := g) (by simp)
    rw [← HG.out] at t1 t2
    have t3 := t2 1
    clear t2
    go_wp2_with fail
    go_ret
    have SD := P2.out.setDirty false
    have e1 := HG.out
    have e2 := HKK.out
    subst e1
    subst e2
    have kk : Kept (fd ++ [g.blk]) w w2 := (Kept.of_below (fp := fd ++ [g.blk]) BB.out.drew).trans (K2.out.mono (fp' := fd ++ [g.blk]) (by intro x hx; simp [hx])) (Newly.refl _ _)
    refine ⟨rfl, SD.1, fd', D2.out.kept SD.2 (fun x hx e => ?_), kk.trans SD.2 (fun x hx => .inl (by simp at hx; simp [hx])), fun x hx => (N2.out x hx).imp id (fun q => Nat.le_trans BB.out.size q)⟩
    simp only [List.mem_singleton] at e
    rcases N2.out x hx with q | q
    · exact HAP.out x q (by rw [e]; exact pfeet_blk (by simp))
    · have := H.out.lt g.blk (pfeet_blk (by simp))
      have := BB.out.size
      have hsz : W1.drew.heap.size ≤ x := q
      have hsb : W1.drew.heap.size = W1.heap.size := rfl
      omega

end
end Go.Proofs.Ytbhjdcoehgajcaa.L.P
