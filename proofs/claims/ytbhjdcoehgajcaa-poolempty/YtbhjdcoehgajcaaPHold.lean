/-
  Pools: hold. A lemma file: no statement of the seat is proved here.
-/
import Derived.Test.YtbhjdcoehgajcaaPFill
namespace Go.Proofs.Ytbhjdcoehgajcaa.L.P
open Go.RowKit Go.Maps

/-- A value laid in once more. -/
theorem mapIs_again {α β : Type} [DecidableEq β] {lt : β → Lit} {zd : DataW Unit} {val : Fr α → DataW Unit} {kf : Fr α → β} {D : DataW Unit} {ds rs : List (Fr α)} {e : Fr α} (h : MapIs lt zd val kf D (ds ++ e :: rs)) (hinj : ∀ x y, lt x = lt y → x = y) (hkl : ∀ x, WideAt.IsKeyLit (lt x)) (ht : Tidy D) (hnd : ((ds ++ e :: rs).map kf).Nodup) :
    MapIs lt zd val kf (D.put (lt (kf e)) (val e)) (ds ++ e :: rs) := by
  have hat := find_at hnd
  refine ⟨fun x => ?_, fun x => ?_, ?_⟩
  · by_cases hx : kf e = x
    · subst hx
      rw [atKey_put_same ht.isMap (hkl _), hat]
    · rw [atKey_put_other (fun e2 => hx (hinj _ _ e2).symm), h.at_ x]
  · by_cases hx : kf e = x
    · subst hx
      rw [has_put_same ht.isMap (hkl _), hat]
      rfl
    · rw [has_put_other (fun e2 => hx (hinj _ _ e2).symm), h.has x]
  · rw [size_put ht, h.has, hat, h.size]
    simp

section
variable {w w' : World} {fp : List Nat} {q d o : Nat} {fr : Int} {N : Nat} {l : List Ab} {s : Ds} {ord : List (Place × Nat)} {gs : List Pg}

theorem Pl.look_no (h : Pl w fp q d o fr N l s ord gs) (k : Place) (hno : ∀ g ∈ gs, g.key ≠ k) : ∃ bm, w.cell? ⟨q, 2, none⟩ = some (.map (some bm)) ∧ (Instr.lookup 55 (.map (some bm)) (encP k) true).run Try.prog w = .ok (.tuple #[.pointer none, .bool false]) w := by
  obtain ⟨fd, fo, bm, h1, h2, h3, rfl, a1, a2, a3⟩ := h
  exact ⟨bm, h3.cellAt.2.2, h3.look_no k hno⟩
theorem Pl.look_ok (h : Pl w fp q d o fr N l s ord gs) {g : Pg} (hg : g ∈ gs) : ∃ bm, w.cell? ⟨q, 2, none⟩ = some (.map (some bm)) ∧ (Instr.lookup 55 (.map (some bm)) (encP g.key) true).run Try.prog w = .ok (.tuple #[.pointer (some ⟨g.blk, 0, none⟩), .bool true]) w := by
  obtain ⟨fd, fo, bm, h1, h2, h3, rfl, a1, a2, a3⟩ := h
  exact ⟨bm, h3.cellAt.2.2, h3.look_ok hg⟩
theorem Pl.page (h : Pl w fp q d o fr N l s ord gs) {g : Pg} (hg : g ∈ gs) : w.cell? ⟨g.blk, 0, none⟩ = some g.v ∧ w.cell? ⟨g.blk, 1, none⟩ = some (.bool g.dirty) ∧ (∀ o, w.frozen? ⟨g.blk, o, none⟩ = false) ∧ RowB w g.v g.bs ∧ g.blk ∈ fp ∧ ∀ x ∈ own g.v, x ∈ fp := by
  obtain ⟨fd, fo, bm, h1, h2, h3, rfl, a1, a2, a3⟩ := h
  obtain ⟨e0, e1, e2⟩ := h3.pageAt hg
  exact ⟨e0, e1, e2, (h3.pages g hg).2, by have := pfeet_blk (q := q) (bm := bm) hg; simp [this], fun x hx => by have := pfeet_own (q := q) (bm := bm) hg hx; simp [this]⟩

theorem Pl.insert (h : Pl w fp q d o fr N l s ord gs) (g : Pg) (hc : w.heap[g.blk]? = some (.cells #[g.v, .bool g.dirty] 63 (0, 0))) (hr : RowB w g.v g.bs) (hnd : g.feet.Nodup) (hf : ∀ x ∈ g.feet, x ∉ fp) (hkey : ∀ x ∈ gs, x.key ≠ g.key) (hlen : gs.length < maxLen) :
    ∃ bm w', w.cell? ⟨q, 2, none⟩ = some (.map (some bm)) ∧ (Instr.mapUpdate 55 (.map (some bm)) (encP g.key) (.pointer (some ⟨g.blk, 0, none⟩))).run Try.prog w = .ok () w' ∧ w'.cell? ⟨q, 2, none⟩ = some (.map (some bm)) ∧ ∃ fp', Pl w' fp' q d o fr N l s ord (gs ++ [g]) ∧ Kept fp w w' ∧ ∀ x ∈ fp', x ∈ fp ∨ x ∈ g.feet := by
  obtain ⟨fd, fo, bm, h1, h2, h3, rfl, a1, a2, a3⟩ := h
  obtain ⟨D, hown, hD⟩ := h3.map
  obtain ⟨w', r, o1, t⟩ := hown.store keyedP Try.underlying55 hlen (keyP g.key trivial) (ptrE_some g.blk)
  have hk := turned_kept t
  have hD2 : PagesIs (D.put (litP g.key) (.lit (.int .i64 g.blk))) (gs ++ [g]) := by
    have := hD.snoc (e := g.fr) injP litP_key (hown.tidy keyedP) (fun y hy => by obtain ⟨z, hz, rfl⟩ := List.mem_map.1 hy; exact hkey z hz)
    unfold PagesIs
    rw [List.map_append]
    exact this
  have p' := h3.snoc (g := g) hk hc hr hnd (fun x hx e => hf x hx (by simp [e])) hkey o1 hD2
  have hbm : bm ∈ pfeet q bm gs := by simp [pfeet]
  have e1 : pfeet q bm (gs ++ [g]) = pfeet q bm gs ++ g.feet := by simp [pfeet]
  refine ⟨bm, w', h3.cellAt.2.2, r, p'.cellAt.2.2, fd ++ (fo ++ pfeet q bm (gs ++ [g])), ⟨fd, fo, bm, h1.kept hk (fun x hx e => ?_), h2.kept hk (fun x hx e => ?_), p', rfl, a1, fun x hx e => ?_, fun x hx e => ?_⟩, hk.mono (by intro x hx; simp at hx; simp [hx, hbm]), fun x hx => ?_⟩
  · simp at e
    exact a2 x hx (e ▸ hbm)
  · simp at e
    exact a3 x hx (e ▸ hbm)
  · rw [e1, List.mem_append] at e
    rcases e with e | e
    · exact a2 x hx e
    · exact hf x e (by simp [hx])
  · rw [e1, List.mem_append] at e
    rcases e with e | e
    · exact a3 x hx e
    · exact hf x e (by simp [hx])
  · rw [e1] at hx
    simp only [List.mem_append] at hx ⊢
    rcases hx with hx | hx | hx | hx
    · exact .inl (.inl hx)
    · exact .inl (.inr (.inl hx))
    · exact .inl (.inr (.inr hx))
    · exact .inr hx

theorem Pl.again {a b : List Pg} {g : Pg} (h : Pl w fp q d o fr N l s ord (a ++ g :: b)) (hlen : (a ++ g :: b).length < maxLen) :
    ∃ bm w', w.cell? ⟨q, 2, none⟩ = some (.map (some bm)) ∧ (Instr.mapUpdate 55 (.map (some bm)) (encP g.key) (.pointer (some ⟨g.blk, 0, none⟩))).run Try.prog w = .ok () w' ∧ w'.cell? ⟨q, 2, none⟩ = some (.map (some bm)) ∧ PlO w w' fp q d o fr N l s ord (a ++ g :: b) := by
  obtain ⟨fd, fo, bm, h1, h2, h3, rfl, a1, a2, a3⟩ := h
  obtain ⟨D, hown, hD⟩ := h3.map
  obtain ⟨w', r, o1, t⟩ := hown.store keyedP Try.underlying55 hlen (keyP g.key trivial) (ptrE_some g.blk)
  have hk := turned_kept t
  have e : (a ++ g :: b).map Pg.fr = a.map Pg.fr ++ g.fr :: b.map Pg.fr := by simp
  have hnd : ((a.map Pg.fr ++ g.fr :: b.map Pg.fr).map Fr.key).Nodup := by have := h3.keys; rw [← fr_key, e] at this; exact this
  have hD2 : PagesIs (D.put (litP g.key) (.lit (.int .i64 g.blk))) (a ++ g :: b) := by
    unfold PagesIs at hD ⊢
    rw [e] at hD ⊢
    have := mapIs_again (e := g.fr) hD injP litP_key (hown.tidy keyedP) hnd
    exact this
  have hbm : bm ∈ pfeet q bm (a ++ g :: b) := by simp [pfeet]
  have hap := h3.apart
  have hq : q ≠ bm ∧ ∀ y ∈ (a ++ g :: b).flatMap Pg.feet, y ≠ bm := by
    simp only [pfeet, List.nodup_cons, List.mem_cons, not_or] at hap
    exact ⟨hap.1.1, fun y hy e => hap.2.1 (e ▸ hy)⟩
  have p' : PoolAt w' q d o bm (a ++ g :: b) := by
    refine ⟨hk.heap h3.cells (by simpa using hq.1), ⟨_, ownsMap_fit o1 (by rw [hD2.size]; simp), hD2⟩, fun y hy => ?_, hap, h3.keys⟩
    have hy2 := h3.pages y hy
    have hn : ∀ z ∈ y.feet, z ≠ bm := fun z hz => hq.2 z (List.mem_flatMap.2 ⟨y, hy, hz⟩)
    exact ⟨hk.heap hy2.1 (by simpa using hn y.blk (by simp [Pg.feet])), hy2.2.kept hk (fun z hz => by simpa using hn z (by simp [Pg.feet, hz]))⟩
  refine ⟨bm, w', h3.cellAt.2.2, r, p'.cellAt.2.2, _, ⟨fd, fo, bm, h1.kept hk (fun x hx e => a2 x hx (by simp at e; exact e ▸ hbm)), h2.kept hk (fun x hx e => a3 x hx (by simp at e; exact e ▸ hbm)), p', rfl, a1, a2, a3⟩, hk.mono (by intro x hx; simp at hx; simp [hx, hbm]), Newly.refl _ _⟩

set_option maxRecDepth 100000 in
set_option maxHeartbeats 400000 in
/-- hold of a page that is held. -/
theorem hold_in {N' : Nat} {ord' : List (Place × Nat)} {a b : List Pg} {g : Pg} (h : Pl w fp q d o fr N l s ord (a ++ g :: b)) (m : Int) (hm : m ≤ (g.bs.length : Int)) (hlen : (a ++ g :: b).length < maxLen)
    (hu : ∀ W, Pl W fp q d o fr N l s ord (a ++ g :: b) → Calls Try.prog 60 #[.pointer (some ⟨q, 0, none⟩), encP g.key] W fun e W' => e = .returned (.int .i64 0) ∧ PlO W W' fp q d o fr N' l s ord' (a ++ g :: b)) :
    Calls Try.prog 46 #[.pointer (some ⟨q, 0, none⟩), encP g.key, .int .i64 m] w fun e w' => e = .returned (.tuple #[.pointer (some ⟨g.blk, 0, none⟩), .int .i64 0]) ∧ PlO w w' fp q d o fr N' l s ord' (a ++ g :: b) := by
  obtain ⟨b0, b1, bb⟩ := boxP_at w g.key
  have hg : g ∈ a ++ g :: b := by simp
  have US := hide (hu _ (h.below bb))
  have HB := hide (And.intro b0 (And.intro b1 bb))
  have HLT := hide h.lt
  have HG := hide hg
  have HL := hide hlen
  clear h hu hg b0 b1 bb hlen
  obtain ⟨k, hk⟩ : ∃ k, k = g.key := ⟨_, rfl⟩
  rw [← hk] at US HB
  rw [← hk]
  have HK := hide hk
  clear hk
  go_enter Try.func46, Try.ntmps46
  go_wp2_with (go_at_call 60; refine US.out.mono ?_; rintro e w2 ⟨rfl, o2⟩; have O2 := hide o2; clear o2)
  obtain ⟨fp2, p2, k2, n2⟩ := O2.out
  have pd := p2.below (Below.refl _ w2).drew
  obtain ⟨bm, c2, LK⟩ := pd.look_ok HG.out
  rw [← HK.out] at LK
  have nf : w.heap.size ∉ fp := fun e => by have := HLT.out _ e; omega
  have e0 : w2.drew.cell? ⟨w.heap.size, 0, none⟩ = some (.string k.1.1) := k2.cell HB.out.1 nf
  have e1 : w2.drew.cell? ⟨w.heap.size, 1, none⟩ = some (.int .i64 k.1.2) := k2.cell HB.out.2.1 nf
  obtain ⟨g0, _, _, gr, _, _⟩ := pd.page HG.out
  obtain ⟨va, vc, hv, _⟩ := gr.isB.form
  rw [hv] at g0
  have FH := hide (fill_held (q := q) g.blk g.bs.length vc va k m hm g0)
  have PD := hide pd
  have K2 := hide (And.intro k2 n2)
  obtain ⟨gb, hgb⟩ : ∃ gb, gb = g.blk := ⟨_, rfl⟩
  rw [← hgb] at LK FH
  have HGB := hide hgb
  clear p2 k2 n2 pd g0 gr hv hgb hm
  go_region_held (fun W => W.cell? ⟨q, 2, none⟩ = some (.map (some bm)) ∧ W.cell? ⟨w.heap.size, 0, none⟩ = some (.string k.1.1) ∧ W.cell? ⟨w.heap.size, 1, none⟩ = some (.int .i64 k.1.2)) (exact ⟨by assumption, by assumption, by assumption⟩) (fail)
  all_goals
    clear LK
    go_wp2_with fail
    refine FH.out.mono ?_
    rintro e w3 ⟨rfl, b3⟩
    have pd3 := PD.out.below (b3.drew)
    obtain ⟨bm3, w4, c4, r4, c5, o4⟩ := pd3.again HL.out
    rw [← HK.out, ← HGB.out] at r4
    have f0 : w3.drew.cell? ⟨w.heap.size, 0, none⟩ = some (.string k.1.1) := (Kept.of_below (fp := []) b3).cell e0 (by simp)
    have f1 : w3.drew.cell? ⟨w.heap.size, 1, none⟩ = some (.int .i64 k.1.2) := (Kept.of_below (fp := []) b3).cell e1 (by simp)
    have nf2 : w.heap.size ∉ fp2 := fun e => by
      have hs : (boxP w k).heap.size = w.heap.size + 1 := by simp
      rcases K2.out.2 _ e with u | u
      · exact nf u
      · omega
    obtain ⟨fp5, p5, k5, n5⟩ := o4
    have f2 := k5.cell f0 nf2
    have f3 := k5.cell f1 nf2
    have O4 := hide (And.intro p5 (And.intro k5 n5))
    have B3 := hide b3
    clear p5 k5 n5 b3 pd3 c2 e0 e1
    go_wp2_with fail
    go_region_held (fun W => W.cell? ⟨q, 2, none⟩ = some (.map (some bm3)) ∧ W.cell? ⟨w.heap.size, 0, none⟩ = some (.string k.1.1) ∧ W.cell? ⟨w.heap.size, 1, none⟩ = some (.int .i64 k.1.2)) (exact ⟨by assumption, by assumption, by assumption⟩) (fail)
    all_goals
      go_wp2_with fail
      go_ret2
      obtain ⟨p5, k5, n5⟩ := O4.out
      have q1 : Kept fp w w2.drew := ((Kept.of_below (fp := fp) HB.out.2.2).trans K2.out.1 (Newly.refl _ _)).drew
      have q2 : Newly w fp fp2 := fun x hx => (K2.out.2 x hx).imp id (fun q => Nat.le_trans HB.out.2.2.size q)
      have q3 : Kept fp w w3.drew := (q1.trans (Kept.of_below (fp := fp) B3.out) (Newly.refl _ _)).drew
      have eg := HGB.out
      subst eg
      exact ⟨rfl, fp5, p5, q3.trans k5 q2, q2.trans n5 q3.size⟩

set_option maxRecDepth 100000 in
set_option maxHeartbeats 400000 in
/-- hold of a page that is not held. -/
theorem hold_new {N' : Nat} {l' : List Ab} {s' : Ds} {ord' : List (Place × Nat)} {gs' : List Pg} (h : Pl w fp q d o fr N l s ord gs) (k : Place) (a m : Nat) (hka : k.1.2 = (a : Int)) (hm : 0 < m) (hm2 : m ≤ 64) (hn : s'.ops ≤ 1000000) {x : Ab} (he : errA (beginA l' s') k.1.1.data.toList = none) (hx : DLook (beginA l' s').1 k.1.1.data.toList = some x) (ham : a + m ≤ x.2.1.length) (ha : a ≤ 1000000000) (hno : ∀ g ∈ gs', g.key ≠ k) (hlen : gs'.length < maxLen)
    (hu : ∀ W, Pl W fp q d o fr N l s ord gs → Calls Try.prog 60 #[.pointer (some ⟨q, 0, none⟩), encP k] W fun e W' => e = .returned (.int .i64 0) ∧ PlO W W' fp q d o fr N' l' s' ord' gs') :
    Calls Try.prog 46 #[.pointer (some ⟨q, 0, none⟩), encP k, .int .i64 m] w fun e w' => ∃ gb v, e = .returned (.tuple #[.pointer (some ⟨gb, 0, none⟩), .int .i64 0]) ∧ PlO w w' fp q d o fr N' (beginA l' s').1 (beginA l' s').2 ord' (gs' ++ [⟨k, gb, v, (x.2.1.drop a).take m, false⟩]) := by
  obtain ⟨b0, b1, bb⟩ := boxP_at w k
  have US := hide (hu _ (h.below bb))
  have HB := hide (And.intro b0 (And.intro b1 bb))
  have HLT := hide h.lt
  have HA := hide (And.intro hka (And.intro hm (And.intro hm2 (And.intro hn (And.intro he (And.intro hx (And.intro ham ha)))))))
  have HNO := hide hno
  have HL := hide hlen
  clear h hu b0 b1 bb hka hm hm2 hn he hx ham ha hno hlen
  go_enter Try.func46, Try.ntmps46
  go_wp2_with (go_at_call 60; refine US.out.mono ?_; rintro e w2 ⟨rfl, o2⟩; have O2 := hide o2; clear o2)
  obtain ⟨fp2, p2, k2, n2⟩ := O2.out
  have pd := p2.below (Below.refl _ w2).drew
  obtain ⟨bm, c2, LK⟩ := pd.look_no k HNO.out
  have nf : w.heap.size ∉ fp := fun e => by have := HLT.out _ e; omega
  have e0 : w2.drew.cell? ⟨w.heap.size, 0, none⟩ = some (.string k.1.1) := k2.cell HB.out.1 nf
  have e1 : w2.drew.cell? ⟨w.heap.size, 1, none⟩ = some (.int .i64 k.1.2) := k2.cell HB.out.2.1 nf
  have d0 : (w2.alloc (.cells #[.slice none 0 0, .bool false] 63)).drew.cell? ⟨w.heap.size, 0, none⟩ = some (.string k.1.1) := cell_new e0
  have d1 : (w2.alloc (.cells #[.slice none 0 0, .bool false] 63)).drew.cell? ⟨w.heap.size, 1, none⟩ = some (.int .i64 k.1.2) := cell_new e1
  have p3 : Pl (w2.alloc (.cells #[.slice none 0 0, .bool false] 63)).drew fp2 q d o fr N' l' s' ord' gs' := p2.below ((Below.refl _ w2).alloc (Nat.le_refl _) (.cells #[.slice none 0 0, .bool false] 63)).drew
  have g3 : w2.heap.size ∉ fp2 := fun e => by have := p2.lt _ e; omega
  have FN := hide (fill_new p3 HA.out.2.2.2.1 w2.heap.size k a m HA.out.1 HA.out.2.1 HA.out.2.2.1 HA.out.2.2.2.2.1 HA.out.2.2.2.2.2.1 HA.out.2.2.2.2.2.2.1 HA.out.2.2.2.2.2.2.2 (heap_alloc_new w2 _) g3)
  have K2 := hide (And.intro k2 n2)
  have P2 := hide p2
  have G3 := hide g3
  clear p2 k2 n2 pd p3 g3
  go_region_held (fun W => W.cell? ⟨q, 2, none⟩ = some (.map (some bm)) ∧ W.cell? ⟨w.heap.size, 0, none⟩ = some (.string k.1.1) ∧ W.cell? ⟨w.heap.size, 1, none⟩ = some (.int .i64 k.1.2)) (exact ⟨by assumption, by assumption, by assumption⟩) (fail)
  all_goals
    clear LK
    go_wp2_with fail
    refine FN.out.mono ?_
    rintro e w4 ⟨rfl, v, fp4, p4, hb4, r4, k4, n4, y4, g4⟩
    have hs : (boxP w k).heap.size = w.heap.size + 1 := by simp
    have hs2 := K2.out.1.size
    have nf2 : w.heap.size ∉ fp2 := fun e => by
      rcases K2.out.2 _ e with u | u
      · exact nf u
      · omega
    have nf4 : w.heap.size ∉ fp2 ++ [w2.heap.size] := fun e => by
      rcases List.mem_append.1 e with u | u
      · exact nf2 u
      · simp at u; omega
    have f0 : w4.drew.cell? ⟨w.heap.size, 0, none⟩ = some (.string k.1.1) := k4.cell d0 nf4
    have f1 : w4.drew.cell? ⟨w.heap.size, 1, none⟩ = some (.int .i64 k.1.2) := k4.cell d1 nf4
    obtain ⟨bm5, w5, c5, r5, c6, fp5, p5, k5, n5⟩ := (p4.below (Below.refl _ w4).drew).insert ⟨k, w2.heap.size, v, (x.2.1.drop a).take m, false⟩ hb4 (r4.kept (fp := []) (Kept.of_below (Below.refl _ w4).drew) (by simp)) (by
      simp only [Pg.feet, List.nodup_cons]
      refine ⟨fun e => ?_, ?_⟩
      · have h9 : (w2.alloc (.cells #[.slice none 0 0, .bool false] 63)).drew.heap.size ≤ w2.heap.size := (y4 _ e).1
        have hs3 : (w2.alloc (.cells #[.slice none 0 0, .bool false] 63)).drew.heap.size = w2.heap.size + 1 := by simp
        omega
      · cases v <;> simp [own, Value.ownBlock]
        rename_i a0 _ _
        cases a0 <;> simp) (by
      intro y hy e
      simp only [Pg.feet, List.mem_cons] at hy
      rcases hy with rfl | hy
      · exact g4 e
      · exact (y4 y hy).2 e) HNO.out HL.out
    have nf5 : w.heap.size ∉ fp4 := fun e => by
      rcases n4 _ e with u | u
      · exact nf2 u
      · have hs3 : (w2.alloc (.cells #[.slice none 0 0, .bool false] 63)).drew.heap.size = w2.heap.size + 1 := by simp
        omega
    have f2 := k5.cell f0 nf5
    have f3 := k5.cell f1 nf5
    have P5 := hide (And.intro p5 (And.intro k5 n5))
    have K4 := hide (And.intro k4 (And.intro n4 y4))
    clear p5 k5 n5 k4 n4 y4 p4 r4 g4 hb4 nf5 nf4 d0 d1 e0 e1
    go_wp2_with fail
    go_region_held (fun W => W.cell? ⟨q, 2, none⟩ = some (.map (some bm5)) ∧ W.cell? ⟨w.heap.size, 0, none⟩ = some (.string k.1.1) ∧ W.cell? ⟨w.heap.size, 1, none⟩ = some (.int .i64 k.1.2)) (exact ⟨by assumption, by assumption, by assumption⟩) (fail)
    all_goals
      go_wp2_with fail
      go_ret2
      obtain ⟨p5, k5, n5⟩ := P5.out
      obtain ⟨k4, n4, y4⟩ := K4.out
      have q1 : Kept fp w w2 := (Kept.of_below (fp := fp) HB.out.2.2).trans K2.out.1 (Newly.refl _ _)
      have q2 : Newly w fp fp2 := fun x hx => (K2.out.2 x hx).imp id (fun q => Nat.le_trans HB.out.2.2.size q)
      have q3 : Kept fp w (w2.alloc (.cells #[.slice none 0 0, .bool false] 63)).drew := (q1.alloc _).drew
      have hw2 := q1.size
      have q4 : Kept fp w w4 := q3.trans k4 (fun x hx => by
        rcases List.mem_append.1 hx with u | u
        · exact q2 x u
        · simp at u; exact .inr (by omega))
      have q5 : Newly w fp fp4 := q2.trans n4 q3.size
      refine ⟨w2.heap.size, v, rfl, fp5, p5, q4.drew.trans k5 q5, fun y hy => ?_⟩
      rcases n5 y hy with u | u
      · exact q5 y u
      · simp only [Pg.feet, List.mem_cons] at u
        rcases u with rfl | u
        · exact .inr hw2
        · have := (y4 y u).1
          exact .inr (Nat.le_trans q3.size this)

end
end Go.Proofs.Ytbhjdcoehgajcaa.L.P
