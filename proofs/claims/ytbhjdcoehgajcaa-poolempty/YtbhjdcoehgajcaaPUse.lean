/-
  Pools with their disks and their frames: use. A lemma file: no statement of the seat is proved here.
-/
import Derived.Test.YtbhjdcoehgajcaaPSave
namespace Go.Proofs.Ytbhjdcoehgajcaa.L.P
open Go.RowKit Go.Maps

theorem cell_set2 {W : World} {b : Nat} {x y v : Value} {a : Addr} (h : W.cell? a = some v) (hn : a.block ≠ b) : ((W.setCell ⟨b, 0, none⟩ x).setCell ⟨b, 1, none⟩ y).cell? a = some v :=
  (((Kept.refl [b] W).setCell (p := ⟨b, 0, none⟩) (.inl (by simp)) x).setCell (p := ⟨b, 1, none⟩) (.inl (by simp)) y).cell h (by simpa using hn)
theorem cell_new {W : World} {o : Obj} {v : Value} {a : Addr} (h : W.cell? a = some v) : (W.alloc o).cell? a = some v := ((Kept.refl [] W).alloc o).cell h (by simp)

/-- A pool with its disk and its frames, by their blocks. -/
def Pl (w : World) (fp : List Nat) (q d o : Nat) (fr : Int) (N : Nat) (l : List Ab) (s : Ds) (ord : List (Place × Nat)) (gs : List Pg) : Prop :=
  ∃ fd fo bm, Dk w fd d l s ∧ Ck kP w fo o fr N ord ∧ PoolAt w q d o bm gs ∧ fp = fd ++ (fo ++ pfeet q bm gs) ∧ (∀ x ∈ fd, x ∉ fo) ∧ (∀ x ∈ fd, x ∉ pfeet q bm gs) ∧ ∀ x ∈ fo, x ∉ pfeet q bm gs
/-- What a call leaves. -/
def PlO (w w' : World) (fp : List Nat) (q d o : Nat) (fr : Int) (N : Nat) (l : List Ab) (s : Ds) (ord : List (Place × Nat)) (gs : List Pg) : Prop :=
  ∃ fp', Pl w' fp' q d o fr N l s ord gs ∧ Kept fp w w' ∧ Newly w fp fp'

section
variable {w w' : World} {fp : List Nat} {q d o : Nat} {fr : Int} {N : Nat} {l : List Ab} {s : Ds} {ord : List (Place × Nat)} {gs : List Pg}

theorem Pl.lt (h : Pl w fp q d o fr N l s ord gs) : ∀ x ∈ fp, x < w.heap.size := by
  obtain ⟨fd, fo, bm, h1, h2, h3, rfl, _⟩ := h
  intro x hx
  simp only [List.mem_append] at hx
  rcases hx with hx | hx | hx
  · exact h1.lt x hx
  · exact h2.lt x hx
  · exact h3.lt x hx

theorem Pl.kept {fp2 : List Nat} (h : Pl w fp q d o fr N l s ord gs) (hk : Kept fp2 w w') (hf : ∀ x ∈ fp, x ∉ fp2) : Pl w' fp q d o fr N l s ord gs := by
  obtain ⟨fd, fo, bm, h1, h2, h3, rfl, a1, a2, a3⟩ := h
  exact ⟨fd, fo, bm, h1.kept hk (fun x hx => hf x (by simp [hx])), h2.kept hk (fun x hx => hf x (by simp [hx])), h3.kept hk (fun x hx => hf x (by simp [hx])), rfl, a1, a2, a3⟩

theorem Pl.below (h : Pl w fp q d o fr N l s ord gs) (hb : Below w.heap.size w w') : Pl w' fp q d o fr N l s ord gs := h.kept (fp2 := []) (Kept.of_below hb) (by simp)

theorem PlO.trans {w2 : World} {N2 : Nat} {l2 : List Ab} {s2 : Ds} {ord2 : List (Place × Nat)} {gs2 : List Pg} (h : PlO w w' fp q d o fr N l s ord gs) (k : ∀ fp', Pl w' fp' q d o fr N l s ord gs → PlO w' w2 fp' q d o fr N2 l2 s2 ord2 gs2) : PlO w w2 fp q d o fr N2 l2 s2 ord2 gs2 := by
  obtain ⟨fp1, h1, k1, n1⟩ := h
  obtain ⟨fp2, h2, k2, n2⟩ := k fp1 h1
  exact ⟨fp2, h2, k1.trans k2 n1, n1.trans n2 k1.size⟩

theorem PlO.of_below {w2 : World} (hb : Below w.heap.size w w') (h : Pl w fp q d o fr N l s ord gs) {N2 : Nat} {l2 : List Ab} {s2 : Ds} {ord2 : List (Place × Nat)} {gs2 : List Pg} (k : Pl w' fp q d o fr N l s ord gs → PlO w' w2 fp q d o fr N2 l2 s2 ord2 gs2) : PlO w w2 fp q d o fr N2 l2 s2 ord2 gs2 := by
  obtain ⟨fp2, h2, k2, n2⟩ := k (h.below hb)
  exact ⟨fp2, h2, (Kept.of_below (fp := fp) hb).trans k2 (Newly.refl _ _), (Newly.refl w fp).trans n2 hb.size⟩

/-- Behind something done with the frames. -/
theorem Pl.order {ord' : List (Place × Nat)} {N' : Nat} (h : Pl w fp q d o fr N l s ord gs) (ho : ∀ fo, Ck kP w fo o fr N ord → Outc kP w w' fo o fr N' ord') : PlO w w' fp q d o fr N' l s ord' gs := by
  obtain ⟨fd, fo, bm, h1, h2, h3, rfl, a1, a2, a3⟩ := h
  obtain ⟨fo', o1, o2, o3⟩ := ho fo h2
  refine ⟨fd ++ (fo' ++ pfeet q bm gs), ⟨fd, fo', bm, h1.kept o2 a1, o1, h3.kept o2 (fun x hx e => a3 x e hx), rfl, fun x hx e => ?_, a2, fun x hx e => ?_⟩, o2.mono (by intro x hx; simp [hx]), fun x hx => ?_⟩
  · rcases o3 x e with q | q
    · exact a1 x hx q
    · have := h1.lt x hx; omega
  · rcases o3 x hx with q | q
    · exact a3 x q e
    · have := h3.lt x e; omega
  · simp only [List.mem_append] at hx ⊢
    rcases hx with hx | hx | hx
    · exact .inl (.inl hx)
    · rcases o3 x hx with q | q
      · exact .inl (.inr (.inl q))
      · exact .inr q
    · exact .inl (.inr (.inr hx))

theorem Pl.calls_order {f : Nat} {args : Array Value} {R : Ending → Prop} {ord' : List (Place × Nat)} {N' : Nat} (h : Pl w fp q d o fr N l s ord gs) (hc : ∀ fo, Ck kP w fo o fr N ord → Calls Try.prog f args w fun e w' => R e ∧ Outc kP w w' fo o fr N' ord') :
    Calls Try.prog f args w fun e w' => R e ∧ PlO w w' fp q d o fr N' l s ord' gs := by
  have h0 := h
  obtain ⟨fd, fo, bm, h1, h2, h3, rfl, a1, a2, a3⟩ := h
  refine (hc fo h2).mono ?_
  rintro e w' ⟨hr, fo', o1, o2, o3⟩
  refine ⟨hr, fd ++ (fo' ++ pfeet q bm gs), ⟨fd, fo', bm, h1.kept o2 a1, o1, h3.kept o2 (fun x hx e => a3 x e hx), rfl, fun x hx e => ?_, a2, fun x hx e => ?_⟩, o2.mono (by intro x hx; simp [hx]), fun x hx => ?_⟩
  · rcases o3 x e with q | q
    · exact a1 x hx q
    · have := h1.lt x hx; omega
  · rcases o3 x hx with q | q
    · exact a3 x q e
    · have := h3.lt x e; omega
  · simp only [List.mem_append] at hx ⊢
    rcases hx with hx | hx | hx
    · exact .inl (.inl hx)
    · rcases o3 x hx with q | q
      · exact .inl (.inr (.inl q))
      · exact .inr q
    · exact .inl (.inr (.inr hx))

theorem Pl.cells (h : Pl w fp q d o fr N l s ord gs) : ∃ bm, bm ∈ fp ∧ w.cell? ⟨q, 0, none⟩ = some (.pointer (some ⟨d, 0, none⟩)) ∧ w.cell? ⟨q, 1, none⟩ = some (.pointer (some ⟨o, 0, none⟩)) ∧ w.cell? ⟨q, 2, none⟩ = some (.map (some bm)) := by
  obtain ⟨fd, fo, bm, h1, h2, h3, rfl, a1, a2, a3⟩ := h
  exact ⟨bm, by simp [pfeet], h3.cellAt⟩

/-- save. -/
theorem Pl.save_clean (h : Pl w fp q d o fr N l s ord gs) {g : Pg} (hg : g ∈ gs) (hd : g.dirty = false) :
    Calls Try.prog 33 #[.pointer (some ⟨q, 0, none⟩), encP g.key] w fun e w' => e = .returned (.int .i64 0) ∧ PlO w w' fp q d o fr N l s ord gs := by
  have h0 := h
  obtain ⟨fd, fo, bm, h1, h2, h3, hfp, a1, a2, a3⟩ := h
  refine (P.save_clean h3 hg hd).mono ?_
  rintro e w' ⟨rfl, b⟩
  exact ⟨rfl, fp, h0.below b, Kept.of_below b, Newly.refl _ _⟩

theorem Pl.save_dirty {a b : List Pg} {g : Pg} {A : List Ab × Ds} (h : Pl w fp q d o fr N l s ord (a ++ g :: b)) (hdt : g.dirty = true) (hn : s.ops ≤ 1000000) (hl : g.bs.length ≤ 64) (hA : writeAtA (beginA l s) g.key.1.1.data.toList g.key.1.2 g.bs = (0, A)) :
    Calls Try.prog 33 #[.pointer (some ⟨q, 0, none⟩), encP g.key] w fun e w' => e = .returned (.int .i64 0) ∧ PlO w w' fp q d o fr N A.1 A.2 ord (a ++ { g with dirty := false } :: b) := by
  obtain ⟨fd, fo, bm, h1, h2, h3, rfl, a1, a2, a3⟩ := h
  have ef : pfeet q bm (a ++ { g with dirty := false } :: b) = pfeet q bm (a ++ g :: b) := by simp [pfeet, Pg.feet]
  have hb := pfeet_blk (q := q) (bm := bm) (gs := a ++ g :: b) (g := g) (by simp)
  refine (P.save_dirty h3 hdt h1 a2 hn hl hA).mono ?_
  rintro e w' ⟨rfl, p, fd', d', k, n⟩
  refine ⟨rfl, fd' ++ (fo ++ pfeet q bm (a ++ { g with dirty := false } :: b)), ⟨fd', fo, bm, d', h2.kept k (fun x hx e => ?_), p, rfl, fun x hx e => ?_, fun x hx e => ?_, fun x hx e => ?_⟩, k.mono (fun x hx => ?_), fun x hx => ?_⟩
  · simp only [List.mem_append, List.mem_singleton] at e
    rcases e with e | e
    · exact a1 x e hx
    · exact a3 x hx (e ▸ hb)
  · rcases n x hx with q | q
    · exact a1 x q e
    · have := h2.lt x e; omega
  · rw [ef] at e
    rcases n x hx with q | q
    · exact a2 x q e
    · have := h3.lt x e; omega
  · rw [ef] at e
    exact a3 x hx e
  · simp only [List.mem_append, List.mem_singleton] at hx ⊢
    rcases hx with hx | hx
    · exact .inl hx
    · exact .inr (.inr (hx ▸ hb))
  · rw [ef] at hx
    simp only [List.mem_append] at hx ⊢
    rcases hx with hx | hx | hx
    · rcases n x hx with q | q
      · exact .inl (.inl q)
      · exact .inr q
    · exact .inl (.inr (.inl hx))
    · exact .inl (.inr (.inr hx))

/-- A page taken out of the map. -/
theorem Pl.delete {a b : List Pg} {g : Pg} (h : Pl w fp q d o fr N l s ord (a ++ g :: b)) : ∃ bm w', w.cell? ⟨q, 2, none⟩ = some (.map (some bm)) ∧ (Builtin.delete_ #[55, 54] 0 #[.map (some bm), encP g.key]).run Try.prog w = .ok (.tuple #[]) w' ∧ PlO w w' fp q d o fr N l s ord (a ++ b) := by
  obtain ⟨fd, fo, bm, h1, h2, h3, rfl, a1, a2, a3⟩ := h
  obtain ⟨D, hown, hD⟩ := h3.map
  obtain ⟨w', r, o1, t⟩ := hown.drop keyedP Try.underlying55 (keyP g.key trivial) 0
  have hk := turned_kept t
  have hnd : (((a.map Pg.fr) ++ g.fr :: (b.map Pg.fr)).map Fr.key).Nodup := by have := h3.keys; rw [← fr_key] at this; simpa using this
  have hD2 : PagesIs (D.del (litP g.key)) (a ++ b) := by
    have e : (a ++ g :: b).map Pg.fr = a.map Pg.fr ++ g.fr :: b.map Pg.fr := by simp
    unfold PagesIs at hD ⊢
    rw [e] at hD
    have := hD.del injP (hown.tidy keyedP) hnd
    rw [List.map_append]
    exact this
  have p' := h3.del hk o1 hD2
  have hbm : bm ∈ pfeet q bm (a ++ g :: b) := by simp [pfeet]
  have hsub : ∀ x ∈ pfeet q bm (a ++ b), x ∈ pfeet q bm (a ++ g :: b) := fun x hx => by
    rcases pfeet_mem.1 hx with h | h | ⟨y, hy, h⟩
    · exact pfeet_mem.2 (.inl h)
    · exact pfeet_mem.2 (.inr (.inl h))
    · exact pfeet_mem.2 (.inr (.inr ⟨y, by rcases List.mem_append.1 hy with hy | hy <;> simp [hy], h⟩))
  refine ⟨bm, w', h3.cellAt.2.2, r, fd ++ (fo ++ pfeet q bm (a ++ b)), ⟨fd, fo, bm, h1.kept hk (fun x hx e => ?_), h2.kept hk (fun x hx e => ?_), p', rfl, a1, fun x hx e => a2 x hx (hsub x e), fun x hx e => a3 x hx (hsub x e)⟩, hk.mono (by intro x hx; simp at hx; simp [hx, hbm]), Newly.of_sub fun x hx => ?_⟩
  · simp at e
    exact a2 x hx (e ▸ hbm)
  · simp at e
    exact a3 x hx (e ▸ hbm)
  · simp only [List.mem_append] at hx ⊢
    rcases hx with hx | hx | hx
    · exact .inl hx
    · exact .inr (.inl hx)
    · exact .inr (.inr (hsub x hx))

def zeroP : Place := ⟨(⟨#[]⟩, 0), by unfold maxLen; decide, by decide, by decide⟩

/-- Behind 'gone, is, err := p.order.Use(at)': gone lies in the box bx. -/
structure MidP (w W3 : World) (fp : List Nat) (bx : Nat) (k0 : Place) (q d o : Nat) (fr : Int) (N : Nat) (l : List Ab) (s : Ds) (ord : List (Place × Nat)) (gs : List Pg) : Prop where
  out : ∃ fp3, Pl W3 fp3 q d o fr N l s ord gs ∧ Kept fp w W3 ∧ Newly w fp fp3 ∧ bx ∉ fp3
  c0 : W3.cell? ⟨bx, 0, none⟩ = some (.string k0.1.1)
  c1 : W3.cell? ⟨bx, 1, none⟩ = some (.int .i64 k0.1.2)
  low : w.heap.size ≤ bx

theorem MidP.of_set {Wc w2 : World} {k0 : Place} {x : Obj} {N1 : Nat} {ord1 : List (Place × Nat)} {gs1 : List Pg} (h : Pl w fp q d o fr N1 l s ord1 gs1) (hb : Below w.heap.size w Wc) (o2 : PlO Wc w2 fp q d o fr N l s ord gs) (hx : Wc.heap[w.heap.size + 1]? = some x) (hx2 : x = .cells #[.string ⟨#[]⟩, .int .i64 0] 54 (0, 0)) :
    MidP w ((w2.setCell ⟨w.heap.size + 1, 0, none⟩ (.string k0.1.1)).setCell ⟨w.heap.size + 1, 1, none⟩ (.int .i64 k0.1.2)) fp (w.heap.size + 1) k0 q d o fr N l s ord gs := by
  subst hx2
  obtain ⟨fp', p', k', n'⟩ := o2
  have hlt := (Array.getElem?_eq_some_iff.1 hx).1
  have hn : ∀ y ∈ fp', y ≠ w.heap.size + 1 := fun y hy e => by
    rcases n' y hy with q | q
    · have := h.lt y q; omega
    · omega
  have g := heap_setCell (heap_setCell (k'.heap hx (fun e => by have := h.lt _ e; omega)) 0 (.string k0.1.1)) 1 (.int .i64 k0.1.2)
  have ks : Kept [w.heap.size + 1] w2 ((w2.setCell ⟨w.heap.size + 1, 0, none⟩ (.string k0.1.1)).setCell ⟨w.heap.size + 1, 1, none⟩ (.int .i64 k0.1.2)) := ((Kept.refl _ w2).setCell (p := ⟨w.heap.size + 1, 0, none⟩) (.inl (by simp)) _).setCell (p := ⟨w.heap.size + 1, 1, none⟩) (.inl (by simp)) _
  refine ⟨⟨fp', p'.kept ks (fun y hy e => hn y hy (by simpa using e)), ((Kept.of_below (fp := fp) hb).trans k' (Newly.refl _ _)).trans ks (fun y hy => .inr (by simp at hy; omega)), fun y hy => (n' y hy).imp id (fun q => Nat.le_trans hb.size q), fun e => hn _ e rfl⟩, ?_, ?_, by omega⟩
  · have := cell_of_heap g 0
    simpa using this
  · have := cell_of_heap g 1
    simpa using this

theorem MidP.of_new {Wc w2 : World} {k0 : Place} (hb : Below w.heap.size w Wc) (o2 : PlO Wc w2 fp q d o fr N l s ord gs) :
    MidP w (w2.alloc (.cells #[.string k0.1.1, .int .i64 k0.1.2] 54)) fp w2.heap.size k0 q d o fr N l s ord gs := by
  obtain ⟨fp', p', k', n'⟩ := o2
  obtain ⟨e0, e1⟩ := box2 w2 (.string k0.1.1) (.int .i64 k0.1.2) 54
  refine ⟨⟨fp', p'.below ((Below.refl _ w2).alloc (Nat.le_refl _) _), ((Kept.of_below (fp := fp) hb).trans k' (Newly.refl _ _)).alloc _, fun y hy => (n' y hy).imp id (fun q => Nat.le_trans hb.size q), fun e => by have := p'.lt _ e; omega⟩, e0, e1, Nat.le_trans hb.size k'.size⟩

set_option maxRecDepth 100000 in
set_option maxHeartbeats 4000000 in
/-- use: no page has to go. -/
theorem use_keep {ord' : List (Place × Nat)} (h : Pl w fp q d o fr N l s ord gs) (hN : N + 1 ≤ 1000000) (k : Place) (hfn : fr ≤ (ord.length : Int) → firstA ord ≠ none) (hu : useA fr ord k = (none, 0, ord')) :
    Calls Try.prog 60 #[.pointer (some ⟨q, 0, none⟩), encP k] w fun e w' => e = .returned (.int .i64 0) ∧ PlO w w' fp q d o fr (N + 1) l s ord' gs := by
  obtain ⟨b0, b1, bb⟩ := boxP_at w k
  have US := hide (fun (W : World) (bw : Below w.heap.size w W) => (h.below bw).calls_order (fun fo c => P.use_any c hN k trivial hfn))
  rw [hu] at US
  simp only [goneV, Option.isSome_none] at US
  have HC := hide (fun (W : World) (bw : Below w.heap.size w W) => (h.below bw).cells)
  have H := hide h
  obtain ⟨bm, hbm, c0, c1, c2⟩ := h.below bb.drew |>.cells
  have B0 : (boxP w k).drew.cell? ⟨w.heap.size, 0, none⟩ = some (.string k.1.1) := b0
  have B1 : (boxP w k).drew.cell? ⟨w.heap.size, 1, none⟩ = some (.int .i64 k.1.2) := b1
  have BB := hide bb.drew
  have B0a := hide (((Kept.refl [] (boxP w k).drew).alloc (.cells #[.string ⟨#[]⟩, .int .i64 0] 54)).cell B0 (by simp))
  have B1a := hide (((Kept.refl [] (boxP w k).drew).alloc (.cells #[.string ⟨#[]⟩, .int .i64 0] 54)).cell B1 (by simp))
  have SA := hide (And.intro (((Kept.refl [] (boxP w k).drew).alloc (.cells #[.string ⟨#[]⟩, .int .i64 0] 54)).cell c1 (by simp)) (And.intro B0a.out B1a.out))
  have hq : q < w.heap.size := by obtain ⟨fd, fo, bm, _, _, h3, _⟩ := h; exact (Array.getElem?_eq_some_iff.1 h3.cells).1
  have BBA := hide (bb.drew.alloc (by simp) (.cells #[.string ⟨#[]⟩, .int .i64 0] 54))
  have GBX : Hid (((boxP w k).drew.alloc (.cells #[.string ⟨#[]⟩, .int .i64 0] 54)).heap[w.heap.size + 1]? = some (.cells #[.string ⟨#[]⟩, .int .i64 0] 54 (0, 0))) := by
    have e := heap_alloc_new (boxP w k).drew (.cells #[.string ⟨#[]⟩, .int .i64 0] 54)
    have e2 : (boxP w k).drew.heap.size = w.heap.size + 1 := by simp
    rw [e2] at e
    exact e
  have FN2 : Hid (∀ y, w.heap.size ≤ y → y ∉ fp) := fun y hy e => by have := h.lt y e; omega
  clear h hu hfn b0 b1 bb hbm c0 c2
  go_enter Try.func60, Try.ntmps60
  go_wp2_with fail
  go_region_held_law (fun W => W.cell? ⟨q, 1, none⟩ = some (.pointer (some ⟨o, 0, none⟩)) ∧ W.cell? ⟨w.heap.size, 0, none⟩ = some (.string k.1.1) ∧ W.cell? ⟨w.heap.size, 1, none⟩ = some (.int .i64 k.1.2)) (first | exact SA.out | exact ⟨by assumption, by assumption, by assumption⟩ | exact ⟨cell_new (by assumption), cell_new (by assumption), cell_new (by assumption)⟩ | exact ⟨cell_set2 (by assumption) (by simp; omega), cell_set2 (by assumption) (by simp), cell_set2 (by assumption) (by simp)⟩) (first | (go_at_call 70; refine (US.out _ (by first | exact BB.out | exact BB.out.alloc (by simp) _)).mono ?_; rintro e w2 ⟨rfl, o2⟩; have O2 := hide o2; obtain ⟨fp2, pl2, k2, n2⟩ := o2; obtain ⟨bm2, hb2, u9, u0, u8⟩ := pl2.cells; have u1 : w2.cell? ⟨w.heap.size, 0, none⟩ = some (.string k.1.1) := k2.cell (by first | exact B0 | exact B0a.out) (FN2.out _ (Nat.le_refl _)); have u2 : w2.cell? ⟨w.heap.size, 1, none⟩ = some (.int .i64 k.1.2) := k2.cell (by first | exact B1 | exact B1a.out) (FN2.out _ (Nat.le_refl _)); clear pl2 n2 hb2 u9 u8; (first | (have gb := k2.heap (b := w.heap.size + 1) (o := .cells #[.string ⟨#[]⟩, .int .i64 0] 54 (0, 0)) GBX.out (FN2.out _ (by omega)); have g0 := cell_of_heap gb 0; have g1 := cell_of_heap gb 1; simp at g0 g1; have z0 := frozen_of_heap gb 0; have z1 := frozen_of_heap gb 1; clear gb k2) | clear k2)))
  all_goals
    first
    | (have MID : Hid (MidP w (w2.alloc (.cells #[.string ⟨#[]⟩, .int .i64 0] 54)) fp w2.heap.size zeroP q d o fr (N + 1) l s ord' gs) := MidP.of_new (k0 := zeroP) BB.out O2.out; generalize w2.alloc (.cells #[.string ⟨#[]⟩, .int .i64 0] 54) = W3 at MID ⊢)
    | (have MID : Hid (MidP w ((w2.setCell ⟨w.heap.size + 1, 0, none⟩ (.string ⟨#[]⟩)).setCell ⟨w.heap.size + 1, 1, none⟩ (.int .i64 0)) fp (w.heap.size + 1) zeroP q d o fr (N + 1) l s ord' gs) := MidP.of_set (k0 := zeroP) H.out BBA.out O2.out GBX.out rfl; generalize (w2.setCell ⟨w.heap.size + 1, 0, none⟩ (.string ⟨#[]⟩)).setCell ⟨w.heap.size + 1, 1, none⟩ (.int .i64 0) = W3 at MID ⊢)
    go_wp2_with fail
    go_ret
    obtain ⟨fp3, p3, k3, n3, _⟩ := MID.out.out
    exact ⟨rfl, fp3, p3, k3, n3⟩

set_option maxRecDepth 100000 in
set_option maxHeartbeats 4000000 in
/-- use: a page has to go. -/
theorem use_out {ord' : List (Place × Nat)} {a b : List Pg} {g : Pg} {l2 : List Ab} {s2 : Ds} {x : Bool} (h : Pl w fp q d o fr N l s ord (a ++ g :: b)) (hN : N + 1 ≤ 1000000) (k : Place) (hfn : fr ≤ (ord.length : Int) → firstA ord ≠ none) (hu : useA fr ord k = (some g.key, 0, ord'))
    (hsv : ∀ W fq, Pl W fq q d o fr (N + 1) l s ord' (a ++ g :: b) → Calls Try.prog 33 #[.pointer (some ⟨q, 0, none⟩), encP g.key] W fun e W' => e = .returned (.int .i64 0) ∧ PlO W W' fq q d o fr (N + 1) l2 s2 ord' (a ++ { g with dirty := x } :: b)) :
    Calls Try.prog 60 #[.pointer (some ⟨q, 0, none⟩), encP k] w fun e w' => e = .returned (.int .i64 0) ∧ PlO w w' fp q d o fr (N + 1) l2 s2 ord' (a ++ b) := by
  obtain ⟨b0, b1, bb⟩ := boxP_at w k
  have US := hide (fun (W : World) (bw : Below w.heap.size w W) => (h.below bw).calls_order (fun fo c => P.use_any c hN k trivial hfn))
  rw [hu] at US
  simp only [goneV, Option.isSome_some] at US
  have SV := hide hsv
  have HC := hide (fun (W : World) (bw : Below w.heap.size w W) => (h.below bw).cells)
  have H := hide h
  obtain ⟨bm, hbm, c0, c1, c2⟩ := h.below bb.drew |>.cells
  have B0 : (boxP w k).drew.cell? ⟨w.heap.size, 0, none⟩ = some (.string k.1.1) := b0
  have B1 : (boxP w k).drew.cell? ⟨w.heap.size, 1, none⟩ = some (.int .i64 k.1.2) := b1
  have BB := hide bb.drew
  have B0a := hide (((Kept.refl [] (boxP w k).drew).alloc (.cells #[.string ⟨#[]⟩, .int .i64 0] 54)).cell B0 (by simp))
  have B1a := hide (((Kept.refl [] (boxP w k).drew).alloc (.cells #[.string ⟨#[]⟩, .int .i64 0] 54)).cell B1 (by simp))
  have SA := hide (And.intro (((Kept.refl [] (boxP w k).drew).alloc (.cells #[.string ⟨#[]⟩, .int .i64 0] 54)).cell c1 (by simp)) (And.intro B0a.out B1a.out))
  have hq : q < w.heap.size := by obtain ⟨fd, fo, bm, _, _, h3, _⟩ := h; exact (Array.getElem?_eq_some_iff.1 h3.cells).1
  have BBA := hide (bb.drew.alloc (by simp) (.cells #[.string ⟨#[]⟩, .int .i64 0] 54))
  have GBX : Hid (((boxP w k).drew.alloc (.cells #[.string ⟨#[]⟩, .int .i64 0] 54)).heap[w.heap.size + 1]? = some (.cells #[.string ⟨#[]⟩, .int .i64 0] 54 (0, 0))) := by
    have e := heap_alloc_new (boxP w k).drew (.cells #[.string ⟨#[]⟩, .int .i64 0] 54)
    have e2 : (boxP w k).drew.heap.size = w.heap.size + 1 := by simp
    rw [e2] at e
    exact e
  have FN2 : Hid (∀ y, w.heap.size ≤ y → y ∉ fp) := fun y hy e => by have := h.lt y e; omega
  clear h hu hfn hsv b0 b1 bb hbm c0 c2
  go_enter Try.func60, Try.ntmps60
  go_wp2_with fail
  go_region_held_law (fun W => W.cell? ⟨q, 1, none⟩ = some (.pointer (some ⟨o, 0, none⟩)) ∧ W.cell? ⟨w.heap.size, 0, none⟩ = some (.string k.1.1) ∧ W.cell? ⟨w.heap.size, 1, none⟩ = some (.int .i64 k.1.2)) (first | exact SA.out | exact ⟨by assumption, by assumption, by assumption⟩ | exact ⟨cell_new (by assumption), cell_new (by assumption), cell_new (by assumption)⟩ | exact ⟨cell_set2 (by assumption) (by simp; omega), cell_set2 (by assumption) (by simp), cell_set2 (by assumption) (by simp)⟩) (first | (go_at_call 70; refine (US.out _ (by first | exact BB.out | exact BB.out.alloc (by simp) _)).mono ?_; rintro e w2 ⟨rfl, o2⟩; have O2 := hide o2; obtain ⟨fp2, pl2, k2, n2⟩ := o2; obtain ⟨bm2, hb2, u9, u0, u8⟩ := pl2.cells; have u1 : w2.cell? ⟨w.heap.size, 0, none⟩ = some (.string k.1.1) := k2.cell (by first | exact B0 | exact B0a.out) (FN2.out _ (Nat.le_refl _)); have u2 : w2.cell? ⟨w.heap.size, 1, none⟩ = some (.int .i64 k.1.2) := k2.cell (by first | exact B1 | exact B1a.out) (FN2.out _ (Nat.le_refl _)); clear pl2 n2 hb2 u9 u8; (first | (have gb := k2.heap (b := w.heap.size + 1) (o := .cells #[.string ⟨#[]⟩, .int .i64 0] 54 (0, 0)) GBX.out (FN2.out _ (by omega)); have g0 := cell_of_heap gb 0; have g1 := cell_of_heap gb 1; simp at g0 g1; have z0 := frozen_of_heap gb 0; have z1 := frozen_of_heap gb 1; clear gb k2) | clear k2)))
  all_goals
    first
    | (have MID : Hid (MidP w (w2.alloc (.cells #[.string g.key.1.1, .int .i64 g.key.1.2] 54)) fp w2.heap.size g.key q d o fr (N + 1) l s ord' (a ++ g :: b)) := MidP.of_new (k0 := g.key) BB.out O2.out; generalize w2.alloc (.cells #[.string g.key.1.1, .int .i64 g.key.1.2] 54) = W3 at MID ⊢; generalize w2.heap.size = bx at MID ⊢)
    | (have MID : Hid (MidP w ((w2.setCell ⟨w.heap.size + 1, 0, none⟩ (.string g.key.1.1)).setCell ⟨w.heap.size + 1, 1, none⟩ (.int .i64 g.key.1.2)) fp (w.heap.size + 1) g.key q d o fr (N + 1) l s ord' (a ++ g :: b)) := MidP.of_set (k0 := g.key) H.out BBA.out O2.out GBX.out rfl; generalize (w2.setCell ⟨w.heap.size + 1, 0, none⟩ (.string g.key.1.1)).setCell ⟨w.heap.size + 1, 1, none⟩ (.int .i64 g.key.1.2) = W3 at MID ⊢; generalize w.heap.size + 1 = bx at MID ⊢)
    obtain ⟨fp3, p3, k3, n3, hbx⟩ := MID.out.out
    have m0 := MID.out.c0
    have m1 := MID.out.c1
    have S3 := hide (SV.out W3 fp3 p3)
    have K3 := hide (And.intro k3 (And.intro n3 hbx))
    have LB := hide (World.block_lt_of_cell? W3 _ m0)
    clear p3 k3 n3 hbx
    go_wp2_with fail
    refine S3.out.mono ?_
    rintro e w4 ⟨rfl, o4⟩
    obtain ⟨fp4, p4, k4, n4⟩ := o4
    obtain ⟨fp5, w5, r5⟩ : ∃ bm w5, w4.drew.cell? ⟨q, 2, none⟩ = some (.map (some bm)) ∧ (Builtin.delete_ #[55, 54] 0 #[.map (some bm), encP g.key]).run Try.prog w4.drew = .ok (.tuple #[]) w5 ∧ PlO w4.drew w5 fp4 q d o fr (N + 1) l2 s2 ord' (a ++ b) := (p4.below (Below.refl _ w4).drew).delete (g := { g with dirty := x })
    obtain ⟨r0, r1, r2⟩ := r5
    have e0 : w4.drew.cell? ⟨bx, 0, none⟩ = some (.string g.key.1.1) := k4.cell m0 K3.out.2.2
    have e1 : w4.drew.cell? ⟨bx, 1, none⟩ = some (.int .i64 g.key.1.2) := k4.cell m1 K3.out.2.2
    have R1 := hide r1
    have R2 := hide r2
    have K4 := hide (And.intro k4 n4)
    clear r1 r2 k4 n4 p4 m0 m1
    go_wp2_with fail
    go_region_law (refine step_delete rfl (.tmp 47) (.tmp 48) 55 54 rfl rfl fp5 (encP g.key) ?_ ?_ R1.out ?_; (simp [Act.eval]); (simp [Act.eval]))
    all_goals
      go_wp2
      go_ret
      obtain ⟨fp6, p6, k6, n6⟩ := R2.out
      have q1 := K3.out.1.trans K4.out.1 K3.out.2.1
      have q2 := K3.out.2.1.trans K4.out.2 K3.out.1.size
      exact ⟨rfl, fp6, p6, (q1.drew).trans k6 q2, q2.trans n6 q1.size⟩

end
end Go.Proofs.Ytbhjdcoehgajcaa.L.P
