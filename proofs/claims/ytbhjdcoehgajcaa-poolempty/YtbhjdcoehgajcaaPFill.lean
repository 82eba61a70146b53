/-
  Pools: fill. A lemma file: no statement of the seat is proved here.
-/
import Derived.Test.YtbhjdcoehgajcaaPUse
namespace Go.Proofs.Ytbhjdcoehgajcaa.L.P
open Go.RowKit Go.Maps

section
variable {w w' : World} {fp : List Nat} {q d o : Nat} {fr : Int} {N : Nat} {l : List Ab} {s : Ds} {ord : List (Place × Nat)} {gs : List Pg}

/-- ReadAt of the disk. -/
theorem Pl.read (h : Pl w fp q d o fr N l s ord gs) (hn : s.ops ≤ 1000000) (nm : ByteArray) (hnm : nm.size ≤ maxLen) {x : Ab} (he : errA (beginA l s) nm.data.toList = none) (hx : DLook (beginA l s).1 nm.data.toList = some x) (a m : Nat) (ham : a + m ≤ x.2.1.length) :
    Calls Try.prog 16 #[.pointer (some ⟨d, 0, none⟩), .string nm, .int .i64 (a : Int), .int .i64 (m : Int)] w fun e w' => ∃ v, e = .returned (.tuple #[v, .int .i64 0]) ∧ RowB w' v ((x.2.1.drop a).take m) ∧
      ∃ fp', Pl w' fp' q d o fr N (beginA l s).1 (beginA l s).2 ord gs ∧ Kept fp w w' ∧ Newly w fp fp' ∧ ∀ y ∈ own v, w.heap.size ≤ y ∧ y ∉ fp' := by
  obtain ⟨fd, fo, bm, h1, h2, h3, rfl, a1, a2, a3⟩ := h
  refine (h1.read hn nm hnm he hx a m ham).mono ?_
  rintro e w' ⟨v, rfl, hr, fd', d', k, n, hy⟩
  refine ⟨v, rfl, hr, fd' ++ (fo ++ pfeet q bm gs), ⟨fd', fo, bm, d', h2.kept k (fun x hx e => a1 x e hx), h3.kept k (fun x hx e => a2 x e hx), rfl, fun x hx e => ?_, fun x hx e => ?_, a3⟩, k.mono (by intro x hx; simp [hx]), fun x hx => ?_, fun y hy2 => ⟨(hy y hy2).1, fun e => ?_⟩⟩
  · rcases n x hx with q | q
    · exact a1 x q e
    · have := h2.lt x e; omega
  · rcases n x hx with q | q
    · exact a2 x q e
    · have := h3.lt x e; omega
  · simp only [List.mem_append] at hx ⊢
    rcases hx with hx | hx
    · exact (n x hx).imp .inl id
    · exact .inl (.inr hx)
  · simp only [List.mem_append] at e
    have q := (hy y hy2).1
    rcases e with e | e | e
    · exact (hy y hy2).2 e
    · have := h2.lt y e; omega
    · have := h3.lt y e; omega

/-- Size of the disk. -/
theorem Pl.size (h : Pl w fp q d o fr N l s ord gs) (hn : s.ops ≤ 1000000) (nm : ByteArray) (hnm : nm.size ≤ maxLen) :
    Calls Try.prog 45 #[.pointer (some ⟨d, 0, none⟩), .string nm] w fun e w' => e = .returned (.tuple #[.int .i64 (sizeA (beginA l s) nm.data.toList).1, .int .i64 (sizeA (beginA l s) nm.data.toList).2]) ∧ PlO w w' fp q d o fr N (beginA l s).1 (beginA l s).2 ord gs := by
  obtain ⟨fd, fo, bm, h1, h2, h3, rfl, a1, a2, a3⟩ := h
  refine (h1.size hn nm hnm).mono ?_
  rintro e w' ⟨rfl, fd', d', k, n⟩
  refine ⟨rfl, fd' ++ (fo ++ pfeet q bm gs), ⟨fd', fo, bm, d', h2.kept k (fun x hx e => a1 x e hx), h3.kept k (fun x hx e => a2 x e hx), rfl, fun x hx e => ?_, fun x hx e => ?_, a3⟩, k.mono (by intro x hx; simp [hx]), fun x hx => ?_⟩
  · rcases n x hx with q | q
    · exact a1 x q e
    · have := h2.lt x e; omega
  · rcases n x hx with q | q
    · exact a2 x q e
    · have := h3.lt x e; omega
  · simp only [List.mem_append] at hx ⊢
    rcases hx with hx | hx
    · exact (n x hx).imp .inl id
    · exact .inl (.inr hx)

set_option maxRecDepth 100000 in
set_option maxHeartbeats 4000000 in
/-- fill of a page that has all. -/
theorem fill_held (gb n c : Nat) (va : Option Addr) (k : Place) (m : Int) (hm : m ≤ (n : Int)) (hc : w.cell? ⟨gb, 0, none⟩ = some (.slice va n c)) :
    Calls Try.prog 61 #[.pointer (some ⟨q, 0, none⟩), .pointer (some ⟨gb, 0, none⟩), encP k, .int .i64 m] w fun e w' => e = .returned (.int .i64 0) ∧ Below w.heap.size w w' := by
  obtain ⟨_, _, bb⟩ := boxP_at w k
  have c1 : (boxP w k).cell? ⟨gb, 0, none⟩ = some (.slice va n c) := cell_new hc
  have BB := hide bb
  clear bb hc
  go_enter Try.func61, Try.ntmps61
  go_wp2
  go_ret
  exact ⟨rfl, BB.out⟩

set_option maxRecDepth 100000 in
set_option maxHeartbeats 400000 in
/-- fill of a new page. -/
theorem fill_new (h : Pl w fp q d o fr N l s ord gs) (hn : s.ops ≤ 1000000) (gb : Nat) (k : Place) (a m : Nat) (hka : k.1.2 = (a : Int)) (hm : 0 < m) (hm2 : m ≤ 64) {x : Ab} (he : errA (beginA l s) k.1.1.data.toList = none) (hx : DLook (beginA l s).1 k.1.1.data.toList = some x) (ham : a + m ≤ x.2.1.length) (ha : a ≤ 1000000000)
    (hc : w.heap[gb]? = some (.cells #[.slice none 0 0, .bool false] 63 (0, 0))) (hgf : gb ∉ fp) :
    Calls Try.prog 61 #[.pointer (some ⟨q, 0, none⟩), .pointer (some ⟨gb, 0, none⟩), encP k, .int .i64 m] w fun e w' => e = .returned (.int .i64 0) ∧ ∃ v fp', Pl w' fp' q d o fr N (beginA l s).1 (beginA l s).2 ord gs ∧ w'.heap[gb]? = some (.cells #[v, .bool false] 63 (0, 0)) ∧ RowB w' v ((x.2.1.drop a).take m) ∧
      Kept (fp ++ [gb]) w w' ∧ Newly w fp fp' ∧ (∀ y ∈ own v, w.heap.size ≤ y ∧ y ∉ fp') ∧ gb ∉ fp' := by
  obtain ⟨⟨nm, kz⟩, hk1, hk2⟩ := k
  simp only at hka he hx hk1
  subst hka
  obtain ⟨b0, b1, bb⟩ := boxP_at w ⟨(nm, (a : Int)), hk1, hk2⟩
  simp only at b0 b1
  have hgl : gb < w.heap.size := (Array.getElem?_eq_some_iff.1 hc).1
  have c1 : (boxP w ⟨(nm, (a : Int)), hk1, hk2⟩).cell? ⟨gb, 0, none⟩ = some (.slice none 0 0) := cell_new (by simpa using cell_of_heap hc 0)
  obtain ⟨bm, _, c0, _, _⟩ := (h.below bb.drew).cells
  have c1' : (boxP w ⟨(nm, (a : Int)), hk1, hk2⟩).drew.cell? ⟨gb, 0, none⟩ = some (.slice none 0 0) := c1
  have B0 : (boxP w ⟨(nm, (a : Int)), hk1, hk2⟩).drew.cell? ⟨w.heap.size, 0, none⟩ = some (.string nm) := b0
  have B1 : (boxP w ⟨(nm, (a : Int)), hk1, hk2⟩).drew.cell? ⟨w.heap.size, 1, none⟩ = some (.int .i64 (a : Int)) := b1
  have RD := hide ((h.below bb.drew).read hn nm hk1 he hx a m ham)
  have H := hide h
  have BB := hide bb.drew
  have HGB := hide ((Kept.of_below (fp := []) bb.drew).heap hc (by simp))
  have HF := hide (And.intro hgf hgl)
  have HLT := hide h.lt
  have h1 : ¬ (m : Int) ≤ 0 := by omega
  have h2 : IntKind.i64.wrap (a : Int) = (a : Int) := i64_small _ (by omega) (by omega)
  have h3 : IntKind.i64.wrap (m : Int) = (m : Int) := i64_small _ (by omega) (by omega)
  have HML : Hid (((x.2.1.drop a).take m).length ≤ 64) := by show _ ≤ _; simp; omega
  clear h b0 b1 bb hc he hx hgf hgl
  go_enter Try.func61, Try.ntmps61
  go_wp2_with fail
  obtain ⟨W1, hW1⟩ : ∃ W1, W1 = (boxP w ⟨(nm, (a : Int)), hk1, hk2⟩) := ⟨_, rfl⟩
  rw [← hW1] at c0 c1 c1' B0 B1 RD BB HGB
  rw [show w.alloc (.cells #[.string nm, .int .i64 (a : Int)] 54) = W1 from hW1.symm]
  clear hW1
  go_region_held (fun W => W.cell? ⟨q, 0, none⟩ = some (.pointer (some ⟨d, 0, none⟩)) ∧ W.cell? ⟨w.heap.size, 0, none⟩ = some (.string nm) ∧ W.cell? ⟨w.heap.size, 1, none⟩ = some (.int .i64 (a : Int))) (exact ⟨by assumption, by assumption, by assumption⟩) (first | (go_at_call 16; refine RD.out.mono ?_; rintro e w2 ⟨v2, rfl, r2, fp2, p2, k2, n2, y2⟩; obtain ⟨bm2, _, u0, _, _⟩ := p2.cells; have u1 := k2.cell B0 (fun e => by have := HLT.out _ e; simp at this); have u2 := k2.cell B1 (fun e => by have := HLT.out _ e; simp at this); have gb2 := k2.heap HGB.out HF.out.1; have g0 := cell_of_heap gb2 0; simp at g0; have z0 := frozen_of_heap gb2 0; have R2 := hide r2; have P2 := hide (And.intro p2 (And.intro k2 (And.intro n2 y2))); have GB2 := hide gb2; clear r2 p2 k2 n2 y2 gb2))
  all_goals
    go_wp2_with (refine wp_appendR _ rfl (.tmp 41) (.tmp 42) rfl (.slice none 0 0) v2 [] ((x.2.1.drop a).take m) rfl (RowB.nil _) rfl R2.out.isB (by have := HML.out; simp only [List.length_nil]; omega) ?_; intro v3 w3 r3 k3 n3 f3; obtain ⟨vb, vcap, hv3, _⟩ := r3.isB.form; obtain ⟨n9, hn9⟩ : ∃ n, n = ([] ++ (x.2.1.drop a).take m).length := ⟨_, rfl⟩; rw [← hn9] at hv3; clear hn9; have gb3 := k3.heap GB2.out (by simp [own, Value.ownBlock]); have g3 := cell_of_heap gb3 0; simp at g3; have z3 := frozen_of_heap gb3 0; have R3 := hide r3; have K3 := hide (And.intro k3 n3); have GB3 := hide gb3; have HV3 := hide hv3; rw [hv3]; clear r3 k3 n3 f3 gb3 hv3)
    go_ret
    obtain ⟨p2, k2, n2, y2⟩ := P2.out
    obtain ⟨k3, n3⟩ := K3.out
    have e3 := HV3.out
    rw [List.nil_append] at R3
    have ks : Kept [gb] w3 (w3.setCell ⟨gb, 0, none⟩ v3) := (Kept.refl _ w3).setCell (p := ⟨gb, 0, none⟩) (.inl (by simp)) _
    have k3' : Kept [] w2 w3 := k3
    have hW : W1.heap.size = w.heap.size + 1 ∨ True := .inr trivial
    have hsz := BB.out.size
    have hy3 : ∀ y ∈ own v3, w2.heap.size ≤ y := fun y hy => by
      rcases n3 y hy with q | q
      · simp [own, Value.ownBlock] at q
      · exact q
    have hg2 : gb ∉ fp2 := fun e => by
      rcases n2 gb e with q | q
      · exact HF.out.1 q
      · have := HF.out.2; have hq : W1.heap.size ≤ gb := q; have hs : w.heap.size ≤ W1.heap.size := hsz; omega
    rw [← e3]
    refine ⟨rfl, v3, fp2, (p2.kept k3' (by simp)).kept ks (fun y hy e => hg2 (by simp at e; exact e ▸ hy)), by simpa using heap_setCell GB3.out 0 v3, R3.out.kept ks (fun y hy e => ?_), ?_, fun y hy => (n2 y hy).imp id (fun q => Nat.le_trans hsz q), fun y hy => ⟨?_, fun e => ?_⟩, hg2⟩
    · have h5 := hy3 y hy
      simp only [List.mem_singleton] at e
      have := (Array.getElem?_eq_some_iff.1 GB2.out).1
      omega
    · exact ((((Kept.of_below (fp := fp ++ [gb]) BB.out).trans (k2.mono (fp' := fp ++ [gb]) (by intro y hy; simp [hy])) (Newly.refl _ _))).trans (k3'.mono (fp' := fp ++ [gb]) (by simp)) (Newly.refl _ _)).trans ks (fun y hy => .inl (by simp at hy; simp [hy]))
    · exact Nat.le_trans hsz (Nat.le_trans k2.size (hy3 y hy))
    · have := p2.lt y e
      have := hy3 y hy
      omega

end
end Go.Proofs.Ytbhjdcoehgajcaa.L.P
