/-
  Caches with keys of type cartage/pool.place: take. A lemma file: no statement of the seat is proved here.
-/
import Derived.Test.YtbhjdcoehgajcaaLFindP
namespace Go.Proofs.Ytbhjdcoehgajcaa.L.P
open Go.RowKit Go.Maps

abbrev Key := Place
abbrev Cat (w : World) (p bh bl : Nat) (fr : Int) (us : Nat) (es : List (Fr Key)) : Prop := CacheAt kP w p bh bl fr us es

theorem Try.zeroPF (w : World) : (zeroValue 99).run Try.prog w = .ok (.pointer none) w := by kernel_rfl

section
variable {w w' : World} {p bh bl : Nat} {fr : Int} {us : Nat}

theorem Cat.cellAt {es : List (Fr Key)} (h : Cat w p bh bl fr us es) : w.cell? ⟨p, 0, none⟩ = some (.int .i64 fr) ∧ w.cell? ⟨p, 1, none⟩ = some (.int .u64 us) ∧ w.cell? ⟨p, 2, none⟩ = some (.map (some bh)) ∧ w.cell? ⟨p, 3, none⟩ = some (.map (some bl)) ∧ ∀ o, w.frozen? ⟨p, o, none⟩ = false := by
  have h0 := cell_of_heap h.cells 0
  have h1 := cell_of_heap h.cells 1
  have h2 := cell_of_heap h.cells 2
  have h3 := cell_of_heap h.cells 3
  simp at h0 h1 h2 h3
  exact ⟨h0, h1, h2, h3, fun o => frozen_of_heap h.cells o⟩

theorem Cat.frameAt {es : List (Fr Key)} (h : Cat w p bh bl fr us es) {e : Fr Key} (he : e ∈ es) : (w.cell? ⟨e.blk, 0, none⟩ = some (.string e.key.1.1) ∧ w.cell? ⟨e.blk, 1, none⟩ = some (.int .i64 e.key.1.2)) ∧ w.cell? ⟨e.blk, 2, none⟩ = some (.int .i64 e.pins) ∧ ∀ o, w.frozen? ⟨e.blk, o, none⟩ = false := by
  have h0 := cell_of_heap (h.frames e he) 0
  have h1 := cell_of_heap (h.frames e he) 1
  have h2 := cell_of_heap (h.frames e he) 2
  simp at h0 h1 h2
  exact ⟨⟨h0, h1⟩, h2, fun o => frozen_of_heap (h.frames e he) o⟩

/-- The frame of a use. -/
theorem Cat.held_at {es : List (Fr Key)} (h : Cat w p bh bl fr us es) {e : Fr Key} (he : e ∈ es) : (Instr.lookup 89 (.map (some bh)) (.int .u64 e.use) false).run Try.prog w = .ok (.pointer (some ⟨e.blk, 0, none⟩)) w := by
  obtain ⟨D, h1, h2⟩ := h.held
  obtain ⟨v, ps, hrun, hv⟩ := h1.lookup uKeyed Try.underlying89 (Try.zeroPF w) ptrE_none (uKey e.use (Nat.le_trans (h.up e he) (Nat.le_trans h.few (by omega))))
  rw [hrun]
  obtain ⟨ds, rs, rfl⟩ := List.append_of_mem he
  rw [h2.at_ e.use, find_at h.nd] at hv
  rw [ptrE_inv hv]

/-- The last use of a key. -/
theorem Cat.last_some {es : List (Fr Key)} (h : Cat w p bh bl fr us es) {e : Fr Key} (he : e ∈ es) : (Instr.lookup 90 (.map (some bl)) (kP.enc e.key) true).run Try.prog w = .ok (.tuple #[.int .u64 e.use, .bool true]) w := by
  obtain ⟨D, h1, h2⟩ := h.last
  obtain ⟨v, ps, hrun, hv⟩ := h1.look_ok keyedP Try.underlying90 (Try.zeroU64 w) (uElem_mk 0 (by omega)) (keyP e.key (h.ok e he))
  have hkl := h2.at_ e.key
  have hhas := h2.has e.key
  obtain ⟨ds, rs, rfl⟩ := List.append_of_mem he
  rw [find_at h.keys] at hkl hhas
  rw [hrun, hhas]
  have hkl2 : D.atKey (kP.lit e.key) (.lit (.int .u64 0)) = .lit (.int .u64 e.use) := hkl
  have hv2 : uElem v = some (D.atKey (kP.lit e.key) (.lit (.int .u64 0)), ps) := hv
  rw [hkl2] at hv2
  obtain ⟨c, rfl, hc, _⟩ := plainElem_int_inv Try.underlying91 hv2
  simp only [Prod.mk.injEq, DataW.lit.injEq, Lit.int.injEq, true_and] at hc
  rw [← hc.1]
  rfl

theorem Cat.last_none {es : List (Fr Key)} (h : Cat w p bh bl fr us es) (k : Key) (hok : kP.ok k) (hno : ∀ e ∈ es, e.key ≠ k) : (Instr.lookup 90 (.map (some bl)) (kP.enc k) true).run Try.prog w = .ok (.tuple #[.int .u64 0, .bool false]) w := by
  obtain ⟨D, h1, h2⟩ := h.last
  obtain ⟨v, ps, hrun, hv⟩ := h1.look_ok keyedP Try.underlying90 (Try.zeroU64 w) (uElem_mk 0 (by omega)) (keyP k hok)
  have hkl := h2.at_ k
  have hhas := h2.has k
  rw [find_none hno] at hkl hhas
  rw [hrun, hhas]
  have hkl2 : D.atKey (kP.lit k) (.lit (.int .u64 0)) = .lit (.int .u64 0) := hkl
  have hv2 : uElem v = some (D.atKey (kP.lit k) (.lit (.int .u64 0)), ps) := hv
  rw [hkl2] at hv2
  obtain ⟨c, rfl, hc, _⟩ := plainElem_int_inv Try.underlying91 hv2
  simp only [Prod.mk.injEq, DataW.lit.injEq, Lit.int.injEq, true_and] at hc
  rw [← hc.1]
  rfl

theorem turned_kept {w w' : World} {b : Nat} (h : w.mapTurned w' b) : Kept [b] w w' := ⟨h.grown.os, h.grown.tape, h.grown.output, h.grown.size, fun k hk hne => h.grown.block k hk (fun e => hne (by simpa using e))⟩

set_option maxRecDepth 100000 in
set_option maxHeartbeats 4000000 in
/-- take. -/
theorem take_any {ds rs : List (Fr Key)} {e : Fr Key} (h : Cat w p bh bl fr us (ds ++ e :: rs)) :
    Calls Try.prog 51 #[.pointer (some ⟨p, 0, none⟩), .int .u64 e.use] w fun x w' => x = .returned (.pointer (some ⟨e.blk, 0, none⟩)) ∧ Cat w' p bh bl fr us (ds ++ rs) ∧ Kept [bh, bl] w w' ∧ e.blk ∉ feet p bh bl (ds ++ rs) := by
  obtain ⟨_, _, c2, c3, _⟩ := h.cellAt
  obtain ⟨⟨f0, g0⟩, _, _⟩ := h.frameAt (e := e) (by simp)
  have LK := h.held_at (e := e) (by simp)
  obtain ⟨n1, n2, n3, n4⟩ := h.ne
  have n5 := n4 e (by simp)
  obtain ⟨D, hown, hD⟩ := h.held
  obtain ⟨D2, hown2, hD2⟩ := h.last
  have OW := hide hown
  have OW2 := hide hown2
  have HD := hide hD
  have HD2 := hide hD2
  have HH := hide h
  have hu : Hid (keyOf Try.prog 91 (.int .u64 e.use) = some (uLit e.use)) := uKey e.use (Nat.le_trans (h.up e (by simp)) (Nat.le_trans h.few (by omega)))
  have hk : Hid (keyOf Try.prog kP.tk (kP.enc e.key) = some (kP.lit e.key)) := keyP e.key (h.ok e (by simp))
  obtain ⟨q, hq⟩ : ∃ q, q = e.blk := ⟨_, rfl⟩
  obtain ⟨ky, hky⟩ : ∃ ky, ky = e.key := ⟨_, rfl⟩
  obtain ⟨u, hu0⟩ : ∃ u, u = e.use := ⟨_, rfl⟩
  rw [← hq] at f0 LK n5 ⊢
  rw [← hky] at f0 hk
  rw [← hq] at g0
  rw [← hky] at g0
  rw [← hu0] at LK hu ⊢
  have N := hide n5
  have EQ := hide (And.intro hq (And.intro hky hu0))
  clear hq hky hu0
  have M := hide (show bl ≠ bh ∧ p ≠ bh from ⟨Ne.symm n3, n1⟩)
  have FN := hide (fun W => findable_any ky W)
  clear h hown hown2 hD hD2 n1 n2 n3 n4 n5
  go_enter Try.func51, Try.ntmps51
  go_wp2_with (at_delete; refine wpList_delete_own _ rfl _ _ 89 91 rfl 99 uKeyed Try.underlying89 ptrE bh (ds ++ e :: rs).length D rfl OW.out _ (uLit u) rfl hu.out ?_; intro w1 o1 t1; have k1 := turned_kept t1; have c3' := k1.cell c3 (by simpa using M.out.2); have f0' := k1.cell f0 (by simpa using N.out.2.1); have g0' := k1.cell g0 (by simpa using N.out.2.1); have OW3 := hide (ownsMap_kept OW2.out k1 (by simpa using M.out.1)); have O1 := hide o1; have K1 := hide k1; clear o1 k1 t1 c3 f0 g0)
  go_wp2_with (go_at_call 64; refine (FN.out _).mono ?_; rintro x w2 ⟨rfl, b2⟩; have K2 := hide (Kept.of_below (fp := []) b2); have c3'' := K2.out.cell c3' (by simp); have f0'' := K2.out.cell f0' (by simp); have g0'' := K2.out.cell g0' (by simp); have OW4 := hide (ownsMap_kept OW3.out K2.out (by simp)); have O2 := hide (ownsMap_kept O1.out K2.out (by simp)); clear b2)
  obtain ⟨w3, r3, o3, t3⟩ := OW4.out.drew.drop keyedP Try.underlying90 hk.out 0
  have R3 := hide r3
  clear r3
  have K3 := hide (turned_kept t3)
  have O3 := hide o3
  clear o3 t3
  go_region_law (refine step_delete rfl (.tmp 25) (.tmp 29) 90 kP.tk rfl rfl bl (kP.enc ky) ?_ ?_ R3.out ?_; (simp [Act.eval]); (simp [Act.eval]))
  all_goals
  go_wp2
  go_ret
  have kk : Kept [bh, bl] w w3 := ((K1.out.mono (fp' := [bh, bl]) (by simp)).trans K2.out.drew (Newly.of_sub (by simp))).trans K3.out (Newly.of_sub (by simp))
  have o4 := ownsMap_kept O2.out.drew K3.out (by simpa using Ne.symm M.out.1)
  have hd := HD.out.del uLit_inj (OW.out.tidy uKeyed) HH.out.nd
  have hl := HD2.out.del injP (OW2.out.tidy keyedP) HH.out.keys
  have o3 := O3.out
  obtain ⟨hq, hky, hu0⟩ := EQ.out
  subst hu0 hky hq
  refine ⟨rfl, HH.out.del kk o4 hd o3 hl, kk, ?_⟩
  have hnd := HH.out.apart
  intro hmem
  simp only [feet, List.mem_cons, List.map_append, List.mem_append, List.map_cons, List.nodup_cons, List.nodup_append] at hmem hnd
  rcases hmem with h1 | h1 | h1 | (h1 | h1)
  · exact N.out.1 h1
  · exact N.out.2.1 h1
  · exact N.out.2.2 h1
  · exact hnd.2.2.2.2.2 _ h1 e.blk (by simp) rfl
  · exact hnd.2.2.2.2.1.1 h1

end
end Go.Proofs.Ytbhjdcoehgajcaa.L.P
