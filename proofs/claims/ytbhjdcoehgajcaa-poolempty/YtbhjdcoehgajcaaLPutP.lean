/-
  Caches with keys of type cartage/pool.place: put. A lemma file: no statement of the seat is proved here.
-/
import Derived.Test.YtbhjdcoehgajcaaLTakeP
namespace Go.Proofs.Ytbhjdcoehgajcaa.L.P
open Go.RowKit Go.Maps

section
variable {w w' : World} {p bh bl : Nat} {fr : Int} {us : Nat}

set_option maxRecDepth 100000 in
set_option maxHeartbeats 4000000 in
/-- put. -/
theorem put_any {es : List (Fr Key)} (h : Cat w p bh bl fr us es) (hfew : us + 1 ≤ 1000000) (q : Nat) (ky : Key) (n : Nat) (hb : w.heap[q]? = some (.cells (kP.fc ky n) kP.tf (0, 0))) (hq : q ∉ feet p bh bl es) (hky : ∀ x ∈ es, x.key ≠ ky) (hok : kP.ok ky) :
    Calls Try.prog 86 #[.pointer (some ⟨p, 0, none⟩), .pointer (some ⟨q, 0, none⟩)] w fun x w' => x = .returned (.tuple #[]) ∧ Cat w' p bh bl fr (us + 1) (es ++ [⟨us + 1, q, ky, n⟩]) ∧ Kept [p, bh, bl] w w' := by
  obtain ⟨_, c1, c2, c3, cf⟩ := h.cellAt
  have f0 := cell_of_heap hb 0
  simp at f0
  have f9 := cell_of_heap hb 1
  simp at f9
  obtain ⟨n1, n2, n3, n4⟩ := h.ne
  have n5 := hq
  simp only [feet, List.mem_cons, not_or] at n5
  obtain ⟨D, hown, hD⟩ := h.held
  obtain ⟨D2, hown2, hD2⟩ := h.last
  have hlen : es.length < maxLen := by have := h.len; unfold maxLen; omega
  have hz : cf 1 = cf 1 := rfl
  clear hz
  have hwr : IntKind.u64.wrap ((us : Int) + 1) = ((us + 1 : Nat) : Int) := by rw [IntKind.wrap_u64]; omega
  -- behind the count
  have k1 : Kept [p] w (w.setCell ⟨p, 1, none⟩ (.int .u64 (us + 1 : Nat))) := (Kept.refl _ w).setCell (p := ⟨p, 1, none⟩) (.inl (by simp)) _
  have hc1 : (w.setCell ⟨p, 1, none⟩ (.int .u64 (us + 1 : Nat))).heap[p]? = some (.cells #[.int .i64 fr, .int .u64 (us + 1 : Nat), .map (some bh), .map (some bl)] kP.tc (0, 0)) := by
    simpa using heap_setCell h.cells 1 (.int .u64 (us + 1 : Nat))
  have cf1 := cf 1
  obtain ⟨w1, hw1⟩ : ∃ w1, w1 = w.setCell ⟨p, 1, none⟩ (.int .u64 (us + 1 : Nat)) := ⟨_, rfl⟩
  rw [← hw1] at k1 hc1
  have OW := hide (ownsMap_kept hown k1 (by simpa using Ne.symm n1))
  have OW2 := hide (ownsMap_kept hown2 k1 (by simpa using Ne.symm n2))
  have d1 : w1.cell? ⟨p, 1, none⟩ = some (.int .u64 (us + 1 : Nat)) := by simpa using cell_of_heap hc1 1
  have d2 : w1.cell? ⟨p, 2, none⟩ = some (.map (some bh)) := by simpa using cell_of_heap hc1 2
  have d3 : w1.cell? ⟨p, 3, none⟩ = some (.map (some bl)) := by simpa using cell_of_heap hc1 3
  have g0 := k1.cell f0 (by simpa using n5.1)
  have g9 := k1.cell f9 (by simpa using n5.1)
  have hu : Hid (keyOf Try.prog 91 (.int .u64 ((us + 1 : Nat) : Int)) = some (uLit (us + 1))) := uKey (us + 1) (by omega)
  have hk : Hid (keyOf Try.prog kP.tk (kP.enc ky) = some (kP.lit ky)) := keyP ky hok
  -- the first map written
  obtain ⟨w2, r2, o2, t2⟩ := OW.out.drew.store uKeyed Try.underlying89 hlen hu.out (ptrE_some q)
  have k2 := turned_kept t2
  have e1 := k2.cell (w := w1.drew) d1 (by simpa using n1)
  have e2 := k2.cell (w := w1.drew) d2 (by simpa using n1)
  have e3 := k2.cell (w := w1.drew) d3 (by simpa using n1)
  have e0 := k2.cell (w := w1.drew) g0 (by simpa using n5.2.1)
  have e9 := k2.cell (w := w1.drew) g9 (by simpa using n5.2.1)
  have OW3 := hide (ownsMap_kept OW2.out.drew k2 (by simpa using Ne.symm n3))
  have O2 := hide o2
  have K1 := hide k1
  have K2 := hide k2
  have HC := hide hc1
  have HH := hide h
  have HD := hide hD
  have HD2 := hide hD2
  have HB := hide hb
  have HQ := hide hq
  have HKY := hide hky
  have HOK := hide hok
  have HT := hide (And.intro (hown.tidy uKeyed) (hown2.tidy keyedP))
  have HU : Hid (uElem (.int .u64 ((us + 1 : Nat) : Int)) = some (.lit (.int .u64 ((us + 1 : Nat) : Int)), [])) := uElem_mk (us + 1) (by omega)
  have HL := hide hlen
  have HF := hide hfew
  have NE := hide (And.intro n1 (And.intro n2 (And.intro n3 n5)))
  have FN := hide (fun W => findable_any ky W)
  have HW := hide hw1
  generalize hU : ((us + 1 : Nat) : Int) = U at *
  have HE := hide hU.symm
  clear hU
  clear h hD hD2 hown hown2 o2 t2 k1 k2 hc1 hb hq hky hok hlen hfew n1 n2 n3 n4 n5 cf c2 c3 f0 hw1 f9
  go_enter Try.func86, Try.ntmps86
  go_wp2
  rw [← HW.out]
  go_region_held (fun W => W.cell? ⟨p, 2, none⟩ = some (.map (some bh)) ∧ W.cell? ⟨p, 1, none⟩ = some (.int .u64 U)) (go_keep) (fail)
  all_goals
  clear r2
  go_wp2_with (go_at_call 64; refine (FN.out _).mono ?_; rintro x w3 ⟨rfl, b3⟩; have K3 := hide (Kept.of_below (fp := []) b3); have e1' := K3.out.cell e1 (by simp); have e3' := K3.out.cell e3 (by simp); have e0' := K3.out.cell e0 (by simp); have e9' := K3.out.cell e9 (by simp); have OW4 := hide (ownsMap_kept OW3.out K3.out (by simp)); have O3 := hide (ownsMap_kept O2.out K3.out (by simp)); clear b3)
  obtain ⟨w4, r4, o4, t4⟩ := OW4.out.drew.store keyedP Try.underlying90 HL.out hk.out HU.out
  have k4 := hide (turned_kept t4)
  have O4 := hide o4
  have m1 := k4.out.cell (w := w3.drew) e1' (by simpa using NE.out.2.1)
  have m3 := k4.out.cell (w := w3.drew) e3' (by simpa using NE.out.2.1)
  have m0 := k4.out.cell (w := w3.drew) e0' (by simpa using NE.out.2.2.2.2.2.1)
  have m9 := k4.out.cell (w := w3.drew) e9' (by simpa using NE.out.2.2.2.2.2.1)
  clear o4 t4 e1 e3 e0 e9
  go_region_held (fun W => W.cell? ⟨p, 3, none⟩ = some (.map (some bl)) ∧ W.cell? ⟨p, 1, none⟩ = some (.int .u64 U) ∧ W.cell? ⟨q, 0, none⟩ = some (.string ky.1.1) ∧ W.cell? ⟨q, 1, none⟩ = some (.int .i64 ky.1.2)) (go_keep) (fail)
  all_goals
  clear r4
  go_wp2
  go_end0
  obtain ⟨n1, n2, n3, n5⟩ := NE.out
  have kk : Kept [p, bh, bl] w w4 := (((K1.out.mono (fp' := [p, bh, bl]) (by simp)).drew.trans K2.out (Newly.of_sub (fp := [p, bh, bl]) (fp' := [bh]) (by simp))).trans K3.out.drew (Newly.of_sub (by simp))).trans k4.out (Newly.of_sub (fp := [p, bh, bl]) (fp' := [bl]) (by simp))
  have o3 := ownsMap_kept O3.out.drew k4.out (by simpa using n3)
  have hc4 := k4.out.heap (w := w3.drew) (K3.out.heap (K2.out.heap (w := w1.drew) HC.out (by simpa using n1)) (by simp)) (by simpa using n2)
  have hd := HD.out.snoc (e := ⟨us + 1, q, ky, n⟩) uLit_inj uLit_key HT.out.1 (fun y hy => by have := HH.out.up y hy; simp only; omega)
  have hl := HD2.out.snoc (e := ⟨us + 1, q, ky, n⟩) injP litP_key HT.out.2 HKY.out
  have o4 := O4.out
  rw [HE.out] at hc4 o4
  exact ⟨rfl, HH.out.snoc kk rfl HF.out HB.out HQ.out HKY.out HOK.out hc4 o3 hd o4 hl, kk⟩

end
end Go.Proofs.Ytbhjdcoehgajcaa.L.P
