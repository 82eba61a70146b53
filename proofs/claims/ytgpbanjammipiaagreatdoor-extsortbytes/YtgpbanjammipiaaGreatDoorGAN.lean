/-
  Lemma texts, one behind the other: JPop, XAbs, XWr, YRead. No statement of the seat is proved here.
-/
import Derived.Test.YtgpbanjammipiaaGreatDoorGAM
import Derived.Test.YtgpbanjammipiaaGreatDoorGAH
import Derived.Test.YtgpbanjammipiaaGreatDoorGAI
import Derived.Test.YtgpbanjammipiaaGreatDoorGAG
namespace Go.Proofs.YtgpbanjammipiaaGreatDoor
open Go.RowKit

set_option maxRecDepth 100000 in
/-- 'clear(row[n-1:])'. -/
theorem run_clear1 (w : World) (ty : TypeId) (g o c : Nat) (h1 : (w.cell? ⟨g, o, none⟩).isSome = true) (h2 : (w.cell? ⟨g, o + 1, none⟩).isSome = true) (f1 : w.frozen? ⟨g, o, none⟩ = false) (f2 : w.frozen? ⟨g, o + 1, none⟩ = false) :
    (Builtin.clear_ #[22] ty #[.slice (some ⟨g, o, none⟩) 1 c]).run Tryz.prog w = .ok (.tuple #[]) ((w.setCell ⟨g, o, none⟩ (.int .u64 0)).setCell ⟨g, o + 1, none⟩ (.int .u64 0)) := by
  have hv : ∀ w, (zeroValue 52).run Tryz.prog w = .ok (.agg #[.int .u64 0, .int .u64 0]) w := fun _ => rfl
  have hzc : (Builtin.zeroCells (Value.agg #[.int .u64 0, .int .u64 0]).cells 1).toList = [.int .u64 0, .int .u64 0] := by kernel_rfl
  have hst := run_storeCells_cells (P := Tryz.prog) g o [.int .u64 0, .int .u64 0] 0 w (by
    intro j hj
    match j, hj with
    | 0, _ => simpa using h1
    | 1, _ => simpa using h2) (by
    intro j hj
    match j, hj with
    | 0, _ => simpa using f1
    | 1, _ => simpa using f2) (by intro v hv'; simp at hv'; subst hv'; rfl)
  simp only [Nat.add_zero] at hst
  simp [Builtin.clear_, run_underlying Tryz.underlying22, hv, hzc, hst, World.setCells]

section
variable {w w' : World} {p o : Nat} {arr : Array Value} {ty : TypeId} {v : Value} {l : List Rc}

set_option maxRecDepth 100000 in
set_option maxHeartbeats 4000000 in
theorem cut_any {g cap k : Nat} (h : RowR w (.slice (some ⟨g, 0, none⟩) (k + 1) cap) l) (hcap : k + 1 ≤ cap) (hmax : k ≤ 1000000) :
    Calls Tryz.prog 106 #[.slice (some ⟨g, 0, none⟩) (k + 1) cap] w fun e w' => e = .returned (.slice (some ⟨g, 0, none⟩) k cap) ∧ RowR w' (.slice (some ⟨g, 0, none⟩) k cap) (l.take k) ∧ Kept [g] w w' := by
  obtain ⟨n, hn⟩ : ∃ n, n = k + 1 := ⟨_, rfl⟩
  rw [← hn] at h hcap ⊢
  have hl := h.len
  have hw : IntKind.i64.wrap ((n : Int) - 1) = (k : Int) := by rw [i64_small _ (by omega) (by omega)]; omega
  obtain ⟨c1, c2⟩ := h.cell2 k (by omega)
  have z1 := h.frozenAt (k * 2)
  have z2 := h.frozenAt (k * 2 + 1)
  have hkn : (k : Int) ≤ (n : Int) := by omega
  have hkc : (k : Int) ≤ (cap : Int) := by omega
  have hck : ¬ cap - k = 0 := by omega
  have hnk : n - k = 1 := by omega
  have hrun : ∀ ty c, (Builtin.clear_ #[22] ty #[.slice (some ⟨g, k * 2, none⟩) 1 c]).run Tryz.prog w = .ok (.tuple #[]) ((w.setCell ⟨g, k * 2, none⟩ (.int .u64 0)).setCell ⟨g, k * 2 + 1, none⟩ (.int .u64 0)) := fun ty c => run_clear1 w ty g (k * 2) c (by rw [c1]; rfl) (by rw [c2]; rfl) z1 z2
  have H := hide (And.intro h (And.intro hl hn))
  clear h hl hn
  go_enter Tryz.func106, Tryz.ntmps106
  go_wp2
  go_ret
  obtain ⟨h, hl, hn⟩ := H.out
  refine ⟨rfl, ?_, ((Kept.refl _ _).setCell (.inl (by simp)) _).setCell (.inl (by simp)) _⟩
  have q := h.stored k (by omega) (0, 0) (by simp [okR])
  have hsl : (l.set k (0, 0)).length = n := by rw [List.length_set]; exact hl.symm
  rw [← hsl] at q
  have q2 := q.front k (by omega)
  rw [show (l.set k (0, 0)).take k = l.take k by rw [List.take_set_of_le (Nat.le_refl _)]] at q2
  exact q2

set_option maxRecDepth 100000 in
set_option maxHeartbeats 4000000 in
theorem jpeek_none (h : HeapIn w p o arr ty v []) :
    Calls Tryz.prog 105 #[.pointer (some ⟨p, o, none⟩)] w fun e w' => e = .returned (.tuple #[.agg #[.int .u64 0, .int .u64 0], .bool false]) ∧ Kept [] w w' := by
  obtain ⟨c0, c1⟩ := h.cellAt
  have hform : ∃ a cap, v = .slice a 0 cap := by
    rcases h.row.form with ⟨rfl, _⟩ | ⟨g, cap, rfl, _⟩
    · exact ⟨none, 0, rfl⟩
    · exact ⟨_, cap, rfl⟩
  obtain ⟨a, cap, rfl⟩ := hform
  obtain ⟨c0', c1'⟩ := (h.kept (Kept.of_below (fp := []) ((Below.refl _ w).alloc (Nat.le_refl _) (.cells #[.int .u64 0, .int .u64 0] 52))) (by simp) (fun _ _ => by simp)).cellAt
  clear h
  go_enter Tryz.func105, Tryz.ntmps105
  go_wp2
  refine bodyPost_ret (v := .tuple #[.agg #[.int .u64 0, .int .u64 0], .bool false]) (by simp [results, Tryz.results105, go_sem]) rfl ⟨rfl, ?_⟩
  exact (Kept.refl _ _).alloc _

set_option maxRecDepth 100000 in
set_option maxHeartbeats 4000000 in
theorem jpeek_some (h : HeapIn w p o arr ty v l) (h0 : 0 < l.length) (hmax : l.length ≤ 1000000) :
    Calls Tryz.prog 105 #[.pointer (some ⟨p, o, none⟩)] w fun e w' => e = .returned (.tuple #[.agg #[.int .u64 l[0]!.1, .int .u64 l[0]!.2], .bool true]) ∧ Kept [] w w' := by
  obtain ⟨c0, c1⟩ := h.cellAt
  obtain ⟨g, cap, rfl, hcap⟩ := h.row.blk h0
  obtain ⟨x, hx⟩ : ∃ x, x = l[0]! := ⟨_, rfl⟩
  obtain ⟨d1, d2⟩ := h.row.cell2 0 h0
  rw [← hx] at d1 d2 ⊢
  obtain ⟨x1, x2⟩ := x
  simp only [Nat.zero_mul, Nat.zero_add] at d1 d2
  have h0' : (0 : Int) < (l.length : Int) := by omega
  have h' := h.kept (Kept.of_below (fp := []) ((Below.refl _ w).alloc (Nat.le_refl _) (.cells #[.int .u64 0, .int .u64 0] 52))) (by simp) (fun _ _ => by simp)
  obtain ⟨c0', c1'⟩ := h'.cellAt
  obtain ⟨d1', d2'⟩ := h'.row.cell2 0 h0
  rw [← hx] at d1' d2'
  simp only [Nat.zero_mul, Nat.zero_add] at d1' d2'
  clear h h' hx
  obtain ⟨n, hn⟩ : ∃ n, n = l.length := ⟨_, rfl⟩
  rw [← hn] at *
  clear hn
  go_enter Tryz.func105, Tryz.ntmps105
  go_wp2
  refine bodyPost_ret (v := .tuple #[.agg #[.int .u64 x1, .int .u64 x2], .bool true]) (by simp [results, Tryz.results105, go_sem]) rfl ⟨rfl, ?_⟩
  exact (Kept.refl _ _).alloc _

theorem pop_perm (l : List Rc) (k : Nat) (hk : l.length = k + 1) : (l[0]! :: (l.set 0 l[k]!).take k).Perm l := by
  cases l with
  | nil => simp at hk
  | cons x t =>
    simp only [List.length_cons, Nat.add_right_cancel_iff] at hk
    cases k with
    | zero =>
      have : t = [] := List.eq_nil_of_length_eq_zero hk
      subst this
      simp
    | succ j =>
      have hj : j < t.length := by omega
      have e : (x :: t)[j + 1]! = t[j] := by rw [getElem!_pos (x :: t) (j + 1) (by simp; omega)]; simp
      rw [e]
      simp only [List.set_cons_zero, List.take_succ_cons]
      refine List.Perm.cons x ?_
      have ht : t = t.take j ++ [t[j]] := by
        have h1 := List.take_append_getElem hj
        rw [h1, List.take_of_length_le (by omega)]
      have hp : (t[j] :: t.take j).Perm (t.take j ++ [t[j]]) := (List.perm_append_singleton _ _).symm
      rw [← ht] at hp
      exact hp

set_option maxRecDepth 100000 in
set_option maxHeartbeats 4000000 in
theorem jpop_some (h : HeapIn w p o arr ty v l) (h0 : 0 < l.length) (hmax : l.length ≤ 1000000) (hheap : HeapR l) :
    Calls Tryz.prog 80 #[.pointer (some ⟨p, o, none⟩)] w fun e w' => e = .returned (.tuple #[.agg #[.int .u64 l[0]!.1, .int .u64 l[0]!.2], .bool true]) ∧
      ∃ v' l', HeapIn w' p o (arr.setIfInBounds o v') ty v' l' ∧ HeapR l' ∧ (l[0]! :: l').Perm l ∧ Kept (p :: own v) w w' ∧ Newly w (own v) (own v') := by
  obtain ⟨B, hB⟩ : ∃ B, B = w.heap.size := ⟨_, rfl⟩
  obtain ⟨g, cap, rfl, hcap⟩ := h.row.blk h0
  have HTH := hide (And.intro h.things h.odd)
  obtain ⟨k, hk⟩ : ∃ k, l.length = k + 1 := ⟨l.length - 1, by omega⟩
  have hpg : p ≠ g := by have := h.apart; simpa [own, Value.ownBlock] using this
  have hpB : p < B := by rw [hB]; exact (Array.getElem?_eq_some_iff.1 h.cells).1
  have hgB : g < B := by rw [hB]; exact h.row.low g (by simp [own, Value.ownBlock])
  obtain ⟨x, hx⟩ : ∃ x, x = l[0]! := ⟨_, rfl⟩
  obtain ⟨y, hy⟩ : ∃ y, y = l[k]! := ⟨_, rfl⟩
  have hokx : okR x := by rw [hx]; exact h.row.okAt 0 h0
  have hoky : okR y := by rw [hy]; exact h.row.okAt k (by omega)
  have kA : Kept [] w (w.alloc (.cells #[.int .u64 0, .int .u64 0] 52)) := (Kept.refl _ _).alloc _
  have h1 : HeapIn (w.alloc (.cells #[.int .u64 0, .int .u64 0] 52)) p o arr ty _ l := h.kept kA (by simp) (fun _ _ => by simp)
  have PK := hide (jpeek_some h1 h0 hmax)
  rw [← hx] at PK ⊢
  obtain ⟨x1, x2⟩ := x
  obtain ⟨y1, y2⟩ := y
  have HX := hide (And.intro hx (And.intro hy (And.intro hokx (And.intro hoky (And.intro h0 (And.intro hheap hk))))))
  have H1 := hide h1
  have KA := hide kA
  have hw : IntKind.i64.wrap ((l.length : Int) - 1) = (k : Int) := by rw [i64_small _ (by omega) (by omega)]; omega
  have hn0 : (0 : Int) < (l.length : Int) := by omega
  have hkl : k < l.length := by omega
  clear hx hy hokx hoky h h1 kA hheap hk
  go_enter Tryz.func80, Tryz.ntmps80
  go_wp2_with fail
  refine PK.out.mono ?_
  rintro e w2 ⟨rfl, k2⟩
  obtain ⟨w3, hw3⟩ : ∃ w3, w3 = (w2.setCell ⟨w.heap.size, 0, none⟩ (.int .u64 x1)).setCell ⟨w.heap.size, 1, none⟩ (.int .u64 x2) := ⟨_, rfl⟩
  have hbox2 := k2.heap (heap_alloc_new w (.cells #[.int .u64 0, .int .u64 0] 52)) (by simp)
  have hbc1 : w2.cell? ⟨w.heap.size, 0, none⟩ = some (.int .u64 0) := cell_of_heap hbox2 0
  have hbc2 : w2.cell? ⟨w.heap.size, 1, none⟩ = some (.int .u64 0) := cell_of_heap hbox2 1
  have hbf1 : w2.frozen? ⟨w.heap.size, 0, none⟩ = false := frozen_of_heap hbox2 0
  have hbf2 : w2.frozen? ⟨w.heap.size, 1, none⟩ = false := frozen_of_heap hbox2 1
  have hbox3 : w3.heap[w.heap.size]? = some (.cells #[.int .u64 x1, .int .u64 x2] 52 (0, 0)) := by
    rw [hw3]
    exact heap_setCell (heap_setCell hbox2 0 _) 1 _
  have k3 : Kept [w.heap.size] w2 w3 := by rw [hw3]; exact ((Kept.refl _ _).setCell (.inl (by simp)) _).setCell (.inl (by simp)) _
  have h3 : HeapIn w3 p o arr ty (.slice (some ⟨g, 0, none⟩) l.length cap) l := (H1.out.kept k2 (by simp) (fun _ _ => by simp)).kept k3 (by simp; omega) (by simp [own, Value.ownBlock]; omega)
  obtain ⟨c0, c1⟩ := h3.cellAt
  obtain ⟨d1, d2⟩ := h3.row.cell2 k hkl
  obtain ⟨e1, e2⟩ := h3.row.cell2 0 (by omega)
  rw [← HX.out.2.1] at d1 d2
  rw [← HX.out.1] at e1 e2
  simp only [Nat.zero_mul, Nat.zero_add] at d1 d2 e1 e2
  have z1 := h3.row.frozenAt 0
  have z2 := h3.row.frozenAt 1
  have H3 := hide h3
  have HB3 := hide hbox3
  have K3 := hide (And.intro k2 k3)
  clear h3 hbox3 k2 k3 hbox2
  rw [hw3] at c0 c1 d1 d2 e1 e2 z1 z2
  have HW3 := hide hw3
  clear hw3
  go_wp2
  go_region
  all_goals
    rw [← HW3.out]
    generalize hw4 : ((w3.setCell ⟨g, 0, none⟩ (.int .u64 y1)).setCell ⟨g, 1, none⟩ (.int .u64 y2)).drew = w4
    have k4 : Kept [g] w3 w4 := by rw [← hw4]; exact (((Kept.refl _ _).setCell (.inl (by simp)) _).setCell (.inl (by simp)) _).drew
    have r4 : RowR w4 (.slice (some ⟨g, 0, none⟩) l.length cap) (l.set 0 (y1, y2)) := by
      have q := H3.out.row.stored 0 h0 (y1, y2) HX.out.2.2.2.1
      rw [Nat.zero_mul, Nat.zero_add] at q
      rw [← hw4]
      exact q
    clear hw4
    have e4 := k4.heap H3.out.cells (by simpa using hpg)
    have b4 := k4.heap HB3.out (by simp; omega)
    have c4 : w4.cell? ⟨p, o, none⟩ = some (.slice (some ⟨g, 0, none⟩) l.length cap) := (cell_of_heap e4 o).trans HTH.out.1
    have R4 := hide r4
    have K4 := hide k4
    have E4 := hide (And.intro e4 b4)
    have hlk := HX.out.2.2.2.2.2.2
    have CT : Hid (Calls Tryz.prog 106 #[.slice (some ⟨g, 0, none⟩) l.length cap] w4 fun e w' => e = .returned (.slice (some ⟨g, 0, none⟩) k cap) ∧ RowR w' (.slice (some ⟨g, 0, none⟩) k cap) ((l.set 0 (y1, y2)).take k) ∧ Kept [g] w4 w') := by
      show Calls _ _ _ _ _
      rw [hlk] at r4 hcap ⊢
      exact cut_any r4 hcap (by omega)
    clear r4 k4 e4 b4 hlk c0 c1 d1 d2 e1 e2 z1 z2 hbc1 hbc2 hbf1 hbf2
    go_wp2_with fail
    refine CT.out.mono ?_
    rintro e w5 ⟨rfl, r5, k5⟩
    have e5 := k5.heap E4.out.1 (by simpa using hpg)
    have b5 := k5.heap E4.out.2 (by simp; omega)
    have c5 : w5.cell? ⟨p, o, none⟩ = some (.slice (some ⟨g, 0, none⟩) l.length cap) := (cell_of_heap e5 o).trans HTH.out.1
    have f5 : w5.frozen? ⟨p, o, none⟩ = false := frozen_of_heap e5 o
    obtain ⟨w6, hw6⟩ : ∃ w6, w6 = w5.setCell ⟨p, o, none⟩ (.slice (some ⟨g, 0, none⟩) k cap) := ⟨_, rfl⟩
    have k6 : Kept [p] w5 w6 := by rw [hw6]; exact (Kept.refl _ _).setCell (.inl (by simp)) _
    have r6 := r5.kept k6 (by simp [own, Value.ownBlock]; omega)
    have e6 : w6.heap[p]? = some (.cells (arr.setIfInBounds o (.slice (some ⟨g, 0, none⟩) k cap)) ty (0, 0)) := by rw [hw6]; exact heap_setCell e5 o _
    have b6 := k6.heap b5 (by simp; omega)
    have c6 : w6.cell? ⟨p, o, none⟩ = some (.slice (some ⟨g, 0, none⟩) k cap) := (cell_of_heap e6 o).trans (set_same9 HTH.out.1 _)
    have hdn : Down ((l.set 0 (y1, y2)).take k) 0 := by
      have := Down.start HX.out.2.2.2.2.2.1 (y1, y2)
      rw [show l.length - 1 = k by have := HX.out.2.2.2.2.2.2; omega] at this
      exact this
    have SK := hide (sink_any r6 (by simp; omega) hdn)
    have K6 := hide (And.intro k5 k6)
    have E6 := hide (And.intro e6 b6)
    clear r5 r6 k5 k6 e5 e6 b5 b6 hdn
    subst hw6
    go_wp2_with fail
    refine SK.out.mono ?_
    rintro e w7 ⟨rfl, l7, r7, h7, p7, k7⟩
    have e7 := k7.heap E6.out.1 (by simpa using hpg)
    have b7 := k7.heap E6.out.2 (by simp; omega)
    have c7 : w7.cell? ⟨w.heap.size, 0, none⟩ = some (.int .u64 x1) := cell_of_heap b7 0
    have c7' : w7.cell? ⟨w.heap.size, 1, none⟩ = some (.int .u64 x2) := cell_of_heap b7 1
    have f7 : w7.frozen? ⟨w.heap.size, 0, none⟩ = false := frozen_of_heap b7 0
    have f7' : w7.frozen? ⟨w.heap.size, 1, none⟩ = false := frozen_of_heap b7 1
    have H7 := hide (And.intro e7 (And.intro r7 (And.intro h7 (And.intro p7 k7))))
    clear e7 r7 h7 p7 k7 b7
    go_wp2
    refine bodyPost_ret (v := .tuple #[.agg #[.int .u64 x1, .int .u64 x2], .bool true]) (by simp [results, Tryz.results80, go_sem, c7, c7']) rfl ⟨rfl, .slice (some ⟨g, 0, none⟩) k cap, l7, ?_⟩
    obtain ⟨e7, r7, h7, p7, k7⟩ := H7.out
    have k8 : Kept [w.heap.size] w7 ((w7.setCell ⟨w.heap.size, 0, none⟩ (.int .u64 x1)).setCell ⟨w.heap.size, 1, none⟩ (.int .u64 x2)) := ((Kept.refl _ _).setCell (.inl (by simp)) _).setCell (.inl (by simp)) _
    refine ⟨⟨k8.heap e7 (by simp; omega), set_same9 HTH.out.1 _, (set_next9 arr o _).trans HTH.out.2, r7.kept k8 (by simp [own, Value.ownBlock]; omega), by simpa [own, Value.ownBlock] using hpg⟩, h7, ?_, ?_, ?_⟩
    · have e := HX.out
      rw [e.2.1] at p7
      rw [e.1]
      exact (p7.cons _).trans (pop_perm l k e.2.2.2.2.2.2)
    · have hB : ∀ x ∈ [w.heap.size], x ∈ (p :: own (Value.slice (some ⟨g, 0, none⟩) l.length cap)) ∨ w.heap.size ≤ x := fun x hx => by simp at hx; exact .inr (by omega)
      have hg : ∀ x ∈ [g], x ∈ (p :: own (Value.slice (some ⟨g, 0, none⟩) l.length cap)) ∨ w.heap.size ≤ x := fun x hx => by simp at hx; subst hx; exact .inl (by simp [own, Value.ownBlock])
      have hp : ∀ x ∈ [p], x ∈ (p :: own (Value.slice (some ⟨g, 0, none⟩) l.length cap)) ∨ w.heap.size ≤ x := fun x hx => by simp at hx; subst hx; exact .inl (by simp)
      have q1 : Kept (p :: own (Value.slice (some ⟨g, 0, none⟩) l.length cap)) w (w.alloc (.cells #[.int .u64 0, .int .u64 0] 52)) := KA.out.mono (by simp)
      exact ((((((q1.trans K3.out.1 (fun _ hx => by simp at hx)).trans K3.out.2 hB).trans K4.out hg).trans K6.out.1 hg).trans K6.out.2 hp).trans k7 hg).trans k8 hB
    · exact Newly.of_sub (by simp [own, Value.ownBlock])

set_option maxRecDepth 100000 in
set_option maxHeartbeats 4000000 in
theorem jpop_none (h : HeapIn w p o arr ty v []) :
    Calls Tryz.prog 80 #[.pointer (some ⟨p, o, none⟩)] w fun e w' => e = .returned (.tuple #[.agg #[.int .u64 0, .int .u64 0], .bool false]) ∧ Kept [] w w' := by
  have hform : ∃ a cap, v = .slice a 0 cap := by
    rcases h.row.form with ⟨rfl, _⟩ | ⟨g, cap, rfl, _⟩
    · exact ⟨none, 0, rfl⟩
    · exact ⟨_, cap, rfl⟩
  obtain ⟨a, cap, rfl⟩ := hform
  have kA : Kept [] w (w.alloc (.cells #[.int .u64 0, .int .u64 0] 52)) := (Kept.refl _ _).alloc _
  have h1 := h.kept kA (by simp) (fun _ _ => by simp)
  have PK := hide (jpeek_none h1)
  have H1 := hide h1
  have hpB : p < w.heap.size := (Array.getElem?_eq_some_iff.1 h.cells).1
  have HTH := hide (And.intro h.things h.odd)
  clear h h1 kA
  go_enter Tryz.func80, Tryz.ntmps80
  go_wp2_with fail
  refine PK.out.mono ?_
  rintro e w2 ⟨rfl, k2⟩
  have hbox2 := k2.heap (heap_alloc_new w (.cells #[.int .u64 0, .int .u64 0] 52)) (by simp)
  have hbc1 : w2.cell? ⟨w.heap.size, 0, none⟩ = some (.int .u64 0) := cell_of_heap hbox2 0
  have hbc2 : w2.cell? ⟨w.heap.size, 1, none⟩ = some (.int .u64 0) := cell_of_heap hbox2 1
  have hbf1 : w2.frozen? ⟨w.heap.size, 0, none⟩ = false := frozen_of_heap hbox2 0
  have hbf2 : w2.frozen? ⟨w.heap.size, 1, none⟩ = false := frozen_of_heap hbox2 1
  obtain ⟨w3, hw3⟩ : ∃ w3, w3 = (w2.setCell ⟨w.heap.size, 0, none⟩ (.int .u64 0)).setCell ⟨w.heap.size, 1, none⟩ (.int .u64 0) := ⟨_, rfl⟩
  have hbox3 : w3.heap[w.heap.size]? = some (.cells #[.int .u64 0, .int .u64 0] 52 (0, 0)) := by
    rw [hw3]
    exact heap_setCell (heap_setCell hbox2 0 _) 1 _
  have k3 : Kept [w.heap.size] w2 w3 := by rw [hw3]; exact ((Kept.refl _ _).setCell (.inl (by simp)) _).setCell (.inl (by simp)) _
  have e3 := k3.heap (k2.heap H1.out.cells (by simp)) (by simp; omega)
  have c0 : w3.cell? ⟨p, o, none⟩ = some (.slice a 0 cap) := (cell_of_heap e3 o).trans HTH.out.1
  have c1 : w3.cell? ⟨p, o + 1, none⟩ = some (.slice none 0 0) := (cell_of_heap e3 (o + 1)).trans HTH.out.2
  have c2 : w3.cell? ⟨w.heap.size, 0, none⟩ = some (.int .u64 0) := cell_of_heap hbox3 0
  have c3 : w3.cell? ⟨w.heap.size, 1, none⟩ = some (.int .u64 0) := cell_of_heap hbox3 1
  have K3 := hide (And.intro k2 k3)
  have HB3 := hide hbox3
  rw [hw3] at c0 c1 c2 c3
  clear k2 k3 hbox2 hbox3 e3
  subst hw3
  go_wp2
  refine bodyPost_ret (v := .tuple #[.agg #[.int .u64 0, .int .u64 0], .bool false]) (by
    have b5 := heap_setCell (heap_setCell HB3.out 0 (.int .u64 0)) 1 (.int .u64 0)
    have c5 := cell_of_heap b5 0
    have c6 := cell_of_heap b5 1
    simp [results, Tryz.results80, go_sem, c5, c6]) rfl ⟨rfl, ?_⟩
  have hB : ∀ x ∈ [w.heap.size], x ∈ ([] : List Nat) ∨ w.heap.size ≤ x := fun x hx => by simp at hx; exact .inr (by omega)
  have q1 : Kept [] w (w.alloc (.cells #[.int .u64 0, .int .u64 0] 52)) := (Kept.refl _ _).alloc _
  refine (((q1.trans K3.out.1 (fun _ hx => by simp at hx)).trans K3.out.2 hB).setCell (.inr ?_) _).setCell (.inr ?_) _
  · exact Nat.le_refl _
  · exact Nat.le_refl _

end

end Go.Proofs.YtgpbanjammipiaaGreatDoor

namespace Go.Proofs.YtgpbanjammipiaaGreatDoor
open Go.RowKit Go.Maps

/-! ### Files by their names -/

theorem lookA_cons (x : Ab) (l : List Ab) (n : List UInt8) : lookA (x :: l) n = if x.1 = n then some x else lookA l n := by
  unfold lookA
  rw [List.find?_cons]
  by_cases h : x.1 = n
  · rw [if_pos h, show (x.1 == n) = true by simpa using h]
  · rw [if_neg h, show (x.1 == n) = false by simpa using h]

theorem lookA_nil (n : List UInt8) : lookA [] n = none := rfl

theorem lookA_no {l : List Ab} {n : List UInt8} (h : ∀ x ∈ l, x.1 ≠ n) : lookA l n = none := by
  unfold lookA
  rw [List.find?_eq_none]
  intro x hx
  simpa using h x hx

theorem lookA_app (l m : List Ab) (n : List UInt8) : lookA (l ++ m) n = (lookA l n).or (lookA m n) := by
  unfold lookA
  rw [List.find?_append]

theorem lookA_in {l : List Ab} (hd : (l.map (fun x => x.1)).Nodup) {x : Ab} (hx : x ∈ l) : lookA l x.1 = some x := by
  induction l with
  | nil => simp at hx
  | cons y l ih =>
    rw [List.map_cons, List.nodup_cons] at hd
    rw [lookA_cons]
    rcases List.mem_cons.1 hx with rfl | hx
    · rw [if_pos rfl]
    · rw [if_neg (fun e => hd.1 (by rw [e]; exact List.mem_map.2 ⟨x, hx, rfl⟩)), ih hd.2 hx]

theorem lookA_setA (l : List Ab) (y : Ab) (m : List UInt8) : lookA (setA l y) m = if y.1 = m then (lookA l m).map (fun _ => y) else lookA l m := by
  induction l with
  | nil => by_cases h : y.1 = m <;> simp [setA, lookA, h]
  | cons x l ih =>
    have e : setA (x :: l) y = (if x.1 == y.1 then y else x) :: setA l y := rfl
    rw [e, lookA_cons, lookA_cons, ih]
    by_cases h1 : x.1 = y.1
    · rw [if_pos (show (x.1 == y.1) = true by simpa using h1)]
      by_cases h : y.1 = m
      · rw [if_pos h, if_pos h, if_pos (h1.trans h)]; rfl
      · have h2 : ¬ x.1 = m := fun e => h (h1.symm.trans e)
        simp [h, h2]
    · rw [if_neg (show ¬ (x.1 == y.1) = true by simpa using h1)]
      by_cases h : y.1 = m
      · rw [if_pos h, if_neg (fun e => h1 (e.trans h.symm)), if_pos h, if_neg (fun e => h1 (e.trans h.symm))]
      · rw [if_neg h, if_neg h]

theorem lookA_delA9 (l : List Ab) (n m : List UInt8) : lookA (delA l n) m = if n = m then none else lookA l m := by
  induction l with
  | nil => by_cases h : n = m <;> simp [delA, lookA, h]
  | cons x l ih =>
    unfold delA at ih ⊢
    rw [List.filter_cons, lookA_cons]
    by_cases h1 : x.1 = n
    · rw [if_neg (by simpa using h1), ih]
      by_cases h : n = m
      · rw [if_pos h, if_pos h]
      · rw [if_neg h, if_neg h, if_neg (fun e => h (h1.symm.trans e))]
    · rw [if_pos (by simpa using h1), lookA_cons, ih]
      by_cases h : n = m
      · rw [if_pos h, if_pos h, if_neg (fun e => h1 (e.trans h.symm))]
      · rw [if_neg h, if_neg h]

theorem lookA_perm {l m : List Ab} (h : l.Perm m) (hd : (l.map (fun x => x.1)).Nodup) (n : List UInt8) : lookA l n = lookA m n := by
  have hd2 : (m.map (fun x => x.1)).Nodup := (h.map _).nodup_iff.1 hd
  cases e : lookA l n with
  | some x =>
    obtain ⟨h1, h2⟩ := lookA_mem e
    have := lookA_in hd2 (h.mem_iff.1 h1)
    rw [h2] at this
    exact this.symm
  | none =>
    exact (lookA_no fun x hx => lookA_none e x (h.mem_iff.2 hx)).symm

theorem usedB_perm9 {l m : List Ab} (h : l.Perm m) : usedB l = usedB m := by
  induction h with
  | nil => rfl
  | cons x _ ih => rw [usedB_cons, usedB_cons, ih]
  | swap x y l => simp only [usedB_cons]; omega
  | trans _ _ a b => rw [a, b]

theorem sorted_nodup {l : List Ab} (h : l.Pairwise (fun f g => f.1 < g.1)) : (l.map (fun x => x.1)).Nodup := by
  rw [List.Nodup, List.pairwise_map]
  exact h.imp (fun h => lt_ne h)

/-- Two rows of files in order with the same files are one. -/
theorem sorted_ext {l m : List Ab} (hl : l.Pairwise (fun f g => f.1 < g.1)) (hm : m.Pairwise (fun f g => f.1 < g.1)) (h : ∀ n, lookA l n = lookA m n) : l = m := by
  induction l generalizing m with
  | nil =>
    cases m with
    | nil => rfl
    | cons y m =>
      have := h y.1
      rw [lookA_cons, if_pos rfl, lookA_nil] at this
      simp at this
  | cons x l ih =>
    cases m with
    | nil =>
      have := h x.1
      rw [lookA_cons, if_pos rfl, lookA_nil] at this
      simp at this
    | cons y m =>
      have hl' := List.pairwise_cons.1 hl
      have hm' := List.pairwise_cons.1 hm
      have e1 : lookA (y :: m) x.1 = some x := by rw [← h, lookA_cons, if_pos rfl]
      have e2 : lookA (x :: l) y.1 = some y := by rw [h, lookA_cons, if_pos rfl]
      obtain ⟨i1, _⟩ := lookA_mem e1
      obtain ⟨i2, _⟩ := lookA_mem e2
      have hxy : x = y := by
        rcases List.mem_cons.1 i1 with e | i1
        · exact e
        · rcases List.mem_cons.1 i2 with e | i2
          · exact e.symm
          · exact absurd (List.lt_trans (hl'.1 y i2) (hm'.1 x i1)) (List.lt_irrefl _)
      subst hxy
      congr 1
      refine ih hl'.2 hm'.2 (fun n => ?_)
      have := h n
      rw [lookA_cons, lookA_cons] at this
      by_cases hn : x.1 = n
      · rw [lookA_no (fun z hz e => lt_ne (hl'.1 z hz) (hn.trans e.symm)), lookA_no (fun z hz e => lt_ne (hm'.1 z hz) (hn.trans e.symm))]
      · rw [if_neg hn, if_neg hn] at this
        exact this

/-! ### Crashes -/

theorem tear_syn (ks : List Bool) (x : List Int) (k j : Nat) : tearTo ks x x k j = (x, k) := by
  induction j with
  | zero => rfl
  | succ j ih =>
    rw [tearTo, ih]
    have : sameB x x (16 * j) (min (16 * j + 16) x.length) = true := by
      simp [sameB]
      omega
    rw [if_pos this]

theorem torn_synced (ks : List Bool) (l : List Ab) (nm : List UInt8) (c : List Int) (h : lookA l nm = some (nm, c, c)) (k : Nat) : lookA (torn ks l k).1 nm = some (nm, c, c) := by
  induction l generalizing k with
  | nil => simp [lookA] at h
  | cons x r ih =>
    rw [torn, lookA_cons]
    rw [lookA_cons] at h
    dsimp only
    by_cases hx : x.1 = nm
    · rw [if_pos hx] at h ⊢
      simp only [Option.some.injEq] at h
      subst h
      have e : (tearB ks c c k).1 = c := by
        unfold tearB
        rw [tear_syn]
      simp [e]
    · rw [if_neg hx] at h ⊢
      exact ih h _

theorem torn_none (ks : List Bool) (l : List Ab) (nm : List UInt8) (h : lookA l nm = none) (k : Nat) : lookA (torn ks l k).1 nm = none := by
  refine lookA_no fun x hx e => ?_
  have : x.1 ∈ (torn ks l k).1.map (fun x => x.1) := List.mem_map.2 ⟨x, hx, rfl⟩
  rw [torn_names] at this
  obtain ⟨y, hy, e2⟩ := List.mem_map.1 this
  exact lookA_none h y hy (e2.trans e)

/-- A disk that is up beside one that it was: E are the files that were made since; all others are as they were. -/
structure Ext (A0 A : Dsk) (E : List Ab) : Prop where
  up : A.2.down = false
  look : ∀ n, lookA A.1 n = (lookA E n).or (lookA A0.1 n)
  used : A.2.used = A0.2.used + usedB E
  room : A.2.room = A0.2.room
  calm : A0.2.left = 0 → A.2.left = 0 ∧ A.2.keep = A0.2.keep
  apart : (E.map (fun x => x.1)).Nodup
  new : ∀ x ∈ E, lookA A0.1 x.1 = none

/-- A disk that a crash took, beside one that it was: what was synced stays; M: the names that files may have that were made since. -/
structure Cr (A0 A : Dsk) (M : List UInt8 → Prop) (top : Int) : Prop where
  down : A.2.down = true
  left : A.2.left = 0
  keep : A.2.keep = []
  room : A.2.room = A0.2.room
  armed : A0.2.left ≠ 0
  synced : ∀ n c, lookA A0.1 n = some (n, c, c) → lookA A.1 n = some (n, c, c)
  none : ∀ n, ¬ M n → lookA A0.1 n = .none → lookA A.1 n = .none
  used : A.2.used ≤ A0.2.used + top

theorem Cr.mono {A0 A : Dsk} {M M' : List UInt8 → Prop} {top top' : Int} (h : Cr A0 A M top) (hM : ∀ n, M n → M' n) (ht : top ≤ top') : Cr A0 A M' top' :=
  ⟨h.down, h.left, h.keep, h.room, h.armed, h.synced, fun n hn => h.none n (fun e => hn (hM n e)), by have := h.used; omega⟩

theorem Ext.start {A0 : Dsk} (h : A0.2.down = false) : Ext A0 A0 [] := ⟨h, fun n => by rw [lookA_nil]; rfl, by rw [usedB_nil]; omega, rfl, fun h => ⟨h, rfl⟩, by simp, by simp⟩

section
variable {A0 A : Dsk} {E : List Ab} {M : List UInt8 → Prop}

theorem Ext.perm (h : Ext A0 A E) {E' : List Ab} (hp : E.Perm E') : Ext A0 A E' :=
  ⟨h.up, fun n => by rw [h.look, lookA_perm hp h.apart], by rw [h.used, usedB_perm9 hp], h.room, h.calm, (hp.map _).nodup_iff.1 h.apart, fun x hx => h.new x (hp.mem_iff.2 hx)⟩

theorem Ext.here (h : Ext A0 A E) {x : Ab} (hx : x ∈ E) : lookA A.1 x.1 = some x := by
  rw [h.look, lookA_in h.apart hx]; rfl

theorem Ext.old (h : Ext A0 A E) {n : List UInt8} {x : Ab} (hx : lookA A0.1 n = some x) : lookA A.1 n = some x := by
  have : lookA E n = none := by
    cases e : lookA E n with
    | none => rfl
    | some y =>
      obtain ⟨h1, h2⟩ := lookA_mem e
      have := h.new y h1
      rw [h2, hx] at this
      simp at this
  rw [h.look, this, hx]; rfl

theorem Ext.free (h : Ext A0 A E) {n : List UInt8} (hE : ∀ x ∈ E, x.1 ≠ n) (h0 : lookA A0.1 n = none) : lookA A.1 n = none := by
  rw [h.look, lookA_no hE, h0]; rfl

/-- The beginning of an operation. -/
theorem Ext.begin (h : Ext A0 A E) (ho : okA A.1 A.2) (hM : ∀ x ∈ E, M x.1) :
    (beginA A.1 A.2).2.ops = A.2.ops + 1 ∧ ((Ext A0 (beginA A.1 A.2) E ∧ (beginA A.1 A.2).1 = A.1 ∧ (beginA A.1 A.2).2.down = false) ∨ Cr A0 (beginA A.1 A.2) M (usedB E)) := by
  have hl := ho.left
  unfold beginA
  by_cases h0 : A.2.left = 0
  · rw [if_pos h0]
    exact ⟨rfl, .inl ⟨⟨h.up, h.look, h.used, h.room, h.calm, h.apart, h.new⟩, rfl, h.up⟩⟩
  · rw [if_neg h0]
    by_cases h1 : 1 < A.2.left
    · rw [if_pos h1]
      exact ⟨rfl, .inl ⟨⟨h.up, h.look, h.used, h.room, fun e => absurd (h.calm e).1 h0, h.apart, h.new⟩, rfl, h.up⟩⟩
    · rw [if_neg h1]
      have hu := torn_used A.2.keep A.1 0 ho.ok
      have hus := ho.used
      unfold crashA
      rw [if_neg (by simp [h.up])]
      refine ⟨rfl, .inr ⟨rfl, rfl, rfl, h.room, fun e => h0 (h.calm e).1, fun n c hn => ?_, fun n hn h2 => ?_, ?_⟩⟩
      · exact torn_synced _ _ _ _ (h.old hn) 0
      · exact torn_none _ _ _ (h.free (n := n) (fun x hx e => hn (by rw [← e]; exact hM x hx)) h2) 0
      · dsimp only
        rw [h.used] at hus
        omega

theorem Ext.errA (h : Ext A0 A E) {n : List UInt8} {x : Ab} (hx : lookA A.1 n = some x) : errA A n = none := by
  unfold Go.Proofs.YtgpbanjammipiaaGreatDoor.errA
  rw [if_neg (by simp [h.up]), hx]

theorem down_errA {A : Dsk} (h : A.2.down = true) (n : List UInt8) : Go.Proofs.YtgpbanjammipiaaGreatDoor.errA A n = some 7 := by
  unfold Go.Proofs.YtgpbanjammipiaaGreatDoor.errA
  rw [if_pos h]

/-- A file is made. -/
theorem Ext.create (h : Ext A0 A E) (ho : okA A.1 A.2) (hM : ∀ x ∈ E, M x.1) {n : List UInt8} (hm : mayB n = true) (hE : ∀ x ∈ E, x.1 ≠ n) (h0 : lookA A0.1 n = none) :
    (createA (beginA A.1 A.2) n).2.2.ops = A.2.ops + 1 ∧
    (((createA (beginA A.1 A.2) n).1 = 0 ∧ Ext A0 (createA (beginA A.1 A.2) n).2 ((n, [], []) :: E)) ∨ ((createA (beginA A.1 A.2) n).1 = 7 ∧ Cr A0 (createA (beginA A.1 A.2) n).2 M (usedB E))) := by
  obtain ⟨ops, h⟩ := h.begin (M := M) ho hM
  refine ⟨by rw [createA_ops]; exact ops, ?_⟩
  generalize beginA A.1 A.2 = B at h ⊢
  clear ops
  rcases h with ⟨h, _, _⟩ | h
  · have e := h.free hE h0
    refine .inl ?_
    have e2 : createA B n = (0, (insA B.1 (n, [], []), B.2)) := by
      unfold createA
      rw [if_neg (by simp [h.up]), if_neg (by simp [hm]), e]
    rw [e2]
    refine ⟨rfl, h.up, fun m => ?_, ?_, h.room, h.calm, ?_, ?_⟩
    · rw [lookA_cons]
      by_cases hm : n = m
      · subst hm
        rw [if_pos rfl]
        exact lookA_ins B.1 (n, [], []) e
      · rw [if_neg hm]
        exact (lookA_insO B.1 (n, [], []) m hm).trans (h.look m)
    · rw [usedB_cons]
      have : sec ([] : List Int).length = 0 := rfl
      rw [this]
      have := h.used
      dsimp only at this ⊢
      omega
    · rw [List.map_cons, List.nodup_cons]
      refine ⟨fun hh => ?_, h.apart⟩
      obtain ⟨x, hx, e⟩ := List.mem_map.1 hh
      exact hE x hx e
    · intro x hx
      rcases List.mem_cons.1 hx with rfl | hx
      · exact h0
      · exact h.new x hx
  · refine .inr ?_
    have e2 : createA B n = (7, B) := by
      unfold createA
      rw [if_pos h.down]
    rw [e2]
    exact ⟨rfl, h⟩

/-- Another cell of a file that was made. -/
theorem Ext.turn {B : Dsk} {n : List UInt8} {F S F' S' : List Int} (h : Ext A0 B ((n, F, S) :: E)) : Ext A0 (setA B.1 (n, F', S'), { B.2 with used := B.2.used + (sec F'.length - sec F.length) }) ((n, F', S') :: E) := by
  have hin := h.here (x := (n, F, S)) (by simp)
  refine ⟨h.up, fun m => ?_, ?_, h.room, h.calm, by simpa using h.apart, fun x hx => ?_⟩
  · rw [lookA_setA, lookA_cons]
    by_cases hm : n = m
    · subst hm
      dsimp only at hin ⊢
      rw [if_pos rfl, if_pos rfl, hin]
      rfl
    · dsimp only
      rw [if_neg hm, if_neg hm, h.look, lookA_cons]
      dsimp only
      rw [if_neg hm]
  · have := h.used
    rw [usedB_cons] at this ⊢
    dsimp only at this ⊢
    omega
  · rcases List.mem_cons.1 hx with rfl | hx
    · exact h.new (n, F, S) (by simp)
    · exact h.new x (by simp [hx])

/-- Bytes are appended to a file that was made. -/
theorem Ext.append {n : List UInt8} {F S : List Int} (h : Ext A0 A ((n, F, S) :: E)) (ho : okA A.1 A.2) (hM : ∀ x ∈ (n, F, S) :: E, M x.1) (cs : List Int) :
    (appendA (beginA A.1 A.2) n cs).2.2.ops = A.2.ops + 1 ∧
    (((appendA (beginA A.1 A.2) n cs).1 = 0 ∧ Ext A0 (appendA (beginA A.1 A.2) n cs).2 ((n, F ++ cs, S) :: E)) ∨
     ((appendA (beginA A.1 A.2) n cs).1 = 6 ∧ Ext A0 (appendA (beginA A.1 A.2) n cs).2 ((n, F, S) :: E) ∧ A0.2.room - A0.2.used < sec (F ++ cs).length + usedB E) ∨
     ((appendA (beginA A.1 A.2) n cs).1 = 7 ∧ Cr A0 (appendA (beginA A.1 A.2) n cs).2 M (sec F.length + usedB E))) := by
  obtain ⟨ops, h⟩ := h.begin (M := M) ho hM
  refine ⟨by rw [appendA_ops]; exact ops, ?_⟩
  generalize beginA A.1 A.2 = B at h ⊢
  clear ops
  rcases h with ⟨h, _, _⟩ | h
  · have hin := h.here (x := (n, F, S)) (by simp)
    dsimp only at hin
    have hus := h.used
    have hro := h.room
    rw [usedB_cons] at hus
    dsimp only at hus
    by_cases hf : B.2.room - B.2.used < sec (F ++ cs).length - sec F.length
    · refine .inr (.inl ?_)
      have e2 : appendA B n cs = (6, B) := by
        unfold appendA
        rw [h.errA hin]
        dsimp only
        rw [hin]
        dsimp only
        unfold writeA
        rw [if_neg (by dsimp only; omega)]
        simp only [Int.toNat_natCast, moreA_end]
        rw [if_pos hf]
      rw [e2]
      exact ⟨rfl, h, by omega⟩
    · refine .inl ?_
      have e2 : appendA B n cs = (0, (setA B.1 (n, F ++ cs, S), { B.2 with used := B.2.used + (sec (F ++ cs).length - sec F.length) })) := by
        unfold appendA
        rw [h.errA hin]
        dsimp only
        rw [hin]
        dsimp only
        unfold writeA
        rw [if_neg (by dsimp only; omega)]
        simp only [Int.toNat_natCast, moreA_end, putA_end]
        rw [if_neg hf]
      rw [e2]
      exact ⟨rfl, h.turn⟩
  · refine .inr (.inr ?_)
    have e2 : appendA B n cs = (7, B) := by
      unfold appendA
      rw [down_errA h.down]
    rw [e2, show sec F.length + usedB E = usedB ((n, F, S) :: E) from (usedB_cons E (n, F, S)).symm]
    exact ⟨rfl, h⟩

/-- A file that was made is synced. -/
theorem Ext.sync {n : List UInt8} {F S : List Int} (h : Ext A0 A ((n, F, S) :: E)) (ho : okA A.1 A.2) (hM : ∀ x ∈ (n, F, S) :: E, M x.1) :
    (syncW (beginA A.1 A.2) n).2.2.ops = A.2.ops + 1 ∧
    (((syncW (beginA A.1 A.2) n).1 = 0 ∧ Ext A0 (syncW (beginA A.1 A.2) n).2 ((n, F, F) :: E)) ∨
     ((syncW (beginA A.1 A.2) n).1 = 7 ∧ Cr A0 (syncW (beginA A.1 A.2) n).2 M (sec F.length + usedB E))) := by
  obtain ⟨ops, h⟩ := h.begin (M := M) ho hM
  have hops : ∀ B : Dsk, (syncW B n).2.2.ops = B.2.ops := fun B => by
    unfold syncW
    split
    · rfl
    · split <;> rfl
  refine ⟨by rw [hops]; exact ops, ?_⟩
  generalize beginA A.1 A.2 = B at h ⊢
  clear ops
  rcases h with ⟨h, _, _⟩ | h
  · have hin := h.here (x := (n, F, S)) (by simp)
    dsimp only at hin
    refine .inl ?_
    have e2 : syncW B n = (0, (setA B.1 (n, F, F), B.2)) := by
      unfold syncW
      rw [h.errA hin]
      dsimp only
      rw [hin]
    rw [e2]
    have := h.turn (F' := F) (S' := F)
    rw [show B.2.used + (sec F.length - sec F.length) = B.2.used by omega] at this
    exact ⟨rfl, this⟩
  · refine .inr ?_
    have e2 : syncW B n = (7, B) := by
      unfold syncW
      rw [down_errA h.down]
    rw [e2, show sec F.length + usedB E = usedB ((n, F, S) :: E) from (usedB_cons E (n, F, S)).symm]
    exact ⟨rfl, h⟩

/-- A file that was made goes. -/
theorem Ext.remove {x : Ab} (h : Ext A0 A (x :: E)) : Ext A0 (removeA A x) E := by
  have hap := h.apart
  rw [List.map_cons, List.nodup_cons] at hap
  refine ⟨h.up, fun m => ?_, ?_, h.room, h.calm, hap.2, fun y hy => h.new y (by simp [hy])⟩
  · show lookA (delA A.1 x.1) m = _
    rw [lookA_delA9]
    by_cases hm : x.1 = m
    · subst hm
      rw [if_pos rfl, h.new x (by simp), lookA_no (fun y hy e => hap.1 (List.mem_map.2 ⟨y, hy, e⟩))]
      rfl
    · rw [if_neg hm, h.look, lookA_cons, if_neg hm]
  · have := h.used
    rw [usedB_cons] at this
    show A.2.used - sec x.2.1.length = _
    omega

/-- All that was made has gone. -/
theorem Ext.nil_eq (h : Ext A0 A []) (hs0 : A0.1.Pairwise (fun f g => f.1 < g.1)) (hs : A.1.Pairwise (fun f g => f.1 < g.1)) : A.1 = A0.1 ∧ A.2.used = A0.2.used := by
  refine ⟨sorted_ext hs hs0 (fun n => by rw [h.look, lookA_nil]; rfl), ?_⟩
  rw [h.used, usedB_nil]; omega

end

end Go.Proofs.YtgpbanjammipiaaGreatDoor

namespace Go.Proofs.YtgpbanjammipiaaGreatDoor
open Go.RowKit Go.Maps

theorem crashA_sorted9 {ks : List Bool} {l : List Ab} {s : Ds} (h : l.Pairwise (fun f g => f.1 < g.1)) : (crashA ks l s).1.Pairwise (fun f g => f.1 < g.1) := by
  unfold crashA
  split
  · exact h
  · have h1 : (l.map (fun x => x.1)).Pairwise (fun a b => a < b) := List.pairwise_map.2 h
    rw [← torn_names ks l 0] at h1
    exact List.pairwise_map.1 h1

theorem beginA_sorted9 {l : List Ab} {s : Ds} (h : l.Pairwise (fun f g => f.1 < g.1)) : (beginA l s).1.Pairwise (fun f g => f.1 < g.1) := by
  unfold beginA
  split
  · exact h
  · split
    · exact h
    · exact crashA_sorted9 h

theorem appendA_ok9 {A : Dsk} (h : okA A.1 A.2) (hs : A.1.Pairwise (fun f g => f.1 < g.1)) (n : List UInt8) (cs : List Int) : okA (appendA A n cs).2.1 (appendA A n cs).2.2 := by
  unfold appendA
  split
  · exact h
  · split
    · rename_i x hx
      exact writeA_ok h hs hx _ cs
    · exact h

theorem flushW_ok {A : Dsk} (h : okA A.1 A.2) (hs : A.1.Pairwise (fun f g => f.1 < g.1)) (n : List UInt8) (t : List Int) : okA (flushW A n t).2.1 (flushW A n t).2.2 :=
  appendA_ok9 (beginA_ok h) (beginA_sorted9 hs) n (blkB t)

section
variable {A0 A : Dsk} {E : List Ab} {M : List UInt8 → Prop} {n : List UInt8} {F : List Int} {ts : List Rc}

/-- A record is put: what is left of the disk, what the file has then. -/
theorem Ext.put (h : Ext A0 A ((n, F, []) :: E)) (ho : okA A.1 A.2) (hM : ∀ x ∈ (n, F, []) :: E, M x.1) (hts : ts.length < 50) (x : Rc) {k : Int} {B : Dsk} {t : List Int} (hB : putW A n (textB ts) x = (k, B, t)) :
    B.2.ops ≤ A.2.ops + 1 ∧ A.2.ops ≤ B.2.ops ∧
    ((k = 0 ∧ ∃ F' ts', Ext A0 B ((n, F', []) :: E) ∧ t = textB ts' ∧ ts'.length < 50 ∧ ∀ l, F' ++ fileB (ts' ++ l) = F ++ fileB (ts ++ x :: l)) ∨
     (k = 6 ∧ Ext A0 B ((n, F, []) :: E) ∧ A0.2.room - A0.2.used < sec (F ++ fileB (ts ++ [x])).length + usedB E) ∨
     (k = 7 ∧ Cr A0 B M (sec F.length + usedB E))) := by
  have hops := putW_ops A n (textB ts) x
  rw [hB] at hops
  refine ⟨hops.1, hops.2, ?_⟩
  unfold putW at hB
  rw [← textB_snoc, textB_length, List.length_append, List.length_singleton] at hB
  by_cases h1 : ts.length + 1 < 50
  · rw [if_pos (by omega)] at hB
    simp only [Prod.mk.injEq] at hB
    obtain ⟨rfl, rfl, rfl⟩ := hB
    exact .inl ⟨rfl, F, ts ++ [x], h, rfl, by simpa using h1, fun l => by simp⟩
  · rw [if_neg (by omega)] at hB
    have ef : ∀ l, fileB (ts ++ x :: l) = blkB (textB (ts ++ [x])) ++ fileB l := fun l => by
      rw [show ts ++ x :: l = (ts ++ [x]) ++ l by simp]
      exact fileB_full _ l (by rw [List.length_append, List.length_singleton]; omega)
    have ap := h.append ho hM (blkB (textB (ts ++ [x])))
    simp only [Prod.mk.injEq] at hB
    obtain ⟨rfl, rfl, rfl⟩ := hB
    unfold flushW
    rcases ap.2 with ⟨e1, e2⟩ | ⟨e1, e2, e3⟩ | ⟨e1, e2⟩
    · refine .inl ⟨e1, _, [], e2, rfl, by simp, fun l => ?_⟩
      rw [ef, List.nil_append, List.append_assoc]
    · refine .inr (.inl ⟨e1, e2, ?_⟩)
      have := ef []
      rw [fileB_nil, List.append_nil] at this
      rw [this]
      exact e3
    · exact .inr (.inr ⟨e1, e2⟩)

/-- The end of a writer. -/
theorem Ext.close (h : Ext A0 A ((n, F, []) :: E)) (ho : okA A.1 A.2) (hs : A.1.Pairwise (fun f g => f.1 < g.1)) (hM : ∀ x ∈ (n, F, []) :: E, M x.1) (hts : ts.length < 50) {k : Int} {B : Dsk} (hB : closeW A n (textB ts) = (k, B)) :
    B.2.ops ≤ A.2.ops + 2 ∧ A.2.ops ≤ B.2.ops ∧
    ((k = 0 ∧ Ext A0 B ((n, F ++ fileB ts, F ++ fileB ts) :: E)) ∨
     (k = 6 ∧ Ext A0 B ((n, F, []) :: E) ∧ A0.2.room - A0.2.used < sec (F ++ fileB ts).length + usedB E) ∨
     (k = 7 ∧ Cr A0 B M (sec (F ++ fileB ts).length + usedB E))) := by
  unfold closeW at hB
  have hle : sec F.length ≤ sec (F ++ fileB ts).length := sec_le_append F _
  by_cases h0 : ts = []
  · subst h0
    rw [if_pos (by rfl)] at hB
    have sy := h.sync ho hM
    rw [hB] at sy
    obtain ⟨s1, s2⟩ := sy
    dsimp only at s1 s2
    refine ⟨by omega, by omega, ?_⟩
    rw [fileB_nil, List.append_nil]
    rcases s2 with ⟨e1, e2⟩ | ⟨e1, e2⟩
    · exact .inl ⟨e1, e2⟩
    · exact .inr (.inr ⟨e1, e2⟩)
  · have hne : textB ts ≠ [] := by
      intro e
      have := congrArg List.length e
      rw [textB_length] at this
      have h0 := List.length_pos_iff.2 h0
      simp at this
      omega
    rw [if_neg hne] at hB
    have hf := fileB_short ts h0 (by omega)
    rw [hf] at hle ⊢
    have ap := h.append ho hM (blkB (textB ts))
    have hok := flushW_ok ho hs n (textB ts)
    have efl : appendA (beginA A.1 A.2) n (blkB (textB ts)) = flushW A n (textB ts) := rfl
    rw [efl] at ap
    obtain ⟨p1, p2⟩ := ap
    rcases p2 with ⟨e1, e2⟩ | ⟨e1, e2, e3⟩ | ⟨e1, e2⟩
    · rw [if_pos e1] at hB
      have sy := e2.sync (M := M) hok (fun x hx => by
        rcases List.mem_cons.1 hx with rfl | hx
        · exact hM (n, F, []) (by simp)
        · exact hM x (by simp [hx]))
      rw [hB] at sy
      obtain ⟨s1, s2⟩ := sy
      dsimp only at s1 s2
      refine ⟨by omega, by omega, ?_⟩
      rcases s2 with ⟨e3, e4⟩ | ⟨e3, e4⟩
      · exact .inl ⟨e3, e4⟩
      · exact .inr (.inr ⟨e3, e4⟩)
    · rw [if_neg (by omega)] at hB
      rw [hB] at e1 e2 p1
      exact ⟨by dsimp only at p1; omega, by dsimp only at p1; omega, .inr (.inl ⟨e1, e2, e3⟩)⟩
    · rw [if_neg (by omega)] at hB
      rw [hB] at e1 e2 p1
      exact ⟨by dsimp only at p1; omega, by dsimp only at p1; omega, .inr (.inr ⟨e1, e2.mono (fun _ h => h) (by omega)⟩)⟩
end

end Go.Proofs.YtgpbanjammipiaaGreatDoor

namespace Go.Proofs.YtgpbanjammipiaaGreatDoor
open Go.RowKit Go.Maps

/-- A disk, and a reader over it, of a file that has the bytes c and, perhaps, more: fd the disk's blocks, q the reader's, tv the slice of its text. -/
structure RkA (w : World) (fd : List Nat) (tv : Value) (p q : Nat) (A : Dsk) (nm : ByteArray) (c : List Int) (st : Rst) : Prop where
  disk : Dk w fd p A.1 A.2
  file : A.2.down = false → ∃ x, lookA A.1 nm.data.toList = some x ∧ c <+: x.2.1
  cells : w.heap[q]? = some (rcells p nm c.length st.at_ tv st.short st.err)
  text : IsB w tv st.text
  at_le : st.at_ ≤ c.length
  len : c.length ≤ 1000000000
  qfd : q ∉ fd
  tfd : st.text ≠ [] → ∀ x ∈ own tv, x ∉ fd
  qt : st.text ≠ [] → q ∉ own tv

section
variable {w w' : World} {fd : List Nat} {tv : Value} {p q : Nat} {A : Dsk} {nm : ByteArray} {c : List Int} {st : Rst}

theorem RkA.lt (h : RkA w fd tv p q A nm c st) : ∀ x ∈ rfp fd q tv st.text, x < w.heap.size := fun x hx => by
  rcases rfp_mem.1 hx with hx | rfl | ⟨h0, hx⟩
  · exact h.disk.lt x hx
  · exact heap_lt h.cells
  · exact h.text.lt h0 x hx

theorem RkA.kept {fp : List Nat} (h : RkA w fd tv p q A nm c st) (hk : Kept fp w w') (hf : ∀ x ∈ rfp fd q tv st.text, x ∉ fp) : RkA w' fd tv p q A nm c st :=
  ⟨h.disk.kept hk (fun x hx => hf x (rfp_mem.2 (.inl hx))), h.file, hk.heap9 h.cells (hf q (rfp_mem.2 (.inr (.inl rfl)))), h.text.kept hk (fun h0 x hx => hf x (rfp_mem.2 (.inr (.inr ⟨h0, hx⟩)))), h.at_le, h.len, h.qfd, h.tfd, h.qt⟩

theorem RkA.below (h : RkA w fd tv p q A nm c st) (hb : Below w.heap.size w w') : RkA w' fd tv p q A nm c st := h.kept (fp := []) (Kept.of_below hb) (by simp)

theorem RkA.cellAt (h : RkA w fd tv p q A nm c st) : w.cell? ⟨q, 0, none⟩ = some (.pointer (some ⟨p, 0, none⟩)) ∧ w.cell? ⟨q, 1, none⟩ = some (.string nm) ∧ w.cell? ⟨q, 2, none⟩ = some (.int .i64 (c.length : Int)) ∧ w.cell? ⟨q, 3, none⟩ = some (.int .i64 (st.at_ : Int)) ∧
    w.cell? ⟨q, 4, none⟩ = some tv ∧ w.cell? ⟨q, 5, none⟩ = some (.bool st.short) ∧ w.cell? ⟨q, 6, none⟩ = some (.int .i64 st.err) ∧ ∀ o, w.frozen? ⟨q, o, none⟩ = false :=
  ⟨(cell_of_heap h.cells 0).trans rfl, (cell_of_heap h.cells 1).trans rfl, (cell_of_heap h.cells 2).trans rfl, (cell_of_heap h.cells 3).trans rfl, (cell_of_heap h.cells 4).trans rfl, (cell_of_heap h.cells 5).trans rfl, (cell_of_heap h.cells 6).trans rfl, fun o => frozen_of_heap h.cells o⟩

/-- An operation of the disk that reads. -/
theorem RkA.disk_op {B : Dsk} {fd' : List Nat} (h : RkA w fd tv p q A nm c st) (hB : B.2.down = false → A.2.down = false ∧ B.1 = A.1) (d : Dk w' fd' p B.1 B.2) (hk : Kept fd w w') (n : Newly w fd fd') : RkA w' fd' tv p q B nm c st ∧ Kept (rfp fd q tv st.text) w w' ∧ Newly w (rfp fd q tv st.text) (rfp fd' q tv st.text) := by
  have hq := heap_lt h.cells
  refine ⟨⟨d, fun e => by rw [(hB e).2]; exact h.file (hB e).1, hk.heap9 h.cells h.qfd, h.text.kept hk h.tfd, h.at_le, h.len, fun e => ?_, fun h0 x hx e => ?_, h.qt⟩, hk.mono (fun x hx => rfp_mem.2 (.inl hx)), fun x hx => ?_⟩
  · rcases n q e with e | e
    · exact h.qfd e
    · omega
  · rcases n x e with e | e
    · exact h.tfd h0 x hx e
    · have := h.text.lt h0 x hx; omega
  · rcases rfp_mem.1 hx with hx | hx
    · exact (n x hx).imp (fun e => rfp_mem.2 (.inl e)) id
    · exact .inl (rfp_mem.2 (.inr hx))

/-- Another state of the reader. -/
theorem RkA.turn (h : RkA w fd tv p q A nm c st) {tv' : Value} {st' : Rst} (hk : Kept [q] w w') (hc : w'.heap[q]? = some (rcells p nm c.length st'.at_ tv' st'.short st'.err)) (ht : IsB w tv' st'.text) (ha : st'.at_ ≤ c.length)
    (hn : st'.text ≠ [] → ∀ x ∈ own tv', x ∉ fd ∧ x ≠ q) : RkA w' fd tv' p q A nm c st' ∧ Kept (rfp fd q tv st.text) w w' :=
  ⟨⟨h.disk.kept hk (fun x hx e => by simp only [List.mem_singleton] at e; subst e; exact h.qfd hx), h.file, hc, ht.kept hk (fun h0 x hx e => by simp only [List.mem_singleton] at e; exact (hn h0 x hx).2 e), ha, h.len, h.qfd, fun h0 x hx => (hn h0 x hx).1, fun h0 e => (hn h0 q e).2 rfl⟩,
    hk.mono (fun x hx => rfp_mem.2 (.inr (.inl (by simpa using hx))))⟩

end

/-! ### decode, next -/

/-- The beginning of an operation. -/
def bg (A : Dsk) : Dsk := beginA A.1 A.2

theorem bg_up {A : Dsk} (_ : A.2.down = false) (hb : (bg A).2.down = false) : (bg A).1 = A.1 := by
  unfold bg beginA at hb ⊢
  split
  · rfl
  · split
    · rfl
    · rename_i h1 h2
      rw [if_neg h1, if_neg h2] at hb
      unfold crashA at hb ⊢
      split
      · rfl
      · rename_i h3
        rw [if_neg h3] at hb
        simp at hb

theorem bg_ops (A : Dsk) : (bg A).2.ops = A.2.ops + 1 := beginA_ops A.1 A.2

/-- What decode and next leave: the text, how many bytes the block has, the error. -/
def NextX (w : World) (fd : List Nat) (tv : Value) (p q : Nat) (nm : ByteArray) (c : List Int) (st : Rst) (B : Dsk) (D : List Int × Nat × Int) (e : Ending) (w' : World) : Prop :=
  ∃ u fd', e = .returned (.tuple #[u, .int .i64 D.2.1, .int .i64 D.2.2]) ∧ IsB w' u D.1 ∧ RkA w' fd' tv p q B nm c st ∧ Kept (rfp fd q tv st.text) w w' ∧ Newly w (rfp fd q tv st.text) (rfp fd' q tv st.text) ∧ ∀ x ∈ own u, w.heap.size ≤ x ∧ x ∉ rfp fd' q tv st.text

section
variable {w : World} {fd : List Nat} {tv : Value} {p q : Nat} {A : Dsk} {nm : ByteArray} {c : List Int} {st : Rst}

set_option maxRecDepth 100000 in
set_option maxHeartbeats 4000000 in
theorem rdecode_up (h : RkA w fd tv p q A nm c st) (hup : A.2.down = false) (hbg : (bg A).2.down = false) (hk : A.2.ops ≤ 999999) (hnm : nm.size ≤ maxLen) (m : Nat) (hm : m ≤ 1006) :
    Calls Tryz.prog 119 #[.pointer (some ⟨q, 0, none⟩), .int .i64 (m : Int)] w (NextX w fd tv p q nm c st (bg A) (decB ((c.drop st.at_).take m))) := by
  obtain ⟨c0, c1, c2, c3, c4, c5, c6, c7⟩ := h.cellAt
  obtain ⟨x, hx, hpre⟩ := h.file hup
  have hBG := bg_up hup hbg
  obtain ⟨N, hN⟩ : ∃ N, N = c.length := ⟨_, rfl⟩
  obtain ⟨a, ha⟩ : ∃ a, a = st.at_ := ⟨_, rfl⟩
  have haN : a ≤ N := by rw [ha, hN]; exact h.at_le
  have hN2 : N ≤ 1000000000 := by rw [hN]; exact h.len
  obtain ⟨r, hr⟩ : ∃ r, r = min m (N - a) := ⟨_, rfl⟩
  have hpl := hpre.length_le
  have RD := fun (W : World) (hW : Below w.heap.size w W) => (h.disk.below hW).read (by omega) nm hnm (x := x) (by show errA (bg A) _ = none; unfold errA; rw [if_neg (by simp [hbg]), hBG, hx]) (by show lookA (bg A).1 _ = _; rw [hBG]; exact hx) a r (by omega)
  rw [prefix_take hpre a r (by omega)] at RD
  have hcr : (c.drop a).take r = (c.drop a).take m := by
    rw [List.take_eq_take_iff, List.length_drop]
    omega
  rw [hcr] at RD
  have hmin : ∀ (ts : Array TypeId) (t : TypeId) (W : World), (Builtin.min_ ts t #[.int .i64 (m : Int), .int .i64 ((N : Int) - (a : Int))]).run Tryz.prog W = .ok (.int .i64 (r : Int)) W := fun ts t W => by
    have := min_len m (N - a) ((N : Int) - (a : Int)) (by omega) ts t W
    rw [← hr] at this
    exact this
  have hsub : IntKind.i64.wrap ((N : Int) - (a : Int)) = (N : Int) - (a : Int) := i64_small _ (by omega) (by omega)
  have HR := hide RD
  have HUP := hide hup
  have HBG := hide hBG
  have H := hide h
  have HN := hide hN
  have HA := hide ha
  have HML : Hid (((c.drop a).take m).length ≤ 1099511627776) := by show _ ≤ _; rw [List.length_take]; omega
  rw [← hN] at c2
  rw [← ha] at c3 ⊢
  generalize (c.drop a).take m = bs at HR HML ⊢
  clear h hx hpre hcr hr hN ha RD hpl hup hbg hBG
  have c0' : w.drew.cell? ⟨q, 0, none⟩ = some (.pointer (some ⟨p, 0, none⟩)) := c0
  have c1' : w.drew.cell? ⟨q, 1, none⟩ = some (.string nm) := c1
  have c2' : w.drew.cell? ⟨q, 2, none⟩ = some (.int .i64 (N : Int)) := c2
  have c3' : w.drew.cell? ⟨q, 3, none⟩ = some (.int .i64 (a : Int)) := c3
  clear c0 c1 c2 c3 c4 c5 c6
  go_enter Tryz.func119, Tryz.ntmps119
  go_wp2_with fail
  go_region_held (fun W => W.cell? ⟨q, 0, none⟩ = some (.pointer (some ⟨p, 0, none⟩)) ∧ W.cell? ⟨q, 1, none⟩ = some (.string nm) ∧ W.cell? ⟨q, 2, none⟩ = some (.int .i64 (N : Int)) ∧ W.cell? ⟨q, 3, none⟩ = some (.int .i64 (a : Int))) (exact ⟨by assumption, by assumption, by assumption, by assumption⟩)
    (first | (go_at_call 147; refine (HR.out _ ((Below.refl _ w).drew)).mono ?_; rintro e w2 ⟨v2, rfl, r2, fd2, d2, k2, n2, y2⟩; obtain ⟨E2, K2, N2⟩ := (H.out.below ((Below.refl _ w).drew)).disk_op (B := bg A) (fun _ => ⟨HUP.out, HBG.out⟩) d2 k2 n2; obtain ⟨f0, f1, f2, f3, _⟩ := E2.cellAt; rw [← HN.out] at f2; rw [← HA.out] at f3; have HE2 := hide E2; have HK2 := hide K2; have HN2 := hide N2; have HR2 := hide r2; have HY2 := hide y2; clear d2 k2 n2 r2 y2 E2 K2 N2))
  have DC := hide (decode_any v2 bs w2 HR2.out.isB HML.out)
  go_wp2_with fail
  refine DC.out.mono ?_
  rintro e w3 ⟨u3, rfl, i3, b3, n3⟩
  go_wp2
  go_ret3
  have k2 : Kept (rfp fd q tv st.text) w w2 := ⟨HK2.out.os, HK2.out.tape, HK2.out.output, HK2.out.size, HK2.out.block⟩
  have n2 : Newly w (rfp fd q tv st.text) (rfp fd2 q tv st.text) := HN2.out
  have hlt := HE2.out.lt
  refine ⟨u3, fd2, rfl, i3, HE2.out.below b3, k2.trans (Kept.of_below (fp := []) b3) (fun _ hx => by simp at hx), n2, fun x hx => ?_⟩
  have h1 := n3 x hx
  exact ⟨Nat.le_trans k2.size h1, fun e => by have := hlt x e; omega⟩

set_option maxRecDepth 100000 in
set_option maxHeartbeats 4000000 in
theorem rdecode_down (h : RkA w fd tv p q A nm c st) (hbg : (bg A).2.down = true) (hk : A.2.ops ≤ 999999) (hnm : nm.size ≤ maxLen) (m : Nat) (_ : m ≤ 1006) :
    Calls Tryz.prog 119 #[.pointer (some ⟨q, 0, none⟩), .int .i64 (m : Int)] w (NextX w fd tv p q nm c st (bg A) ([], 0, 7)) := by
  obtain ⟨c0, c1, c2, c3, c4, c5, c6, c7⟩ := h.cellAt
  obtain ⟨N, hN⟩ : ∃ N, N = c.length := ⟨_, rfl⟩
  obtain ⟨a, ha⟩ : ∃ a, a = st.at_ := ⟨_, rfl⟩
  have haN : a ≤ N := by rw [ha, hN]; exact h.at_le
  have hN2 : N ≤ 1000000000 := by rw [hN]; exact h.len
  obtain ⟨r, hr⟩ : ∃ r, r = min m (N - a) := ⟨_, rfl⟩
  have RD := fun (W : World) (hW : Below w.heap.size w W) => (h.disk.below hW).readAt_err (by omega) nm hnm (a : Int) (r : Int) (k := 7) (down_errA (A := bg A) hbg _)
  have hmin : ∀ (ts : Array TypeId) (t : TypeId) (W : World), (Builtin.min_ ts t #[.int .i64 (m : Int), .int .i64 ((N : Int) - (a : Int))]).run Tryz.prog W = .ok (.int .i64 (r : Int)) W := fun ts t W => by
    have := min_len m (N - a) ((N : Int) - (a : Int)) (by omega) ts t W
    rw [← hr] at this
    exact this
  have hsub : IntKind.i64.wrap ((N : Int) - (a : Int)) = (N : Int) - (a : Int) := i64_small _ (by omega) (by omega)
  have HR := hide RD
  have HBG := hide hbg
  have H := hide h
  have HC2 : Hid (∀ {W : World} {fd' : List Nat} {B : Dsk}, RkA W fd' tv p q B nm c st → W.cell? ⟨q, 2, none⟩ = some (.int .i64 (N : Int))) := fun h => by rw [hN]; exact h.cellAt.2.2.1
  have HC3 : Hid (∀ {W : World} {fd' : List Nat} {B : Dsk}, RkA W fd' tv p q B nm c st → W.cell? ⟨q, 3, none⟩ = some (.int .i64 (a : Int))) := fun h => by rw [ha]; exact h.cellAt.2.2.2.1
  rw [← hN] at c2
  rw [← ha] at c3
  clear h hr hN ha RD hbg
  have c0' : w.drew.cell? ⟨q, 0, none⟩ = some (.pointer (some ⟨p, 0, none⟩)) := c0
  have c1' : w.drew.cell? ⟨q, 1, none⟩ = some (.string nm) := c1
  have c2' : w.drew.cell? ⟨q, 2, none⟩ = some (.int .i64 (N : Int)) := c2
  have c3' : w.drew.cell? ⟨q, 3, none⟩ = some (.int .i64 (a : Int)) := c3
  clear c0 c1 c2 c3 c4 c5 c6
  go_enter Tryz.func119, Tryz.ntmps119
  go_wp2_with fail
  go_region_held (fun W => W.cell? ⟨q, 0, none⟩ = some (.pointer (some ⟨p, 0, none⟩)) ∧ W.cell? ⟨q, 1, none⟩ = some (.string nm) ∧ W.cell? ⟨q, 2, none⟩ = some (.int .i64 (N : Int)) ∧ W.cell? ⟨q, 3, none⟩ = some (.int .i64 (a : Int))) (exact ⟨by assumption, by assumption, by assumption, by assumption⟩)
    (first | (go_at_call 147; refine (HR.out _ ((Below.refl _ w).drew)).mono ?_; rintro e w2 ⟨rfl, fd2, d2, k2, n2⟩; obtain ⟨E2, K2, N2⟩ := (H.out.below ((Below.refl _ w).drew)).disk_op (B := bg A) (fun e => by rw [HBG.out] at e; exact absurd e (by simp)) d2 k2 n2; obtain ⟨f0, f1, f2, f3, _⟩ := E2.cellAt; have HE2 := hide E2; have HK2 := hide K2; have HN2 := hide N2; clear d2 k2 n2 E2 K2 N2 f2 f3; have f2 : w2.cell? ⟨q, 2, none⟩ = some (.int .i64 (N : Int)) := HC2.out HE2.out; have f3 : w2.cell? ⟨q, 3, none⟩ = some (.int .i64 (a : Int)) := HC3.out HE2.out))
  go_wp2
  go_ret3
  have k2 : Kept (rfp fd q tv st.text) w w2 := ⟨HK2.out.os, HK2.out.tape, HK2.out.output, HK2.out.size, HK2.out.block⟩
  exact ⟨.slice none 0 0, fd2, rfl, IsB.nil _, HE2.out, k2, HN2.out, fun x hx => by simp [own, Value.ownBlock] at hx⟩

end

end Go.Proofs.YtgpbanjammipiaaGreatDoor
