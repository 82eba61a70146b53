/-
  Heaps of records: cut, Peek, Pop. A lemma file: no statement of the seat is proved here.
-/
import Derived.Test.YtbppjbdcgcmjiaaGOps
namespace Go.Proofs.Ytbppjbdcgcmjiaa.G
open Go.RowKit

/-- 'clear(row[n-1:])'. -/
theorem run_clear1 (w : World) (ty : TypeId) (g o c : Nat) (h1 : (w.cell? ⟨g, o, none⟩).isSome = true) (h2 : (w.cell? ⟨g, o + 1, none⟩).isSome = true) (h3 : (w.cell? ⟨g, o + 2, none⟩).isSome = true) (f1 : w.frozen? ⟨g, o, none⟩ = false) (f2 : w.frozen? ⟨g, o + 1, none⟩ = false) (f3 : w.frozen? ⟨g, o + 2, none⟩ = false) :
    (Builtin.clear_ #[56] ty #[.slice (some ⟨g, o, none⟩) 1 c]).run Try.prog w = .ok (.tuple #[]) (((w.setCell ⟨g, o, none⟩ (.int .u64 0)).setCell ⟨g, o + 1, none⟩ (.int .u64 0)).setCell ⟨g, o + 2, none⟩ (.int .i64 0)) := by
  have hv : ∀ w, (zeroValue 61).run Try.prog w = .ok (.agg #[.int .u64 0, .int .u64 0, .int .i64 0]) w := fun _ => rfl
  have hzc : (Builtin.zeroCells (Value.agg #[.int .u64 0, .int .u64 0, .int .i64 0]).cells 1).toList = [.int .u64 0, .int .u64 0, .int .i64 0] := by kernel_rfl
  have hst := run_storeCells_cells (P := Try.prog) g o [.int .u64 0, .int .u64 0, .int .i64 0] 0 w (by
    intro j hj
    match j, hj with
    | 0, _ => simpa using h1
    | 1, _ => simpa using h2
    | 2, _ => simpa using h3) (by
    intro j hj
    match j, hj with
    | 0, _ => simpa using f1
    | 1, _ => simpa using f2
    | 2, _ => simpa using f3) (by intro v hv'; simp at hv'; rcases hv' with rfl | rfl <;> rfl)
  simp only [Nat.add_zero] at hst
  simp [Builtin.clear_, run_underlying Try.underlying56, hv, hzc, hst, World.setCells]

section
variable {w w' : World} {p : Nat} {v : Value} {l : List Rc}

set_option maxRecDepth 100000 in
set_option maxHeartbeats 4000000 in
theorem cut_any {g cap k : Nat} (h : RowR w (.slice (some ⟨g, 0, none⟩) (k + 1) cap) l) (hcap : k + 1 ≤ cap) (hmax : k ≤ 1000000) :
    Calls Try.prog 43 #[.slice (some ⟨g, 0, none⟩) (k + 1) cap] w fun e w' => e = .returned (.slice (some ⟨g, 0, none⟩) k cap) ∧ RowR w' (.slice (some ⟨g, 0, none⟩) k cap) (l.take k) ∧ Kept [g] w w' := by
  obtain ⟨n, hn⟩ : ∃ n, n = k + 1 := ⟨_, rfl⟩
  rw [← hn] at h hcap ⊢
  have hl := h.len
  have hw : IntKind.i64.wrap ((n : Int) - 1) = (k : Int) := by rw [i64_small _ (by omega) (by omega)]; omega
  obtain ⟨c1, c2, c9⟩ := h.cell3 k (by omega)
  have z1 := h.frozenAt (k * 3)
  have z2 := h.frozenAt (k * 3 + 1)
  have z2' := h.frozenAt (k * 3 + 2)
  have hkn : (k : Int) ≤ (n : Int) := by omega
  have hkc : (k : Int) ≤ (cap : Int) := by omega
  have hck : ¬ cap - k = 0 := by omega
  have hnk : n - k = 1 := by omega
  have hrun : ∀ ty c, (Builtin.clear_ #[56] ty #[.slice (some ⟨g, k * 3, none⟩) 1 c]).run Try.prog w = .ok (.tuple #[]) (((w.setCell ⟨g, k * 3, none⟩ (.int .u64 0)).setCell ⟨g, k * 3 + 1, none⟩ (.int .u64 0)).setCell ⟨g, k * 3 + 2, none⟩ (.int .i64 0)) := fun ty c => run_clear1 w ty g (k * 3) c (by rw [c1]; rfl) (by rw [c2]; rfl) (by rw [c9]; rfl) z1 z2 z2'
  have H := hide (And.intro h (And.intro hl hn))
  clear h hl hn
  go_enter Try.func43, Try.ntmps43
  go_wp2
  go_ret
  obtain ⟨h, hl, hn⟩ := H.out
  refine ⟨rfl, ?_, (((Kept.refl _ _).setCell (.inl (by simp)) _).setCell (.inl (by simp)) _).setCell (.inl (by simp)) _⟩
  have q := h.stored k (by omega) (0, 0, 0) (by simp [okR])
  have hsl : (l.set k (0, 0, 0)).length = n := by rw [List.length_set]; exact hl.symm
  rw [← hsl] at q
  have q2 := q.front k (by omega)
  rw [show (l.set k (0, 0, 0)).take k = l.take k by rw [List.take_set_of_le (Nat.le_refl _)]] at q2
  exact q2

set_option maxRecDepth 100000 in
set_option maxHeartbeats 4000000 in
theorem peek_none (h : HeapAt w p v []) :
    Calls Try.prog 42 #[.pointer (some ⟨p, 0, none⟩)] w fun e w' => e = .returned (.tuple #[.agg #[.int .u64 0, .int .u64 0, .int .i64 0], .bool false]) ∧ Kept [] w w' := by
  obtain ⟨c0, c1⟩ := h.cellAt
  have hform : ∃ a cap, v = .slice a 0 cap := by
    rcases h.row.form with ⟨rfl, _⟩ | ⟨g, cap, rfl, _⟩
    · exact ⟨none, 0, rfl⟩
    · exact ⟨_, cap, rfl⟩
  obtain ⟨a, cap, rfl⟩ := hform
  obtain ⟨c0', c1'⟩ := (h.kept (Kept.of_below (fp := []) ((Below.refl _ w).alloc (Nat.le_refl _) (.cells #[.int .u64 0, .int .u64 0, .int .i64 0] 61))) (by simp) (fun _ _ => by simp)).cellAt
  clear h
  go_enter Try.func42, Try.ntmps42
  go_wp2
  refine bodyPost_ret (v := .tuple #[.agg #[.int .u64 0, .int .u64 0, .int .i64 0], .bool false]) (by simp [results, Try.results42, go_sem]) rfl ⟨rfl, ?_⟩
  exact (Kept.refl _ _).alloc _

set_option maxRecDepth 100000 in
set_option maxHeartbeats 4000000 in
theorem peek_some (h : HeapAt w p v l) (h0 : 0 < l.length) (hmax : l.length ≤ 1000000) :
    Calls Try.prog 42 #[.pointer (some ⟨p, 0, none⟩)] w fun e w' => e = .returned (.tuple #[.agg #[.int .u64 l[0]!.1, .int .u64 l[0]!.2.1, .int .i64 l[0]!.2.2], .bool true]) ∧ Kept [] w w' := by
  obtain ⟨c0, c1⟩ := h.cellAt
  obtain ⟨g, cap, rfl, hcap⟩ := h.row.blk h0
  obtain ⟨x, hx⟩ : ∃ x, x = l[0]! := ⟨_, rfl⟩
  obtain ⟨d1, d2, d9⟩ := h.row.cell3 0 h0
  rw [← hx] at d1 d2 d9 ⊢
  obtain ⟨x1, x2, x3⟩ := x
  simp only [Nat.zero_mul, Nat.zero_add] at d1 d2 d9
  have h0' : (0 : Int) < (l.length : Int) := by omega
  have h' := h.kept (Kept.of_below (fp := []) ((Below.refl _ w).alloc (Nat.le_refl _) (.cells #[.int .u64 0, .int .u64 0, .int .i64 0] 61))) (by simp) (fun _ _ => by simp)
  obtain ⟨c0', c1'⟩ := h'.cellAt
  obtain ⟨d1', d2', d9'⟩ := h'.row.cell3 0 h0
  rw [← hx] at d1' d2' d9'
  simp only [Nat.zero_mul, Nat.zero_add] at d1' d2' d9'
  clear h h' hx
  obtain ⟨n, hn⟩ : ∃ n, n = l.length := ⟨_, rfl⟩
  rw [← hn] at *
  clear hn
  go_enter Try.func42, Try.ntmps42
  go_wp2
  refine bodyPost_ret (v := .tuple #[.agg #[.int .u64 x1, .int .u64 x2, .int .i64 x3], .bool true]) (by simp [results, Try.results42, go_sem]) rfl ⟨rfl, ?_⟩
  exact (Kept.refl _ _).alloc _

theorem pop_perm (l : List Rc) (k : Nat) (hk : l.length = k + 1) : (l[0]! :: (l.set 0 l[k]!).take k).Perm l := by
  cases l with
  | nil => simp at hk
  | cons x t =>
    simp only [List.length_cons, Nat.add_right_cancel_iff] at hk
    cases k with
    | zero =>
      have : t = [] := List.eq_nil_of_length_eq_zero hk
      subst this
      simp
    | succ j =>
      have hj : j < t.length := by omega
      have e : (x :: t)[j + 1]! = t[j] := by rw [getElem!_pos (x :: t) (j + 1) (by simp; omega)]; simp
      rw [e]
      simp only [List.set_cons_zero, List.take_succ_cons]
      refine List.Perm.cons x ?_
      have ht : t = t.take j ++ [t[j]] := by
        have h1 := List.take_append_getElem hj
        rw [h1, List.take_of_length_le (by omega)]
      have hp : (t[j] :: t.take j).Perm (t.take j ++ [t[j]]) := (List.perm_append_singleton _ _).symm
      rw [← ht] at hp
      exact hp

set_option maxRecDepth 100000 in
set_option maxHeartbeats 4000000 in
theorem pop_some (h : HeapAt w p v l) (h0 : 0 < l.length) (hmax : l.length ≤ 1000000) (hheap : HeapR l) :
    Calls Try.prog 36 #[.pointer (some ⟨p, 0, none⟩)] w fun e w' => e = .returned (.tuple #[.agg #[.int .u64 l[0]!.1, .int .u64 l[0]!.2.1, .int .i64 l[0]!.2.2], .bool true]) ∧
      ∃ v' l', HeapAt w' p v' l' ∧ HeapR l' ∧ (l[0]! :: l').Perm l ∧ Kept (p :: own v) w w' ∧ Newly w (own v) (own v') := by
  obtain ⟨B, hB⟩ : ∃ B, B = w.heap.size := ⟨_, rfl⟩
  obtain ⟨g, cap, rfl, hcap⟩ := h.row.blk h0
  obtain ⟨k, hk⟩ : ∃ k, l.length = k + 1 := ⟨l.length - 1, by omega⟩
  have hpg : p ≠ g := by have := h.apart; simpa [own, Value.ownBlock] using this
  have hpB : p < B := by rw [hB]; exact (Array.getElem?_eq_some_iff.1 h.cells).1
  have hgB : g < B := by rw [hB]; exact h.row.low g (by simp [own, Value.ownBlock])
  obtain ⟨x, hx⟩ : ∃ x, x = l[0]! := ⟨_, rfl⟩
  obtain ⟨y, hy⟩ : ∃ y, y = l[k]! := ⟨_, rfl⟩
  have hokx : okR x := by rw [hx]; exact h.row.okAt 0 h0
  have hoky : okR y := by rw [hy]; exact h.row.okAt k (by omega)
  have kA : Kept [] w (w.alloc (.cells #[.int .u64 0, .int .u64 0, .int .i64 0] 61)) := (Kept.refl _ _).alloc _
  have h1 : HeapAt (w.alloc (.cells #[.int .u64 0, .int .u64 0, .int .i64 0] 61)) p _ l := h.kept kA (by simp) (fun _ _ => by simp)
  have PK := hide (peek_some h1 h0 hmax)
  rw [← hx] at PK ⊢
  obtain ⟨x1, x2, x3⟩ := x
  obtain ⟨y1, y2, y3⟩ := y
  have HX := hide (And.intro hx (And.intro hy (And.intro hokx (And.intro hoky (And.intro h0 (And.intro hheap hk))))))
  have H1 := hide h1
  have KA := hide kA
  have hw : IntKind.i64.wrap ((l.length : Int) - 1) = (k : Int) := by rw [i64_small _ (by omega) (by omega)]; omega
  have hn0 : (0 : Int) < (l.length : Int) := by omega
  have hkl : k < l.length := by omega
  clear hx hy hokx hoky h h1 kA hheap hk
  go_enter Try.func36, Try.ntmps36
  go_wp2_with fail
  refine PK.out.mono ?_
  rintro e w2 ⟨rfl, k2⟩
  obtain ⟨w3, hw3⟩ : ∃ w3, w3 = ((w2.setCell ⟨w.heap.size, 0, none⟩ (.int .u64 x1)).setCell ⟨w.heap.size, 1, none⟩ (.int .u64 x2)).setCell ⟨w.heap.size, 2, none⟩ (.int .i64 x3) := ⟨_, rfl⟩
  have hbox2 := k2.heap (heap_alloc_new w (.cells #[.int .u64 0, .int .u64 0, .int .i64 0] 61)) (by simp)
  have hbc1 : w2.cell? ⟨w.heap.size, 0, none⟩ = some (.int .u64 0) := cell_of_heap hbox2 0
  have hbc2 : w2.cell? ⟨w.heap.size, 1, none⟩ = some (.int .u64 0) := cell_of_heap hbox2 1
  have hbc3 : w2.cell? ⟨w.heap.size, 2, none⟩ = some (.int .i64 0) := cell_of_heap hbox2 2
  have hbf1 : w2.frozen? ⟨w.heap.size, 0, none⟩ = false := frozen_of_heap hbox2 0
  have hbf2 : w2.frozen? ⟨w.heap.size, 1, none⟩ = false := frozen_of_heap hbox2 1
  have hbf3 : w2.frozen? ⟨w.heap.size, 2, none⟩ = false := frozen_of_heap hbox2 2
  have hbox3 : w3.heap[w.heap.size]? = some (.cells #[.int .u64 x1, .int .u64 x2, .int .i64 x3] 61 (0, 0)) := by
    rw [hw3]
    exact heap_setCell (heap_setCell (heap_setCell hbox2 0 _) 1 _) 2 _
  have k3 : Kept [w.heap.size] w2 w3 := by rw [hw3]; exact (((Kept.refl _ _).setCell (.inl (by simp)) _).setCell (.inl (by simp)) _).setCell (.inl (by simp)) _
  have h3 : HeapAt w3 p (.slice (some ⟨g, 0, none⟩) l.length cap) l := (H1.out.kept k2 (by simp) (fun _ _ => by simp)).kept k3 (by simp; omega) (by simp [own, Value.ownBlock]; omega)
  obtain ⟨c0, c1⟩ := h3.cellAt
  obtain ⟨d1, d2, d9⟩ := h3.row.cell3 k hkl
  obtain ⟨e1, e2, e9⟩ := h3.row.cell3 0 (by omega)
  rw [← HX.out.2.1] at d1 d2 d9
  rw [← HX.out.1] at e1 e2 e9
  simp only [Nat.zero_mul, Nat.zero_add] at d1 d2 d9 e1 e2 e9
  have z1 := h3.row.frozenAt 0
  have z2 := h3.row.frozenAt 1
  have z2' := h3.row.frozenAt 2
  have H3 := hide h3
  have HB3 := hide hbox3
  have K3 := hide (And.intro k2 k3)
  clear h3 hbox3 k2 k3 hbox2
  rw [hw3] at c0 c1 d1 d2 d9 e1 e2 e9 z1 z2 z2'
  have HW3 := hide hw3
  clear hw3
  go_wp2
  go_region
  all_goals
    rw [← HW3.out]
    generalize hw4 : (((w3.setCell ⟨g, 0, none⟩ (.int .u64 y1)).setCell ⟨g, 1, none⟩ (.int .u64 y2)).setCell ⟨g, 2, none⟩ (.int .i64 y3)).drew = w4
    have k4 : Kept [g] w3 w4 := by rw [← hw4]; exact ((((Kept.refl _ _).setCell (.inl (by simp)) _).setCell (.inl (by simp)) _).setCell (.inl (by simp)) _).drew
    have r4 : RowR w4 (.slice (some ⟨g, 0, none⟩) l.length cap) (l.set 0 (y1, y2, y3)) := by
      have q := H3.out.row.stored 0 h0 (y1, y2, y3) HX.out.2.2.2.1
      rw [Nat.zero_mul, Nat.zero_add] at q
      rw [← hw4]
      exact q
    clear hw4
    have e4 := k4.heap H3.out.cells (by simpa using hpg)
    have b4 := k4.heap HB3.out (by simp; omega)
    have c4 : w4.cell? ⟨p, 0, none⟩ = some (.slice (some ⟨g, 0, none⟩) l.length cap) := cell_of_heap e4 0
    have R4 := hide r4
    have K4 := hide k4
    have E4 := hide (And.intro e4 b4)
    have hlk := HX.out.2.2.2.2.2.2
    have CT : Hid (Calls Try.prog 43 #[.slice (some ⟨g, 0, none⟩) l.length cap] w4 fun e w' => e = .returned (.slice (some ⟨g, 0, none⟩) k cap) ∧ RowR w' (.slice (some ⟨g, 0, none⟩) k cap) ((l.set 0 (y1, y2, y3)).take k) ∧ Kept [g] w4 w') := by
      show Calls _ _ _ _ _
      rw [hlk] at r4 hcap ⊢
      exact cut_any r4 hcap (by omega)
    clear r4 k4 e4 b4 hlk c0 c1 d1 d2 d9 e1 e2 e9 z1 z2 z2' hbc1 hbc2 hbc3 hbf1 hbf2 hbf3
    go_wp2_with fail
    refine CT.out.mono ?_
    rintro e w5 ⟨rfl, r5, k5⟩
    have e5 := k5.heap E4.out.1 (by simpa using hpg)
    have b5 := k5.heap E4.out.2 (by simp; omega)
    have c5 : w5.cell? ⟨p, 0, none⟩ = some (.slice (some ⟨g, 0, none⟩) l.length cap) := cell_of_heap e5 0
    have f5 : w5.frozen? ⟨p, 0, none⟩ = false := frozen_of_heap e5 0
    obtain ⟨w6, hw6⟩ : ∃ w6, w6 = w5.setCell ⟨p, 0, none⟩ (.slice (some ⟨g, 0, none⟩) k cap) := ⟨_, rfl⟩
    have k6 : Kept [p] w5 w6 := by rw [hw6]; exact (Kept.refl _ _).setCell (.inl (by simp)) _
    have r6 := r5.kept k6 (by simp [own, Value.ownBlock]; omega)
    have e6 : w6.heap[p]? = some (.cells #[.slice (some ⟨g, 0, none⟩) k cap, .slice none 0 0] 58 (0, 0)) := by rw [hw6]; exact heap_setCell e5 0 _
    have b6 := k6.heap b5 (by simp; omega)
    have c6 : w6.cell? ⟨p, 0, none⟩ = some (.slice (some ⟨g, 0, none⟩) k cap) := cell_of_heap e6 0
    have hdn : Down ((l.set 0 (y1, y2, y3)).take k) 0 := by
      have := Down.start HX.out.2.2.2.2.2.1 (y1, y2, y3)
      rw [show l.length - 1 = k by have := HX.out.2.2.2.2.2.2; omega] at this
      exact this
    have SK := hide (sink_any r6 (by simp; omega) hdn)
    have K6 := hide (And.intro k5 k6)
    have E6 := hide (And.intro e6 b6)
    clear r5 r6 k5 k6 e5 e6 b5 b6 hdn
    subst hw6
    go_wp2_with fail
    refine SK.out.mono ?_
    rintro e w7 ⟨rfl, l7, r7, h7, p7, k7⟩
    have e7 := k7.heap E6.out.1 (by simpa using hpg)
    have b7 := k7.heap E6.out.2 (by simp; omega)
    have c7 : w7.cell? ⟨w.heap.size, 0, none⟩ = some (.int .u64 x1) := cell_of_heap b7 0
    have c7' : w7.cell? ⟨w.heap.size, 1, none⟩ = some (.int .u64 x2) := cell_of_heap b7 1
    have c7z : w7.cell? ⟨w.heap.size, 2, none⟩ = some (.int .i64 x3) := cell_of_heap b7 2
    have f7 : w7.frozen? ⟨w.heap.size, 0, none⟩ = false := frozen_of_heap b7 0
    have f7' : w7.frozen? ⟨w.heap.size, 1, none⟩ = false := frozen_of_heap b7 1
    have f7z : w7.frozen? ⟨w.heap.size, 2, none⟩ = false := frozen_of_heap b7 2
    have H7 := hide (And.intro e7 (And.intro r7 (And.intro h7 (And.intro p7 k7))))
    clear e7 r7 h7 p7 k7 b7
    go_wp2
    refine bodyPost_ret (v := .tuple #[.agg #[.int .u64 x1, .int .u64 x2, .int .i64 x3], .bool true]) (by simp [results, Try.results36, go_sem, c7, c7', c7z]) rfl ⟨rfl, .slice (some ⟨g, 0, none⟩) k cap, l7, ?_⟩
    obtain ⟨e7, r7, h7, p7, k7⟩ := H7.out
    have k8 : Kept [w.heap.size] w7 (((w7.setCell ⟨w.heap.size, 0, none⟩ (.int .u64 x1)).setCell ⟨w.heap.size, 1, none⟩ (.int .u64 x2)).setCell ⟨w.heap.size, 2, none⟩ (.int .i64 x3)) := (((Kept.refl _ _).setCell (.inl (by simp)) _).setCell (.inl (by simp)) _).setCell (.inl (by simp)) _
    refine ⟨⟨k8.heap e7 (by simp; omega), r7.kept k8 (by simp [own, Value.ownBlock]; omega), by simpa [own, Value.ownBlock] using hpg⟩, h7, ?_, ?_, ?_⟩
    · have e := HX.out
      rw [e.2.1] at p7
      rw [e.1]
      exact (p7.cons _).trans (pop_perm l k e.2.2.2.2.2.2)
    · have hB : ∀ x ∈ [w.heap.size], x ∈ (p :: own (Value.slice (some ⟨g, 0, none⟩) l.length cap)) ∨ w.heap.size ≤ x := fun x hx => by simp at hx; exact .inr (by omega)
      have hg : ∀ x ∈ [g], x ∈ (p :: own (Value.slice (some ⟨g, 0, none⟩) l.length cap)) ∨ w.heap.size ≤ x := fun x hx => by simp at hx; subst hx; exact .inl (by simp [own, Value.ownBlock])
      have hp : ∀ x ∈ [p], x ∈ (p :: own (Value.slice (some ⟨g, 0, none⟩) l.length cap)) ∨ w.heap.size ≤ x := fun x hx => by simp at hx; subst hx; exact .inl (by simp)
      have q1 : Kept (p :: own (Value.slice (some ⟨g, 0, none⟩) l.length cap)) w (w.alloc (.cells #[.int .u64 0, .int .u64 0, .int .i64 0] 61)) := KA.out.mono (by simp)
      exact ((((((q1.trans K3.out.1 (fun _ hx => by simp at hx)).trans K3.out.2 hB).trans K4.out hg).trans K6.out.1 hg).trans K6.out.2 hp).trans k7 hg).trans k8 hB
    · exact Newly.of_sub (by simp [own, Value.ownBlock])

set_option maxRecDepth 100000 in
set_option maxHeartbeats 4000000 in
theorem pop_none (h : HeapAt w p v []) :
    Calls Try.prog 36 #[.pointer (some ⟨p, 0, none⟩)] w fun e w' => e = .returned (.tuple #[.agg #[.int .u64 0, .int .u64 0, .int .i64 0], .bool false]) ∧ Kept [] w w' := by
  have hform : ∃ a cap, v = .slice a 0 cap := by
    rcases h.row.form with ⟨rfl, _⟩ | ⟨g, cap, rfl, _⟩
    · exact ⟨none, 0, rfl⟩
    · exact ⟨_, cap, rfl⟩
  obtain ⟨a, cap, rfl⟩ := hform
  have kA : Kept [] w (w.alloc (.cells #[.int .u64 0, .int .u64 0, .int .i64 0] 61)) := (Kept.refl _ _).alloc _
  have h1 := h.kept kA (by simp) (fun _ _ => by simp)
  have PK := hide (peek_none h1)
  have H1 := hide h1
  have hpB : p < w.heap.size := (Array.getElem?_eq_some_iff.1 h.cells).1
  clear h h1 kA
  go_enter Try.func36, Try.ntmps36
  go_wp2_with fail
  refine PK.out.mono ?_
  rintro e w2 ⟨rfl, k2⟩
  have hbox2 := k2.heap (heap_alloc_new w (.cells #[.int .u64 0, .int .u64 0, .int .i64 0] 61)) (by simp)
  have hbc1 : w2.cell? ⟨w.heap.size, 0, none⟩ = some (.int .u64 0) := cell_of_heap hbox2 0
  have hbc2 : w2.cell? ⟨w.heap.size, 1, none⟩ = some (.int .u64 0) := cell_of_heap hbox2 1
  have hbc3 : w2.cell? ⟨w.heap.size, 2, none⟩ = some (.int .i64 0) := cell_of_heap hbox2 2
  have hbf1 : w2.frozen? ⟨w.heap.size, 0, none⟩ = false := frozen_of_heap hbox2 0
  have hbf2 : w2.frozen? ⟨w.heap.size, 1, none⟩ = false := frozen_of_heap hbox2 1
  have hbf3 : w2.frozen? ⟨w.heap.size, 2, none⟩ = false := frozen_of_heap hbox2 2
  obtain ⟨w3, hw3⟩ : ∃ w3, w3 = ((w2.setCell ⟨w.heap.size, 0, none⟩ (.int .u64 0)).setCell ⟨w.heap.size, 1, none⟩ (.int .u64 0)).setCell ⟨w.heap.size, 2, none⟩ (.int .i64 0) := ⟨_, rfl⟩
  have hbox3 : w3.heap[w.heap.size]? = some (.cells #[.int .u64 0, .int .u64 0, .int .i64 0] 61 (0, 0)) := by
    rw [hw3]
    exact heap_setCell (heap_setCell (heap_setCell hbox2 0 _) 1 _) 2 _
  have k3 : Kept [w.heap.size] w2 w3 := by rw [hw3]; exact (((Kept.refl _ _).setCell (.inl (by simp)) _).setCell (.inl (by simp)) _).setCell (.inl (by simp)) _
  have e3 := k3.heap (k2.heap H1.out.cells (by simp)) (by simp; omega)
  have c0 : w3.cell? ⟨p, 0, none⟩ = some (.slice a 0 cap) := cell_of_heap e3 0
  have c1 : w3.cell? ⟨p, 1, none⟩ = some (.slice none 0 0) := cell_of_heap e3 1
  have c2 : w3.cell? ⟨w.heap.size, 0, none⟩ = some (.int .u64 0) := cell_of_heap hbox3 0
  have c3 : w3.cell? ⟨w.heap.size, 1, none⟩ = some (.int .u64 0) := cell_of_heap hbox3 1
  have c4 : w3.cell? ⟨w.heap.size, 2, none⟩ = some (.int .i64 0) := cell_of_heap hbox3 2
  have K3 := hide (And.intro k2 k3)
  have HB3 := hide hbox3
  rw [hw3] at c0 c1 c2 c3 c4
  clear k2 k3 hbox2 hbox3 e3
  subst hw3
  go_wp2
  refine bodyPost_ret (v := .tuple #[.agg #[.int .u64 0, .int .u64 0, .int .i64 0], .bool false]) (by
    have b5 := heap_setCell (heap_setCell (heap_setCell HB3.out 0 (.int .u64 0)) 1 (.int .u64 0)) 2 (.int .i64 0)
    have c5 := cell_of_heap b5 0
    have c6 := cell_of_heap b5 1
    have c7 := cell_of_heap b5 2
    simp [results, Try.results36, go_sem, c5, c6, c7]) rfl ⟨rfl, ?_⟩
  have hB : ∀ x ∈ [w.heap.size], x ∈ ([] : List Nat) ∨ w.heap.size ≤ x := fun x hx => by simp at hx; exact .inr (by omega)
  have q1 : Kept [] w (w.alloc (.cells #[.int .u64 0, .int .u64 0, .int .i64 0] 61)) := (Kept.refl _ _).alloc _
  refine ((((q1.trans K3.out.1 (fun _ hx => by simp at hx)).trans K3.out.2 hB).setCell (.inr ?_) _).setCell (.inr ?_) _).setCell (.inr ?_) _
  · exact Nat.le_refl _
  · exact Nat.le_refl _
  · exact Nat.le_refl _

end

end Go.Proofs.Ytbppjbdcgcmjiaa.G
