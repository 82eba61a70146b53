/-
  Heaps of records: Push, Peek, Pop, Len. A lemma file: no statement of the seat is proved here.
-/
import Derived.Test.YtbppjbdcgcmjiaaGSink
namespace Go.Proofs.Ytbppjbdcgcmjiaa.G
open Go.RowKit

/-- A heap in block p: its row is v, of which l are the records; nothing is odd. -/
structure HeapAt (w : World) (p : Nat) (v : Value) (l : List Rc) : Prop where
  cells : w.heap[p]? = some (.cells #[v, .slice none 0 0] 58 (0, 0))
  row : RowR w v l
  apart : p ∉ own v

section
variable {w w' : World} {p : Nat} {v : Value} {l : List Rc}

theorem HeapAt.kept {fp : List Nat} (h : HeapAt w p v l) (hk : Kept fp w w') (hp : p ∉ fp) (hf : ∀ x ∈ own v, x ∉ fp) : HeapAt w' p v l :=
  ⟨hk.heap h.cells hp, h.row.kept hk hf, h.apart⟩

theorem HeapAt.cellAt (h : HeapAt w p v l) : w.cell? ⟨p, 0, none⟩ = some v ∧ w.cell? ⟨p, 1, none⟩ = some (.slice none 0 0) := by
  refine ⟨?_, ?_⟩ <;> simp [World.cell?, h.cells]

theorem HeapAt.frozen (h : HeapAt w p v l) (j : Nat) : w.frozen? ⟨p, j, none⟩ = false := frozen_of_heap h.cells j

set_option maxRecDepth 100000 in
set_option maxHeartbeats 4000000 in
theorem push_any (h : HeapAt w p v l) (hmax : l.length ≤ 100000) (hheap : HeapR l) (x1 x2 x3 : Int) (hx : okR (x1, x2, x3)) :
    Calls Try.prog 35 #[.pointer (some ⟨p, 0, none⟩), .agg #[.int .u64 x1, .int .u64 x2, .int .i64 x3]] w fun e w' => e = .returned (.tuple #[]) ∧
      ∃ v' l', HeapAt w' p v' l' ∧ HeapR l' ∧ l'.Perm (l ++ [(x1, x2, x3)]) ∧ Kept (p :: own v) w w' ∧ Newly w (own v) (own v') := by
  obtain ⟨c0, c1⟩ := h.cellAt
  have z0 := h.frozen 0
  have S := hide (fun W => sound_any x1 x2 x3 W)
  go_enter Try.func35, Try.ntmps35
  go_wp2_with fail
  refine (S.out _).mono ?_
  rintro e w2 ⟨rfl, b2⟩
  have bw : Below w.heap.size w w2 := ((Below.refl _ w).alloc (Nat.le_refl _) _).trans (b2.mono (by simp))
  have h2 : HeapAt w2 p v l := h.kept (Kept.of_below (fp := []) bw) (by simp) (fun _ _ => by simp)
  have e3 := (b2.block w.heap.size (by simp)).trans (heap_alloc_new w (.cells #[.int .u64 x1, .int .u64 x2, .int .i64 x3] 61))
  have q3 : w2.cell? ⟨w.heap.size, 0, none⟩ = some (.int .u64 x1) := cell_of_heap e3 0
  have q4 : w2.cell? ⟨w.heap.size, 1, none⟩ = some (.int .u64 x2) := cell_of_heap e3 1
  have q5 : w2.cell? ⟨w.heap.size, 2, none⟩ = some (.int .i64 x3) := cell_of_heap e3 2
  obtain ⟨W, hW⟩ : ∃ W, W = w2.alloc (.cells #[.int .u64 x1, .int .u64 x2, .int .i64 x3] 61) := ⟨_, rfl⟩
  have kW : Kept [] w2 W := by rw [hW]; exact (Kept.refl _ _).alloc _
  have h3 : HeapAt W p v l := h2.kept kW (by simp) (fun _ _ => by simp)
  have i3 : IsR W (.slice (some ⟨w2.heap.size, 0, none⟩) 1 1) [(x1, x2, x3)] := by
    rw [hW]
    refine ⟨_, 1, rfl, Nat.le_refl _, by simp, fun x hx j u hu => ?_, by simpa using hx⟩
    simp only [Option.some.injEq] at hx
    subst hx
    rw [Addr.add_lit, Nat.zero_add, cell_of_heap (heap_alloc_new w2 _)]
    match j, hu with
    | 0, hu => simpa [flatR, encR] using hu
    | 1, hu => simpa [flatR, encR] using hu
    | 2, hu => simpa [flatR, encR] using hu
    | j + 3, hu => simp [flatR, encR] at hu
  rw [hW] at h3 i3 kW
  obtain ⟨c0', c1'⟩ := h2.cellAt
  have z0' := h2.frozen 0
  have c3 := h3.cellAt.1
  have R3 := hide h3.row
  have I3 := hide i3
  have hlen : Hid (l.length + [(x1, x2, x3)].length ≤ 1099511627776) := by show _ ≤ _; simp; omega
  have H3 := hide h3
  have KW := hide (And.intro kW bw)
  clear h h2 h3 i3 kW bw b2 e3 hW
  clear W
  go_wp2
  go_region_law (refine step_appendR _ ?_ (.tmp 21) (.tmp 23) ?_ v (.slice (some ⟨w2.heap.size, 0, none⟩) 1 1) l [(x1, x2, x3)] ?_ ?_ ?_ ?_ ?_ ?_; rfl; rfl; rfl; exact R3.out; rfl; exact I3.out; exact hlen.out; intro v4 w4 r4 k4 n4; obtain ⟨lm, hlm⟩ : ∃ lm, lm = l ++ [(x1, x2, x3)] := ⟨_, rfl⟩; rw [← hlm] at r4; obtain ⟨g4, cap4, e4, q4⟩ := r4.blk (by rw [hlm]; simp); subst e4; have e4 := k4.heap H3.out.cells H3.out.apart; have c4 : w4.cell? ⟨p, 0, none⟩ = some v := cell_of_heap e4 0; have f4 : w4.frozen? ⟨p, 0, none⟩ = false := frozen_of_heap e4 0; have HLM := hide hlm; have R4 := hide r4; have K4 := hide k4; have N4 := hide n4; have E4 := hide e4; clear hlm r4 k4 n4 e4)
  all_goals
    have hll : Hid (lm.length = l.length + 1) := by show _ = _; rw [HLM.out]; simp
    have hpg : p ≠ g4 := by
      intro e
      rcases N4.out g4 (by simp [own, Value.ownBlock]) with h | h
      · exact H3.out.apart (e ▸ h)
      · have := (Array.getElem?_eq_some_iff.1 H3.out.cells).1
        simp at h this
        omega
    obtain ⟨w5, hw5⟩ : ∃ w5, w5 = w4.setCell ⟨p, 0, none⟩ (.slice (some ⟨g4, 0, none⟩) lm.length cap4) := ⟨_, rfl⟩
    have k5 : Kept [p] w4 w5 := by rw [hw5]; exact (Kept.refl _ _).setCell (.inl (by simp)) _
    have r5 : RowR w5 (.slice (some ⟨g4, 0, none⟩) lm.length cap4) lm := R4.out.kept k5 (by simp [own, Value.ownBlock]; exact fun e => hpg e.symm)
    have e5 : w5.heap[p]? = some (.cells #[.slice (some ⟨g4, 0, none⟩) lm.length cap4, .slice none 0 0] 58 (0, 0)) := by rw [hw5]; exact heap_setCell E4.out 0 _
    have c5 : w5.cell? ⟨p, 0, none⟩ = some (.slice (some ⟨g4, 0, none⟩) lm.length cap4) := cell_of_heap e5 0
    have hrise := hide (rise_any r5 (by have := hll.out; omega) (by have := hll.out; omega) (by have e := hll.out; rw [e, HLM.out]; exact Up.start hheap (x1, x2, x3)))
    have E5 := hide e5
    have K5 := hide k5
    clear r5 e5 k5
    subst hw5
    go_wp2_with fail
    refine hrise.out.mono ?_
    rintro e w6 ⟨rfl, l6, r6, h6, p6, k6⟩
    go_wp2
    go_end0
    have hn4 : Newly w (own v) [g4] := fun x hx => by
      simp only [List.mem_singleton] at hx
      subst hx
      rcases N4.out x (by simp [own, Value.ownBlock]) with h | h
      · exact .inl h
      · refine .inr ?_
        have := KW.out.2.size
        simp at h
        omega
    refine ⟨rfl, _, l6, ⟨k6.heap E5.out (by simpa using hpg), r6, by simp [own, Value.ownBlock]; exact hpg⟩, h6, p6.trans (by rw [HLM.out]), ?_, ?_⟩
    · have k2 : Kept (p :: own v) w w2 := Kept.of_below KW.out.2
      have k3 := k2.trans KW.out.1 (fun _ hx => by simp at hx)
      have k4 := k3.trans (fp' := own v) (b := w2.alloc (.cells #[.int .u64 x1, .int .u64 x2, .int .i64 x3] 61)) (c := w4) ⟨K4.out.os, K4.out.tape, K4.out.output, K4.out.size, K4.out.block⟩ (Newly.of_sub (by intro x hx; simp [hx]))
      have k5 := k4.trans K5.out (Newly.of_sub (by simp))
      refine k5.trans k6 (fun x hx => ?_)
      rcases hn4 x hx with h | h
      · exact .inl (by simp [h])
      · exact .inr h
    · intro x hx
      exact hn4 x (by simpa [own, Value.ownBlock] using hx)

end

end Go.Proofs.Ytbppjbdcgcmjiaa.G
