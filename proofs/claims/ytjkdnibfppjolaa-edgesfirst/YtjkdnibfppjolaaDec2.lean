/-
  What edges.Decode does. A lemma file: no statement of the seat is proved here.
-/
import Derived.Test.YtjkdnibfppjolaaDec
namespace Go.Proofs.Ytjkdnibfppjolaa
open Go.RowKit

theorem cells2 {w : World} {B t : Nat} {a b : Value} (h : w.heap[B]? = some (.cells #[a, b] t (0, 0))) :
    w.cell? ⟨B, 0, none⟩ = some a ∧ w.cell? ⟨B, 1, none⟩ = some b ∧ ∀ j, w.frozen? ⟨B, j, none⟩ = false := by
  simp [World.cell?, World.frozen?, h]

set_option maxHeartbeats 1000000 in
theorem decode_many (v : Value) (bs : List Int) (w : World) (hb : IsB w v bs) (hl : bs.length ≤ 140737488355328) (h : ¬ (bs.length < 4 ∨ (bs.length - 4) % 12 ≠ 0)) (hn : ¬ 1048576 < numAt bs 0) (hc : 1048576 < (bs.length - 4) / 12) :
    Calls Try.prog 18 #[v] w (DecPost w (0, [], 4, 1)) := by
  have hN := numberAt_any v bs 0 _ (hb.below ((Below.refl _ w).alloc (Nat.le_refl _) (.cells #[.int .i64 0, .slice none 0 0] 24))) hl (by omega)
  obtain ⟨a, cap, rfl, _⟩ := hb.form
  clear hb
  generalize numAt bs 0 = x at hN hn
  have hm : (((bs.length : Int) - 4) % 12 != 0) = false := by simp; omega
  have h4 : ¬ (bs.length : Int) < 4 := by omega
  obtain ⟨c, hq, hc1⟩ : ∃ c : Nat, ((bs.length : Int) - 4) / 12 = (c : Int) ∧ 1048576 < c := ⟨(bs.length - 4) / 12, by omega, hc⟩
  have HN := hide hN
  clear hN h hc
  go_enter Try.func18, Try.ntmps18
  go_wp2_with (go_at_call 29; refine HN.out.mono ?_; rintro e w1 ⟨rfl, b1⟩; have g1 : w1.heap[w.heap.size]? = some (.cells #[.int .i64 0, .slice none 0 0] 24 (0, 0)) := (b1.block _ (by simp)).trans (heap_alloc_new w _); obtain ⟨c10, c11, f1⟩ := cells2 g1; have G1 := hide g1; clear g1)
  exact bodyPost_ret (v := .tuple #[.agg #[.int .i64 0, .slice none 0 0], .int .i64 4, .int .i64 1]) (by simp [results, Try.results18, go_sem, c10, c11]) rfl ⟨_, rfl, IsE.nil _, ((below_after (Below.refl _ w) b1).setCell (p := ⟨w.heap.size, 0, none⟩) (by simp) _).setCell (p := ⟨w.heap.size, 1, none⟩) (by simp) _⟩

theorem badAt_step (n : Int) (E : List Ed) (k : Nat) (hk : k < E.length) : badAt n (E.drop k) k = if 0 ≤ wrongE n E[k]! then some (4 + (k : Int) * 12 + wrongE n E[k]! * 4) else badAt n (E.drop (k + 1)) (k + 1) := by
  rw [List.drop_eq_getElem_cons hk, badAt, getElem!_pos E k hk]

theorem edgesOf_at (bs : List Int) (c k : Nat) (hk : k < c) : (edgesOf bs c)[k]! = edAt bs (4 + k * 12) := by
  rw [getElem!_pos _ k (by rw [edgesOf_length]; exact hk)]
  simp [edgesOf]

/-- The row when k edges are read. -/
def part (E : List Ed) (c k : Nat) : List Ed := E.take k ++ List.replicate (c - k) (0, 0, 0)
theorem part_length (E : List Ed) (c k : Nat) (hE : E.length = c) (hk : k ≤ c) : (part E c k).length = c := by simp [part, hE]; omega
theorem part_step (E : List Ed) (c k : Nat) (hE : E.length = c) (hk : k < c) : (part E c k).set k E[k]! = part E c (k + 1) := by
  have hl : (E.take k).length = k := by simp; omega
  rw [part, List.set_append_right _ _ (by omega), hl, Nat.sub_self, show c - k = (c - (k + 1)) + 1 by omega, List.replicate_succ, List.set_cons_zero, part, List.take_succ_eq_append_getElem (by omega), getElem!_pos E k (by omega), List.append_assoc]
  rfl

set_option maxRecDepth 100000 in
set_option maxHeartbeats 4000000 in
theorem decode_go (v : Value) (bs : List Int) (w : World) (hb : IsB w v bs) (n : Int) (hn : n = numAt bs 0) (hn1 : n ≤ 1048576) (c : Nat) (hc : bs.length = 4 + c * 12) (hc1 : c ≤ 1048576) :
    Calls Try.prog 18 #[v] w (DecPost w (match badAt n (edgesOf bs c) 0 with | some p => (0, [], p, 1) | none => (n, edgesOf bs c, 0, 0))) := by
  have hN := numberAt_any v bs 0 _ (hb.below ((Below.refl _ w).alloc (Nat.le_refl _) (.cells #[.int .i64 0, .slice none 0 0] 24))) (by omega) (by omega)
  have hn0 := (numAt_range bs 0 hb.bytes).1
  rw [← hn] at hN hn0
  have hm : (((bs.length : Int) - 4) % 12 != 0) = false := by simp; omega
  have h4 : ¬ (bs.length : Int) < 4 := by omega
  have hq : ((bs.length : Int) - 4) / 12 = (c : Int) := by omega
  have hEl := edgesOf_length bs c
  have HBB := hide hb.bytes
  have hAt := fun k (hk : k < c) => edgesOf_at bs c k hk
  have NA := hide fun (k : Nat) (hk : k < c) w hb => numbersAt_any v bs (4 + k * 12) w hb (by omega) (by omega)
  have HI := hide (fun w' (h : Below w.heap.size w w') => hb.below h)
  have hEok : ∀ k, k < c → okE (edgesOf bs c)[k]! := fun k hk => by rw [edgesOf_at bs c k hk]; exact edAt_ok bs _ HBB.out
  obtain ⟨a, cap, rfl, _⟩ := hb.form
  obtain ⟨E, hE⟩ : ∃ E, E = edgesOf bs c := ⟨_, rfl⟩
  rw [← hE] at hEl hAt hEok ⊢
  obtain ⟨row, hmk, hrow⟩ := makeE c hc1
  have HN := hide hN
  have HE := hide hE
  have HEl := hide hEl
  have HAt := hide hAt
  have HEok := hide hEok
  have HRow := hide hrow
  have HL := hide hc
  obtain ⟨D, hD⟩ : ∃ D, D = badAt n E 0 := ⟨_, rfl⟩
  rw [← hD]
  have HD := hide hD
  clear hN hb hn hE hEl hAt hEok hrow hc hD
  go_enter Try.func18, Try.ntmps18
  go_wp2_with fail
  refine HN.out.mono ?_
  rintro e w1 ⟨rfl, b1⟩
  have hs1 : w.heap.size + 1 ≤ w1.heap.size := by have := b1.size; simpa using this
  have B1 := below_after (Below.refl _ w) b1
  have g1 : w1.heap[w.heap.size]? = some (.cells #[.int .i64 0, .slice none 0 0] 24 (0, 0)) := (b1.block _ (by simp)).trans (heap_alloc_new w _)
  have G1 := hide g1
  have HB1 := hide B1
  clear g1 B1 b1
  go_wp2
  have hW0 : Below w.heap.size w ((w1.alloc (.cells row 39)).alloc (.cells #[.int .i64 n, .slice (some ⟨w1.heap.size, 0, none⟩) c c] 24)) := (HB1.out.alloc HB1.out.size _).alloc (by simp; omega) _
  have hG0 : ((w1.alloc (.cells row 39)).alloc (.cells #[.int .i64 n, .slice (some ⟨w1.heap.size, 0, none⟩) c c] 24)).heap[w.heap.size]? = some (.cells #[.int .i64 0, .slice none 0 0] 24 (0, 0)) := (Below.heap_alloc _ _ _ (by simp; omega)).trans ((Below.heap_alloc _ _ _ (by omega)).trans G1.out)
  have hQ0 : ((w1.alloc (.cells row 39)).alloc (.cells #[.int .i64 n, .slice (some ⟨w1.heap.size, 0, none⟩) c c] 24)).heap[w1.heap.size + 1]? = some (.cells #[.int .i64 n, .slice (some ⟨w1.heap.size, 0, none⟩) c c] 24 (0, 0)) := by
    have := heap_alloc_new (w1.alloc (.cells row 39)) (.cells #[.int .i64 n, .slice (some ⟨w1.heap.size, 0, none⟩) c c] 24)
    simpa using this
  have hO0 := (HRow.out w1 w1.heap.size (Nat.le_refl _)).alloc (.cells #[.int .i64 n, .slice (some ⟨w1.heap.size, 0, none⟩) c c] 24)
  clear hq hm
  go_loopw [45] (fun i wr => ∃ k : Nat, k ≤ c ∧ i = .int .i64 k ∧ Hid (Below w.heap.size w wr) ∧ Hid (wr.heap[w.heap.size]? = some (.cells #[.int .i64 0, .slice none 0 0] 24 (0, 0))) ∧ Hid (wr.heap[w1.heap.size + 1]? = some (.cells #[.int .i64 n, .slice (some ⟨w1.heap.size, 0, none⟩) c c] 24 (0, 0))) ∧ Hid (OwnE 39 w1.heap.size wr w1.heap.size c (part E c k)) ∧ Hid (D = badAt n (E.drop k) k)) (fun i _ => c - (intOf i).toNat)
  case atStart => exact ⟨0, Nat.zero_le _, rfl, hW0, hG0, hQ0, by simpa [part, Hid] using hO0, HD⟩
  case round =>
    clear hW0 hG0 hQ0 hO0
    obtain ⟨k, hk, rfl, HB, HG, HQ, HO, HDk⟩ := hrel
    by_cases hlt : k < c
    · have hA := NA.out k hlt wr (HI.out _ HB.out)
      have hEk := HAt.out k hlt
      have hok := HEok.out k hlt
      have hst := badAt_step n E k (by rw [HEl.out]; exact hlt)
      rw [← hEk, show ((4 + k * 12 : Nat) : Int) = 4 + (k : Int) * 12 by omega] at hA
      have hpst := part_step E c k HEl.out hlt
      obtain ⟨x, hx⟩ : ∃ x, x = E[k]! := ⟨_, rfl⟩
      rw [← hx] at hA hok hst hpst
      have hWE := fun W => wrongEnd_any n hn0 (by omega) x.1 x.2.1 x.2.2 W
      obtain ⟨x1, x2, x3⟩ := x
      dsimp only at hA hWE
      have hrg := wrongE_range n (x1, x2, x3)
      obtain ⟨r, hr⟩ : ∃ r, r = wrongE n (x1, x2, x3) := ⟨_, rfl⟩
      rw [← hr] at hWE hst hrg
      have HA := hide hA
      have HWE := hide hWE
      have HS := hide hst
      have HOKx := hide hok
      have HP := hide hpst
      have hsz := HB.out.size
      have hszq := (Array.getElem?_eq_some_iff.1 HQ.out).1
      clear hA hWE hst hx hok hpst hEk hr
      have hpl := part_length E c k HEl.out hk
      have HPL := hide hpl
      clear hpl
      go_wp2_with fail
      refine HA.out.mono ?_
      rintro e w2 ⟨rfl, b2⟩
      have FQ : ∀ o, (w2.alloc o).cell? ⟨w1.heap.size + 1, 0, none⟩ = some (.int .i64 n) := fun o => (cells2 ((Below.heap_alloc w2 o _ (Nat.lt_of_lt_of_le hszq b2.size)).trans ((b2.block _ hszq).trans HQ.out))).1
      go_wp2_with fail
      refine (HWE.out _).mono ?_
      rintro e w3 ⟨rfl, b3⟩
      have b23 : Below wr.heap.size wr w3 := (b2.alloc b2.size _).trans (b3.mono (Nat.le_trans b2.size (by simp)))
      have g3 := (b23.block _ (by omega)).trans HG.out
      have q3 := (b23.block _ hszq).trans HQ.out
      have e3 : w3.heap[w2.heap.size]? = some (.cells #[.int .u32 x1, .int .u32 x2, .int .u32 x3] 50 (0, 0)) := (b3.block _ (by simp)).trans (heap_alloc_new w2 _)
      have o3 := HO.out.below b23
      obtain ⟨cg0, cg1, cgf⟩ := cells2 g3
      obtain ⟨cq0, cq1, cqf⟩ := cells2 q3
      obtain ⟨ce0, ce1, ce2, _⟩ := cells3 e3
      have B3 := HB.out.trans (b23.mono hsz)
      have HB3 := hide B3
      have HG3 := hide g3
      have HQ3 := hide q3
      have HO3 := hide o3
      clear b23 g3 q3 e3 B3 FQ b2 b3
      by_cases hr0 : 0 ≤ r
      · have hD1 : D = some (4 + (k : Int) * 12 + r * 4) := by rw [HDk.out, HS.out, if_pos hr0]
        subst hD1
        clear o3
        go_wp2
        exact bodyPost_ret (v := .tuple #[.agg #[.int .i64 0, .slice none 0 0], .int .i64 (4 + (k : Int) * 12 + r * 4), .int .i64 1]) (by simp [results, Try.results18, go_sem, cg0, cg1]) rfl ⟨_, rfl, IsE.nil _, (HB3.out.setCell (p := ⟨w.heap.size, 0, none⟩) (by simp) _).setCell (p := ⟨w.heap.size, 1, none⟩) (by simp) _⟩
      · have hD1 : D = badAt n (E.drop (k + 1)) (k + 1) := by rw [HDk.out, HS.out, if_neg hr0]
        have HD1 := hide hD1
        have fz := o3.frozenAt
        have u0 := o3.cellAt k 0 _ (by rw [HPL.out]; exact hlt) rfl
        have u1 := o3.cellAt k 1 _ (by rw [HPL.out]; exact hlt) rfl
        have u2 := o3.cellAt k 2 _ (by rw [HPL.out]; exact hlt) rfl
        generalize (part E c k)[k]! = y at u0 u1 u2
        rw [Nat.add_zero] at u0
        clear o3 hD1
        go_wp2
        go_roundw
        case rel =>
          have R1 : Below w.heap.size w (((w3.setCell ⟨w1.heap.size, k * 3, none⟩ (.int .u32 x1)).setCell ⟨w1.heap.size, k * 3 + 1, none⟩ (.int .u32 x2)).setCell ⟨w1.heap.size, k * 3 + 2, none⟩ (.int .u32 x3)) := by
            exact ((HB3.out.setCell (p := ⟨w1.heap.size, k * 3, none⟩) (by show w.heap.size ≤ w1.heap.size; omega) _).setCell (p := ⟨w1.heap.size, k * 3 + 1, none⟩) (by show w.heap.size ≤ w1.heap.size; omega) _).setCell (p := ⟨w1.heap.size, k * 3 + 2, none⟩) (by show w.heap.size ≤ w1.heap.size; omega) _
          have R2 : (((w3.setCell ⟨w1.heap.size, k * 3, none⟩ (.int .u32 x1)).setCell ⟨w1.heap.size, k * 3 + 1, none⟩ (.int .u32 x2)).setCell ⟨w1.heap.size, k * 3 + 2, none⟩ (.int .u32 x3)).heap[w.heap.size]? = some (.cells #[.int .i64 0, .slice none 0 0] 24 (0, 0)) := by
            exact (heap_setCell_other _ ⟨w1.heap.size, k * 3 + 2, none⟩ _ _ (by show w.heap.size ≠ w1.heap.size; omega)).trans ((heap_setCell_other _ ⟨w1.heap.size, k * 3 + 1, none⟩ _ _ (by show w.heap.size ≠ w1.heap.size; omega)).trans ((heap_setCell_other _ ⟨w1.heap.size, k * 3, none⟩ _ _ (by show w.heap.size ≠ w1.heap.size; omega)).trans HG3.out))
          have R3 : (((w3.setCell ⟨w1.heap.size, k * 3, none⟩ (.int .u32 x1)).setCell ⟨w1.heap.size, k * 3 + 1, none⟩ (.int .u32 x2)).setCell ⟨w1.heap.size, k * 3 + 2, none⟩ (.int .u32 x3)).heap[w1.heap.size + 1]? = some (.cells #[.int .i64 n, .slice (some ⟨w1.heap.size, 0, none⟩) c c] 24 (0, 0)) := by
            exact (heap_setCell_other _ ⟨w1.heap.size, k * 3 + 2, none⟩ _ _ (by show w1.heap.size + 1 ≠ w1.heap.size; omega)).trans ((heap_setCell_other _ ⟨w1.heap.size, k * 3 + 1, none⟩ _ _ (by show w1.heap.size + 1 ≠ w1.heap.size; omega)).trans ((heap_setCell_other _ ⟨w1.heap.size, k * 3, none⟩ _ _ (by show w1.heap.size + 1 ≠ w1.heap.size; omega)).trans HQ3.out))
          have R4 := HO3.out.stored k (by rw [HPL.out]; exact hlt) (x1, x2, x3) HOKx.out
          rw [HP.out] at R4
          first | exact ⟨k + 1, by omega, by go_num, R1, R2, R3, R4, HD1⟩ | ((repeat apply Exists.intro); exact ⟨⟨k + 1, by omega, by go_num, R1, R2, R3, R4, HD1⟩, rfl⟩)
        case measure => simp [intOf]; omega
    · obtain rfl : k = c := by omega
      have hD1 : D = none := by rw [HDk.out, List.drop_of_length_le (by rw [HEl.out]; exact Nat.le_refl _), badAt]
      subst hD1
      have hp : part E k k = E := by simp [part, HEl.out, List.take_of_length_le]
      have o3 := HO.out
      rw [hp] at o3
      have HO3 := hide o3
      obtain ⟨cg0, cg1, cgf⟩ := cells2 HG.out
      obtain ⟨cq0, cq1, cqf⟩ := cells2 HQ.out
      clear o3 hp
      go_wp2
      refine bodyPost_ret (v := .tuple #[.agg #[.int .i64 n, .slice (some ⟨w1.heap.size, 0, none⟩) k k], .int .i64 0, .int .i64 0]) (by simp [results, Try.results18, go_sem, cg0, cg1]) rfl ⟨_, rfl, ?_, (HB.out.setCell (p := ⟨w.heap.size, 0, none⟩) (by simp) _).setCell (p := ⟨w.heap.size, 1, none⟩) (by simp) _⟩
      have hs : OwnE 39 w1.heap.size ((wr.setCell ⟨w.heap.size, 0, none⟩ (.int .i64 n)).setCell ⟨w.heap.size, 1, none⟩ (.slice (some ⟨w1.heap.size, 0, none⟩) k k)) w1.heap.size k E := ⟨ownsRow_setCell_below (ownsRow_setCell_below HO3.out.1 (by show w.heap.size < w1.heap.size; omega) _) (by show w.heap.size < w1.heap.size; omega) _, HO3.out.2⟩
      have := hs.isE
      rw [HEl.out] at this
      exact this

/-- Decode, of whatever bytes. -/
theorem decode_any (v : Value) (bs : List Int) (w : World) (hb : IsB w v bs) (hl : bs.length ≤ 140737488355328) : Calls Try.prog 18 #[v] w (DecPost w (dec bs)) := by
  unfold dec
  by_cases h : bs.length < 4 ∨ (bs.length - 4) % 12 ≠ 0
  · rw [if_pos h]
    exact decode_form v bs w hb hl h
  · rw [if_neg h]
    by_cases hn : 1048576 < numAt bs 0
    · rw [if_pos hn]
      exact decode_n v bs w hb hl h hn
    · rw [if_neg hn]
      by_cases hc : 1048576 < (bs.length - 4) / 12
      · rw [if_pos hc]
        exact decode_many v bs w hb hl h hn hc
      · rw [if_neg hc]
        exact decode_go v bs w hb _ rfl (by omega) _ (by omega) (by omega)

end Go.Proofs.Ytjkdnibfppjolaa
