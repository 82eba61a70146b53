/-
  What the reference's Decode does. A lemma file: no statement of the seat is proved here.
-/
import Derived.Test.YtjkdnibfppjolaaRef1
namespace Go.Proofs.Ytjkdnibfppjolaa
open Go.RowKit

/-- The reference's Get of four bytes. -/
theorem ref4 (v : Value) (bs : List Int) (p : Nat) (w : World) (hb : IsB w v bs) (hl : bs.length ≤ 140737488355328) (hp : p + 4 ≤ bs.length) :
    Calls Try.prog 31 #[v, .int .i64 p, .int .i64 4] w fun e w' => e = .returned (.tuple #[.int .u64 (numAt bs p), .bool true]) ∧ w' = w :=
  refGet_yes v bs p 4 w hb hl (by omega) (by omega) hp

set_option maxHeartbeats 1000000 in
theorem rdecode_form (v : Value) (bs : List Int) (w : World) (hb : IsB w v bs) (hl : bs.length ≤ 140737488355328) (h : bs.length < 4 ∨ (bs.length - 4) % 12 ≠ 0) :
    Calls Try.prog 19 #[v] w (DecPost w (0, [], bs.length, 2)) := by
  obtain ⟨a, cap, rfl, _⟩ := hb.form
  clear hb
  by_cases h4 : bs.length < 4
  · go_enter Try.func19, Try.ntmps19
    go_wp2
    exact bodyPost_ret (v := .tuple #[.agg #[.int .i64 0, .slice none 0 0], .int .i64 bs.length, .int .i64 2]) (by simp [results, Try.results19, go_sem]) rfl ⟨_, rfl, IsE.nil _, (Below.refl _ _).alloc (Nat.le_refl _) _⟩
  · have hm : ((bs.length : Int) % 12 != 4) = true := by simp; omega
    go_enter Try.func19, Try.ntmps19
    go_wp2
    exact bodyPost_ret (v := .tuple #[.agg #[.int .i64 0, .slice none 0 0], .int .i64 bs.length, .int .i64 2]) (by simp [results, Try.results19, go_sem]) rfl ⟨_, rfl, IsE.nil _, (Below.refl _ _).alloc (Nat.le_refl _) _⟩

set_option maxHeartbeats 1000000 in
theorem rdecode_n (v : Value) (bs : List Int) (w : World) (hb : IsB w v bs) (hl : bs.length ≤ 140737488355328) (h : ¬ (bs.length < 4 ∨ (bs.length - 4) % 12 ≠ 0)) (hn : 1048576 < numAt bs 0) :
    Calls Try.prog 19 #[v] w (DecPost w (0, [], 0, 1)) := by
  have hN := ref4 v bs 0 _ (hb.below ((Below.refl _ w).alloc (Nat.le_refl _) (.cells #[.int .i64 0, .slice none 0 0] 24))) hl (by omega)
  obtain ⟨a, cap, rfl, _⟩ := hb.form
  clear hb
  generalize numAt bs 0 = x at hN hn
  have hm : ((bs.length : Int) % 12 != 4) = false := by simp; omega
  have h4 : ¬ (bs.length : Int) < 4 := by omega
  have HN := hide hN
  clear hN h
  go_enter Try.func19, Try.ntmps19
  go_wp2_with (go_at_call 31; refine HN.out.mono ?_; rintro e w1 ⟨rfl, rfl⟩)
  exact bodyPost_ret (v := .tuple #[.agg #[.int .i64 0, .slice none 0 0], .int .i64 0, .int .i64 1]) (by simp [results, Try.results19, go_sem]) rfl ⟨_, rfl, IsE.nil _, (Below.refl _ _).alloc (Nat.le_refl _) _⟩

theorem wrongE_ok (n : Int) (x : Ed) (hx : okE x) : wrongE n x = if n ≤ x.1 then 0 else if n ≤ x.2.1 then 1 else -1 := by
  obtain ⟨⟨a0, a1⟩, ⟨b0, b1⟩, _⟩ := hx
  unfold wrongE
  rw [show IntKind.u64.wrap x.1 = x.1 by rw [IntKind.wrap_u64]; omega, show IntKind.u64.wrap x.2.1 = x.2.1 by rw [IntKind.wrap_u64]; omega]

/-- The block of a row of edges is none of another kind. -/
theorem OwnV.block_ne {B : Nat} {w : World} {v : Value} {es : List Ed} (h : OwnV B w v es) {k t : Nat} {cs : Array Value} (hk : w.heap[k]? = some (.cells cs t (0, 0))) (ht : t ≠ 39) : some k ≠ v.ownBlock := by
  rcases h.1.2 with ⟨rfl, _⟩ | ⟨g, cap, cur, rfl, _, hh, _⟩
  · simp [Value.ownBlock]
  · intro e
    simp only [Value.ownBlock, Option.some.injEq] at e
    subst e
    rw [hk] at hh
    simp only [Option.some.injEq, Obj.cells.injEq] at hh
    exact ht hh.2.1

theorem OwnV.base {B : Nat} {w : World} {v : Value} {es : List Ed} (h : OwnV B w v es) : ∀ k, v.ownBlock = some k → B ≤ k := fun k hk => (h.1.lt k hk).1

set_option maxRecDepth 100000 in
set_option maxHeartbeats 4000000 in
theorem rdecode_go (v : Value) (bs : List Int) (w : World) (hb : IsB w v bs) (n : Int) (hn : n = numAt bs 0) (hn1 : n ≤ 1048576) (c : Nat) (hc : bs.length = 4 + c * 12) (hc1 : c ≤ 1048576) :
    Calls Try.prog 19 #[v] w (DecPost w (match badAt n (edgesOf bs c) 0 with | some p => (0, [], p, 1) | none => (n, edgesOf bs c, 0, 0))) := by
  have hN := ref4 v bs 0 _ (hb.below ((Below.refl _ w).alloc (Nat.le_refl _) (.cells #[.int .i64 0, .slice none 0 0] 24))) (by omega) (by omega)
  have hn0 := (numAt_range bs 0 hb.bytes).1
  rw [← hn] at hN hn0
  have hm : ((bs.length : Int) % 12 != 4) = false := by simp; omega
  have h4 : ¬ (bs.length : Int) < 4 := by omega
  have hq : ¬ (1048576 : Int) < (bs.length : Int) / 12 := by omega
  have hEl := edgesOf_length bs c
  have HBB := hide hb.bytes
  have hAt := fun k (hk : k < c) => edgesOf_at bs c k hk
  have NA := hide fun (p : Nat) (hp : p + 4 ≤ bs.length) w hb => ref4 v bs p w hb (by omega) hp
  have HI := hide (fun w' (h : Below w.heap.size w w') => hb.below h)
  have hEok : ∀ k, k < c → okE (edgesOf bs c)[k]! := fun k hk => by rw [edgesOf_at bs c k hk]; exact edAt_ok bs _ HBB.out
  obtain ⟨a, cap, rfl, _⟩ := hb.form
  obtain ⟨E, hE⟩ : ∃ E, E = edgesOf bs c := ⟨_, rfl⟩
  rw [← hE] at hEl hAt hEok ⊢
  have HN := hide hN
  have HEl := hide hEl
  have HAt := hide hAt
  have HEok := hide hEok
  have HL := hide hc
  have hbl : 4 + c * 12 ≤ bs.length := by omega
  have hwn : IntKind.i64.wrap n = n := i64_small n (by omega) (by omega)
  obtain ⟨D, hD⟩ : ∃ D, D = badAt n E 0 := ⟨_, rfl⟩
  rw [← hD]
  have HD := hide hD
  clear hN hb hn hE hEl hAt hEok hc hD
  go_enter Try.func19, Try.ntmps19
  go_wp2_with fail
  refine HN.out.mono ?_
  rintro e w1 ⟨rfl, rfl⟩
  go_wp2
  have hW0 : Below w.heap.size w ((w.alloc (.cells #[.int .i64 0, .slice none 0 0] 24)).alloc (.cells #[.int .i64 n, .slice none 0 0] 24)) := ((Below.refl _ w).alloc (Nat.le_refl _) _).alloc (by simp) _
  have hG0 : ((w.alloc (.cells #[.int .i64 0, .slice none 0 0] 24)).alloc (.cells #[.int .i64 n, .slice none 0 0] 24)).heap[w.heap.size]? = some (.cells #[.int .i64 0, .slice none 0 0] 24 (0, 0)) := (Below.heap_alloc _ _ _ (by simp)).trans (heap_alloc_new w _)
  have hQ0 : ((w.alloc (.cells #[.int .i64 0, .slice none 0 0] 24)).alloc (.cells #[.int .i64 n, .slice none 0 0] 24)).heap[w.heap.size + 1]? = some (.cells #[.int .i64 n, .slice none 0 0] 24 (0, 0)) := by
    have := heap_alloc_new (w.alloc (.cells #[.int .i64 0, .slice none 0 0] 24)) (.cells #[.int .i64 n, .slice none 0 0] 24)
    simpa using this
  clear hm hq h4
  go_loopw [8] (fun i wr => ∃ (k : Nat) (av : Option Addr) (cv : Nat), k ≤ c ∧ i = .int .i64 (4 + (k : Int) * 12) ∧ Hid (Below w.heap.size w wr) ∧ Hid (wr.heap[w.heap.size]? = some (.cells #[.int .i64 0, .slice none 0 0] 24 (0, 0))) ∧ Hid (wr.heap[w.heap.size + 1]? = some (.cells #[.int .i64 n, .slice av k cv] 24 (0, 0))) ∧ Hid (OwnV (w.heap.size + 2) wr (.slice av k cv) (E.take k)) ∧ Hid (D = badAt n (E.drop k) k)) (fun i _ => bs.length - (intOf i).toNat)
  case atStart => exact ⟨0, none, 0, Nat.zero_le _, rfl, hW0, hG0, hQ0, OwnV.nil _ _, HD⟩
  case round =>
    clear hW0 hG0 hQ0
    obtain ⟨k, av, cv, hk, rfl, HB, HG, HQ, HO, HDk⟩ := hrel
    by_cases hlt : k < c
    · have hlti : (4 : Int) + (k : Int) * 12 < (bs.length : Int) := by omega
      have hA0 := NA.out (4 + k * 12) (by omega) wr (HI.out _ HB.out)
      have hA1 := NA.out (4 + k * 12 + 4) (by omega) wr (HI.out _ HB.out)
      have hA2 := NA.out (4 + k * 12 + 8) (by omega) wr (HI.out _ HB.out)
      have hEk := HAt.out k hlt
      have hok := HEok.out k hlt
      have hst := badAt_step n E k (by rw [HEl.out]; exact hlt)
      have htk : E.take (k + 1) = E.take k ++ [E[k]!] := by rw [List.take_succ_eq_append_getElem (by rw [HEl.out]; exact hlt), getElem!_pos E k (by rw [HEl.out]; exact hlt)]
      have hwk := wrongE_ok n E[k]! hok
      obtain ⟨x, hx⟩ : ∃ x, x = E[k]! := ⟨_, rfl⟩
      rw [← hx] at hok hst htk hwk hEk
      rw [show ((4 + k * 12 : Nat) : Int) = 4 + (k : Int) * 12 by omega] at hA0
      rw [show ((4 + k * 12 + 4 : Nat) : Int) = 4 + (k : Int) * 12 + 4 by omega] at hA1
      rw [show ((4 + k * 12 + 8 : Nat) : Int) = 4 + (k : Int) * 12 + 8 by omega] at hA2
      obtain ⟨x1, x2, x3⟩ := x
      simp only [edAt, Prod.mk.injEq] at hEk
      obtain ⟨hE1, hE2, hE3⟩ := hEk
      rw [← hE1] at hA0
      rw [← hE2] at hA1
      rw [← hE3] at hA2
      have hxs := hok
      obtain ⟨⟨ha0, ha1⟩, ⟨hb0, hb1⟩, ⟨hc0, hc1'⟩⟩ := hxs
      dsimp only at ha0 ha1 hb0 hb1 hc0 hc1'
      have hw1 : IntKind.u32.wrap x1 = x1 := by rw [IntKind.wrap_u32]; omega
      have hw2 : IntKind.u32.wrap x2 = x2 := by rw [IntKind.wrap_u32]; omega
      have hw3 : IntKind.u32.wrap x3 = x3 := by rw [IntKind.wrap_u32]; omega
      have HA0 := hide hA0
      have HA1 := hide hA1
      have HA2 := hide hA2
      have HS := hide hst
      have HOKx := hide hok
      have HTK := hide htk
      have HWK := hide hwk
      obtain ⟨cg0, cg1, cgf⟩ := cells2 HG.out
      obtain ⟨cq0, cq1, cqf⟩ := cells2 HQ.out
      have hszq := (Array.getElem?_eq_some_iff.1 HQ.out).1
      clear hA0 hA1 hA2 hst hok htk hwk hE1 hE2 hE3 hx
      by_cases h1 : n ≤ x1
      · have hD1 : D = some (4 + (k : Int) * 12) := by
          rw [HDk.out, HS.out, HWK.out, if_pos h1, if_pos (by omega)]
          congr 1
        subst hD1
        go_wp2_with fail
        refine HA0.out.mono ?_
        rintro e w2 ⟨rfl, rfl⟩
        go_wp2_with fail
        refine HA1.out.mono ?_
        rintro e w2 ⟨rfl, rfl⟩
        go_wp2_with fail
        refine HA2.out.mono ?_
        rintro e w2 ⟨rfl, rfl⟩
        go_wp2
        exact bodyPost_ret (v := .tuple #[.agg #[.int .i64 0, .slice none 0 0], .int .i64 (4 + (k : Int) * 12), .int .i64 1]) (by simp [results, Try.results19, go_sem, cg0, cg1]) rfl ⟨_, rfl, IsE.nil _, (HB.out.setCell (p := ⟨w.heap.size, 0, none⟩) (by simp) _).setCell (p := ⟨w.heap.size, 1, none⟩) (by simp) _⟩
      · by_cases h2 : n ≤ x2
        · have hD1 : D = some (4 + (k : Int) * 12 + 4) := by
            rw [HDk.out, HS.out, HWK.out, if_neg h1, if_pos h2, if_pos (by omega)]
            congr 1
          subst hD1
          go_wp2_with fail
          refine HA0.out.mono ?_
          rintro e w2 ⟨rfl, rfl⟩
          go_wp2_with fail
          refine HA1.out.mono ?_
          rintro e w2 ⟨rfl, rfl⟩
          go_wp2_with fail
          refine HA2.out.mono ?_
          rintro e w2 ⟨rfl, rfl⟩
          go_wp2
          exact bodyPost_ret (v := .tuple #[.agg #[.int .i64 0, .slice none 0 0], .int .i64 (4 + (k : Int) * 12 + 4), .int .i64 1]) (by simp [results, Try.results19, go_sem, cg0, cg1]) rfl ⟨_, rfl, IsE.nil _, (HB.out.setCell (p := ⟨w.heap.size, 0, none⟩) (by simp) _).setCell (p := ⟨w.heap.size, 1, none⟩) (by simp) _⟩
        · have hD1 : D = badAt n (E.drop (k + 1)) (k + 1) := by rw [HDk.out, HS.out, HWK.out, if_neg h1, if_neg h2, if_neg (by omega)]
          have HD1 := hide hD1
          clear hD1
          have b4 : Below wr.heap.size wr (wr.alloc (.cells #[.int .u32 x1, .int .u32 x2, .int .u32 x3] 39)) := (Below.refl _ wr).alloc (Nat.le_refl _) _
          have O4 := hide (HO.out.below b4)
          have I4 := hide (IsE.new wr [(x1, x2, x3)] 39 (0, 0) (fun e he => by simp at he; subst he; exact HOKx.out))
          have hk1 : (E.take k).length = k := by rw [List.length_take, HEl.out]; omega
          have HK1 := hide hk1
          have B4 := hide b4
          clear hk1 b4
          go_wp2_with fail
          refine HA0.out.mono ?_
          rintro e w2 ⟨rfl, rfl⟩
          go_wp2_with fail
          refine HA1.out.mono ?_
          rintro e w2 ⟨rfl, rfl⟩
          go_wp2_with fail
          refine HA2.out.mono ?_
          rintro e w2 ⟨rfl, rfl⟩
          go_wp2_with (at_builtin; refine wp_appendE _ rfl (.tmp 81) (.tmp 89) rfl (w.heap.size + 2) (.slice av k cv) (.slice (some ⟨w2.heap.size, 0, none⟩) 1 1) (E.take k) [(x1, x2, x3)] rfl O4.out rfl I4.out (by rw [HK1.out]; simp; omega) (by simp; omega) ?_; intro a5 cap5 w5 o5 g5 n5; rw [HK1.out, List.length_singleton] at o5; rw [HK1.out, List.length_singleton]; have q5 : w5.heap[w.heap.size + 1]? = some (.cells #[.int .i64 n, .slice av k cv] 24 (0, 0)) := ((g5.block _ (by simp; omega) (HO.out.block_ne HQ.out (by decide))).trans (Below.heap_alloc _ _ _ hszq)).trans HQ.out; obtain ⟨c50, c51, c5f⟩ := cells2 q5; have Q5 := hide q5; clear q5)
          go_roundw
          case rel =>
            have bA : Below w.heap.size w (w2.alloc (.cells #[.int .u32 x1, .int .u32 x2, .int .u32 x3] 39)) := HB.out.alloc HB.out.size _
            have R1 : Below w.heap.size w (w5.setCell ⟨w.heap.size + 1, 1, none⟩ (.slice a5 (k + 1) cap5)) := (bA.grown g5 bA.size (by intro j hj; have := HO.out.base j hj; omega)).setCell (p := ⟨w.heap.size + 1, 1, none⟩) (by simp) _
            have R2 : (w5.setCell ⟨w.heap.size + 1, 1, none⟩ (.slice a5 (k + 1) cap5)).heap[w.heap.size]? = some (.cells #[.int .i64 0, .slice none 0 0] 24 (0, 0)) := (heap_setCell_other _ ⟨w.heap.size + 1, 1, none⟩ _ _ (by simp)).trans (((g5.block _ (by simp; omega) (HO.out.block_ne HG.out (by decide))).trans (Below.heap_alloc _ _ _ (by omega))).trans HG.out)
            have R3 := heap_setCell_same w5 (w.heap.size + 1) 1 _ _ (.slice a5 (k + 1) cap5) Q5.out
            simp only [List.setIfInBounds_toArray, List.set_cons_zero, List.set_cons_succ] at R3
            have R4 := o5.other (i := 1) (.slice a5 (k + 1) cap5) Q5.out (by decide)
            rw [← HTK.out] at R4
            have R5 : Value.int .i64 (4 + (k : Int) * 12 + 12) = Value.int .i64 (4 + ((k + 1 : Nat) : Int) * 12) := by rw [show (4 : Int) + (k : Int) * 12 + 12 = 4 + ((k + 1 : Nat) : Int) * 12 by omega]
            first | exact ⟨k + 1, a5, cap5, by omega, R5, R1, R2, R3, R4, HD1⟩ | ((repeat apply Exists.intro); exact ⟨⟨k + 1, a5, cap5, by omega, R5, R1, R2, R3, R4, HD1⟩, rfl⟩)
          case measure => simp [intOf]; omega
    · obtain rfl : k = c := by omega
      have hlti : ¬ (4 : Int) + (k : Int) * 12 < (bs.length : Int) := by have := HL.out; omega
      have hD1 : D = none := by rw [HDk.out, List.drop_of_length_le (by rw [HEl.out]; exact Nat.le_refl _), badAt]
      subst hD1
      have o3 := HO.out
      rw [List.take_of_length_le (by rw [HEl.out]; exact Nat.le_refl _)] at o3
      have HO3 := hide o3
      obtain ⟨cg0, cg1, cgf⟩ := cells2 HG.out
      obtain ⟨cq0, cq1, cqf⟩ := cells2 HQ.out
      clear o3
      go_wp2
      refine bodyPost_ret (v := .tuple #[.agg #[.int .i64 n, .slice av k cv], .int .i64 0, .int .i64 0]) (by simp [results, Try.results19, go_sem, cg0, cg1]) rfl ⟨_, rfl, ?_, (HB.out.setCell (p := ⟨w.heap.size, 0, none⟩) (by simp) _).setCell (p := ⟨w.heap.size, 1, none⟩) (by simp) _⟩
      exact ((HO3.out.other _ HG.out (by decide)).other _ (heap_setCell_same wr w.heap.size 0 _ _ _ HG.out) (by decide)).isE

/-- The reference's Decode, of bytes that are no more than the greatest number of edges needs. -/
theorem rdecode_any (v : Value) (bs : List Int) (w : World) (hb : IsB w v bs) (hl : bs.length ≤ 12582916) : Calls Try.prog 19 #[v] w (DecPost w (dec bs)) := by
  unfold dec
  by_cases h : bs.length < 4 ∨ (bs.length - 4) % 12 ≠ 0
  · rw [if_pos h]
    exact rdecode_form v bs w hb (by omega) h
  · rw [if_neg h]
    by_cases hn : 1048576 < numAt bs 0
    · rw [if_pos hn]
      exact rdecode_n v bs w hb (by omega) h hn
    · rw [if_neg hn, if_neg (by omega)]
      exact rdecode_go v bs w hb _ rfl (by omega) _ (by omega) (by omega)

end Go.Proofs.Ytjkdnibfppjolaa
