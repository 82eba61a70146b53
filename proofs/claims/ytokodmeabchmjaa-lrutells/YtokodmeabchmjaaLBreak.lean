/-
  slices.breakPatternsOrdered of few numbers. A lemma file: no statement of the seat is proved here.
-/
import Derived.Test.YtokodmeabchmjaaLSmall
import Derived.Shelf.SlSortCmp.Xorshift
namespace Go.Proofs.Ytokodmeabchmjaa
open Go.RowKit Go.Sort

theorem npow_any (n : Nat) (hn : n ≤ 1000000) (w : World) : Calls Try.prog 78 #[.int .i64 n] w fun e w' => e = .returned (.int .u64 ((1 <<< bitsLen n : Nat) : Int)) ∧ w' = w :=
  AnyF.nextPowerOfTwo Try.powL n (by omega) w

theorem next_any (s X : Nat) (hX : X < 18446744073709551616) (w : World) (hc : w.cell? ⟨s, 0, none⟩ = some (.int .u64 X)) (hf : w.frozen? ⟨s, 0, none⟩ = false) :
    Calls Try.prog 79 #[.pointer (some ⟨s, 0, none⟩)] w fun e w' => e = .returned (.int .u64 (xorNextN X : Nat)) ∧ w' = (w.setCell ⟨s, 0, none⟩ (.int .u64 (xorNextN X : Nat))).drewN 3 :=
  AnyF.xorshift_Next Try.nextL s 0 X hX w hc hf

/-- What a breaking of patterns has done so far: its random number lies in block s. -/
structure Broken (w : World) (g s : Nat) (d : Array Nat) (a b R : Nat) (dk : Array Nat) (wr : World) : Prop where
  perm : PermIn a b d dk
  holds : Holds encN wr g 0 dk
  kept : Kept [g] w wr
  rnd : wr.heap[s]? = some (.cells #[.int .u64 R] 105 (0, 0))
  lt : R < 18446744073709551616

theorem Broken.step {w wr : World} {g s a b R R' i j : Nat} {d dk : Array Nat} (h : Broken w g s d a b R dk wr) (hs : w.heap.size ≤ s) (hg : g < w.heap.size) (hR : R' < 18446744073709551616) (hb : b ≤ d.size) (hi : a ≤ i ∧ i < b) (hj : a ≤ j ∧ j < b) (n m : Nat) :
    Broken w g s d a b R' (swp dk i j) ((((((wr.setCell ⟨s, 0, none⟩ (.int .u64 (R' : Int))).drewN n).setCell ⟨g, i, none⟩ (encN dk[j]!)).setCell ⟨g, j, none⟩ (encN dk[i]!))).drewN m) := by
  have hsz := h.perm.1
  have k1 : Kept [s] wr ((wr.setCell ⟨s, 0, none⟩ (.int .u64 (R' : Int))).drewN n) := ((Kept.refl _ wr).setCell (p := ⟨s, 0, none⟩) (.inl (by simp)) _).drewN n
  have hgw : g < wr.heap.size := Nat.lt_of_lt_of_le hg h.kept.size
  have h1 : Holds encN ((wr.setCell ⟨s, 0, none⟩ (.int .u64 (R' : Int))).drewN n) g 0 dk := fun t ht => by
    have e := k1.block g hgw (by simp; omega)
    refine ⟨k1.cell (h.holds t ht).1 (by simp; omega), ?_⟩
    have := (h.holds t ht).2
    unfold World.frozen? at this ⊢
    rw [e]
    exact this
  have r1 := (RowAt.self h1).swap i j (by omega) (by omega)
  have k2 := r1.kept
  refine ⟨permIn_trans _ _ _ _ _ h.perm (swp_permIn dk a b i j hi.1 hi.2 hj.1 hj.2 (by omega)), ?_, ?_, ?_, hR⟩
  · exact (r1.drewN m).holds h1 (size_swp _ _ _)
  · have k3 : Kept [g] w ((wr.setCell ⟨s, 0, none⟩ (.int .u64 (R' : Int))).drewN n) := (h.kept.setCell (p := ⟨s, 0, none⟩) (.inr hs) _).drewN n
    exact (k3.trans k2 (Newly.refl _ _)).drewN m
  · have e := heap_setCell h.rnd 0 (.int .u64 (R' : Int))
    have e2 := k2.block s (by
      have := (Array.getElem?_eq_some_iff.1 h.rnd).1
      have q := k1.size
      omega) (by simp; omega)
    refine e2.trans (Eq.trans e ?_)
    simp

set_option maxRecDepth 100000 in
set_option maxHeartbeats 4000000 in
theorem break_any {g cap a b : Nat} {d : Array Nat} {w : World} (hH : Holds encN w g 0 d) (hg : g < w.heap.size) (hab : a + 12 < b) (hb : b ≤ d.size) (hsz : d.size ≤ 1000) :
    Calls Try.prog 68 #[.slice (some ⟨g, 0, none⟩) d.size cap, .int .i64 a, .int .i64 b] w fun e w' => e = .returned (.tuple #[]) ∧ ∃ d', PermIn a b d d' ∧ Holds encN w' g 0 d' ∧ Kept [g] w w' := by
  obtain ⟨s, hs⟩ : ∃ s, s = w.heap.size := ⟨_, rfl⟩
  obtain ⟨L, hL⟩ : ∃ L, L = b - a := ⟨_, rfl⟩
  obtain ⟨c, hc⟩ : ∃ c, c = a + L / 4 * 2 := ⟨_, rfl⟩
  obtain ⟨M, hM⟩ : ∃ M : Nat, M = 1 <<< bitsLen L := ⟨_, rfl⟩
  have hM1 : 1 ≤ M := by rw [hM, Nat.one_shiftLeft]; exact Nat.two_pow_pos _
  have hM2 : M ≤ 2 * L := by rw [hM, Nat.one_shiftLeft]; exact two_pow_bitsLen_le (by omega)
  have NP := hide (fun W => npow_any L (by omega) W)
  rw [← hM] at NP
  have m0 : (b : Int) - (a : Int) = (L : Int) := by omega
  have m1 : (a : Int) + (L : Int) / 4 * 2 = (c : Int) := by omega
  have h8 : (8 : Int) ≤ (L : Int) := by omega
  have B0 : Hid (Broken w g s d a b L d (w.alloc (.cells #[.int .u64 (L : Int)] 105))) := by
    have k : Kept [g] w (w.alloc (.cells #[.int .u64 (L : Int)] 105)) := (Kept.refl _ w).alloc _
    have k0 : Kept [] w (w.alloc (.cells #[.int .u64 (L : Int)] 105)) := (Kept.refl _ w).alloc _
    refine ⟨permIn_refl _ _ _, fun t ht => ?_, k, by rw [hs]; exact heap_alloc_new w _, by omega⟩
    have e := k0.block g hg (by simp)
    refine ⟨k0.cell (hH t ht).1 (by simp), ?_⟩
    have := (hH t ht).2
    unfold World.frozen? at this ⊢
    rw [e]
    exact this
  have hLb : L ≤ 1000 := by omega
  have hcb : c ≤ 2000 := by omega
  have hc1 : 1 ≤ c := by omega
  have hcl : Hid (c + 1 < b ∧ a + 1 ≤ c ∧ L = b - a ∧ s = w.heap.size) := ⟨by omega, by omega, hL, hs⟩
  clear hM hH hL hc
  go_enter Try.func68, Try.ntmps68
  go_wp2_with fail
  refine (NP.out _).mono ?_
  rintro e w1 ⟨rfl, rfl⟩
  go_wp2_with fail
  rw [← hs]
  clear NP hs
  go_loopw [9] (fun v wr => ∃ (I R : Nat) (dk : Array Nat), v = .int .i64 I ∧ c ≤ I + 1 ∧ I ≤ c + 2 ∧ Hid (Broken w g s d a b R dk wr)) (fun v _ => 3000 - numOf v)
  case atStart => exact ⟨c - 1, L, d, by go_num, by omega, by omega, B0⟩
  case round =>
    clear B0
    obtain ⟨I, R, dk, rfl, hI1, hI2, HB⟩ := hrel
    by_cases hI : I ≤ c + 1
    · have hI3 : (I : Int) ≤ (c : Int) + 1 := by omega
      obtain ⟨R', hR'⟩ : ∃ R' : Nat, R' = xorNextN R := ⟨_, rfl⟩
      have lR' : R' < 18446744073709551616 := by rw [hR']; exact xorNextN_lt R HB.out.lt
      obtain ⟨O, hO⟩ : ∃ O : Nat, O = R' &&& (M - 1) := ⟨_, rfl⟩
      have lO : O ≤ M - 1 := by rw [hO]; exact Nat.and_le_right
      have eAnd : bits .and .u64 (R' : Int) ((M : Int) - 1) = (O : Int) := by
        rw [show ((M : Int) - 1) = ((M - 1 : Nat) : Int) by omega, bits_and_u64_nat _ _ lR' (by omega), hO]
      have NX := hide (next_any s R HB.out.lt wr (by have := cell_of_heap HB.out.rnd 0; simpa using this) (frozen_of_heap HB.out.rnd 0))
      rw [← hR'] at NX
      have hsk := HB.out.perm.1
      have bI : I < d.size := by have := hcl.out.1; omega
      have cI := (HB.out.holds I (by omega))
      rw [Nat.zero_add] at cI
      have hIa : Hid (a ≤ I ∧ I < b) := ⟨by have := hcl.out.2.1; omega, by have := hcl.out.1; omega⟩
      have hgs : ¬ g = s := by have := hcl.out.2.2.2; omega
      have hsg : ¬ s = g := by omega
      clear hO hR'
      by_cases hLO : L ≤ O
      · have hLO2 : (L : Int) ≤ (O : Int) := by omega
        obtain ⟨o, ho⟩ : ∃ o, o = O - L := ⟨_, rfl⟩
        obtain ⟨q, hq⟩ : ∃ q, q = a + o := ⟨_, rfl⟩
        have e1 : (O : Int) - (L : Int) = (o : Int) := by omega
        have e2 : (a : Int) + (o : Int) = (q : Int) := by omega
        have hob : o < L := by omega
        clear ho
        have lq : Hid (a ≤ q ∧ q < b) := ⟨by have := hcl.out.2.2.1; omega, by have := hcl.out.2.2.1; omega⟩
        have bq : q < d.size := by have := lq.out; omega
        have cq := (HB.out.holds q (by omega))
        rw [Nat.zero_add] at cq
        have ST := hide (HB.out.step (by have := hcl.out.2.2.2; omega) hg lR' hb hIa.out lq.out 3 1)
        obtain ⟨y, hy⟩ : ∃ y, y = dk[q]! := ⟨_, rfl⟩
        rw [← hy] at cq ST
        obtain ⟨x, hx⟩ : ∃ x, x = dk[I]! := ⟨_, rfl⟩
        rw [← hx] at cI ST
        obtain ⟨cq, zq⟩ := cq
        obtain ⟨cI, zI⟩ := cI
        unfold encN at cI cq ST
        have HE := hide (And.intro hx hy)
        have wq1 : IntKind.i64.wrap (q : Int) = (q : Int) := i64_small _ (by omega) (by omega)
        clear hx hy hq
        by_cases hE : I = q
        · subst hE
          obtain rfl : x = y := by rw [HE.out.1, HE.out.2]
          go_wp2_with fail
          refine NX.out.mono ?_
          rintro e w2 ⟨rfl, rfl⟩
          go_wp2_with fail
          go_region
          all_goals
          go_wp2_with fail
          go_roundw
          case rel => exact ⟨I + 1, R', _, by go_num, by omega, by omega, ST⟩
          case measure => simp [numOf]; omega
        · have hE2 : ¬ q = I := fun h => hE h.symm
          go_wp2_with fail
          refine NX.out.mono ?_
          rintro e w2 ⟨rfl, rfl⟩
          go_wp2_with fail
          go_region
          all_goals
          go_wp2_with fail
          go_roundw
          case rel => exact ⟨I + 1, R', _, by go_num, by omega, by omega, ST⟩
          case measure => simp [numOf]; omega
      · have hLO2 : ¬ (L : Int) ≤ (O : Int) := by omega
        obtain ⟨q, hq⟩ : ∃ q, q = a + O := ⟨_, rfl⟩
        have e2 : (a : Int) + (O : Int) = (q : Int) := by omega
        have lq : Hid (a ≤ q ∧ q < b) := ⟨by have := hcl.out.2.2.1; omega, by have := hcl.out.2.2.1; omega⟩
        have bq : q < d.size := by have := lq.out; omega
        have cq := (HB.out.holds q (by omega))
        rw [Nat.zero_add] at cq
        have ST := hide (HB.out.step (by have := hcl.out.2.2.2; omega) hg lR' hb hIa.out lq.out 3 1)
        obtain ⟨y, hy⟩ : ∃ y, y = dk[q]! := ⟨_, rfl⟩
        rw [← hy] at cq ST
        obtain ⟨x, hx⟩ : ∃ x, x = dk[I]! := ⟨_, rfl⟩
        rw [← hx] at cI ST
        obtain ⟨cq, zq⟩ := cq
        obtain ⟨cI, zI⟩ := cI
        unfold encN at cI cq ST
        have HE := hide (And.intro hx hy)
        have wq1 : IntKind.i64.wrap (q : Int) = (q : Int) := i64_small _ (by omega) (by omega)
        clear hx hy hq
        by_cases hE : I = q
        · subst hE
          obtain rfl : x = y := by rw [HE.out.1, HE.out.2]
          go_wp2_with fail
          refine NX.out.mono ?_
          rintro e w2 ⟨rfl, rfl⟩
          go_wp2_with fail
          go_region
          all_goals
          go_wp2_with fail
          go_roundw
          case rel => exact ⟨I + 1, R', _, by go_num, by omega, by omega, ST⟩
          case measure => simp [numOf]; omega
        · have hE2 : ¬ q = I := fun h => hE h.symm
          go_wp2_with fail
          refine NX.out.mono ?_
          rintro e w2 ⟨rfl, rfl⟩
          go_wp2_with fail
          go_region
          all_goals
          go_wp2_with fail
          go_roundw
          case rel => exact ⟨I + 1, R', _, by go_num, by omega, by omega, ST⟩
          case measure => simp [numOf]; omega
    · have hI3 : ¬ (I : Int) ≤ (c : Int) + 1 := by omega
      go_wp2_with fail
      go_end0
      exact ⟨rfl, dk, HB.out.perm, HB.out.holds, HB.out.kept⟩

end Go.Proofs.Ytokodmeabchmjaa
