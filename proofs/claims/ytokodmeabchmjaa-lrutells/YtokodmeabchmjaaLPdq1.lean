/-
  slices.choosePivotOrdered, partialInsertionSortOrdered of few numbers. A lemma file: no statement of the seat is proved here.
-/
import Derived.Test.YtokodmeabchmjaaLIns
namespace Go.Proofs.Ytokodmeabchmjaa
open Go.RowKit Go.Sort

/-- A count in a block of its own. -/
structure Count (w w' : World) (s : Nat) (lo hi : Int) : Prop where
  kept : Kept [s] w w'
  cell : ∃ c : Int, lo ≤ c ∧ c ≤ hi ∧ w'.heap[s]? = some (.cells #[.int .i64 c] 3 (0, 0))

set_option maxRecDepth 100000 in
set_option maxHeartbeats 4000000 in
theorem order2_any {g cap a b s : Nat} {d : Array Nat} {w : World} (hH : Holds encN w g 0 d) (ha : a < d.size) (hb : b < d.size) (c : Int) (hc0 : 0 ≤ c) (hc1 : c ≤ 100) (hs : w.heap[s]? = some (.cells #[.int .i64 c] 3 (0, 0))) :
    Calls Try.prog 83 #[.slice (some ⟨g, 0, none⟩) d.size cap, .int .i64 a, .int .i64 b, .pointer (some ⟨s, 0, none⟩)] w fun e w' => ∃ x y : Nat, e = .returned (.tuple #[.int .i64 x, .int .i64 y]) ∧ ((x = a ∧ y = b) ∨ (x = b ∧ y = a)) ∧ Count w w' s c (c + 1) := by
  have ca := hH a ha
  have cb := hH b hb
  rw [Nat.zero_add] at ca cb
  obtain ⟨ca, _⟩ := ca
  obtain ⟨cb, _⟩ := cb
  unfold encN at ca cb
  obtain ⟨x, hx⟩ : ∃ x, x = d[a]! := ⟨_, rfl⟩
  obtain ⟨y, hy⟩ : ∃ y, y = d[b]! := ⟨_, rfl⟩
  rw [← hx] at ca
  rw [← hy] at cb
  have hc := cell_of_heap hs 0
  simp at hc
  have hf := frozen_of_heap hs 0
  have LS := hide (fun W => less_any y x W)
  have HS := hide hs
  have hwr : IntKind.i64.wrap (c + 1) = c + 1 := i64_small _ (by omega) (by omega)
  clear hx hy hs hH
  cases hl : ltN y x with
  | true =>
    rw [hl] at LS
    go_enter Try.func83, Try.ntmps83
    go_wp2
    go_quiet ((go_at_call 72; refine Calls.quiet_of_same (LS.out _)))
    go_wp2
    go_ret2
    refine ⟨b, a, rfl, .inr ⟨rfl, rfl⟩, ⟨((Kept.refl _ w).drewN _).setCell (p := ⟨s, 0, none⟩) (.inl (by simp)) _, c + 1, by omega, by omega, ?_⟩⟩
    have := heap_setCell (w := w.drewN nq) HS.out 0 (.int .i64 (c + 1))
    simpa using this
  | false =>
    rw [hl] at LS
    go_enter Try.func83, Try.ntmps83
    go_wp2
    go_quiet ((go_at_call 72; refine Calls.quiet_of_same (LS.out _)))
    go_wp2
    go_ret2
    exact ⟨a, b, rfl, .inl ⟨rfl, rfl⟩, ⟨(Kept.refl _ w).drewN _, c, by omega, by omega, HS.out⟩⟩

theorem Holds.kept {w w' : World} {g : Nat} {d : Array Nat} {fp : List Nat} (h : Holds encN w g 0 d) (hk : Kept fp w w') (hg : g ∉ fp) (hlt : g < w.heap.size) : Holds encN w' g 0 d := fun j hj => by
  have e := hk.block g hlt hg
  refine ⟨hk.cell (h j hj).1 hg, ?_⟩
  have := (h j hj).2
  unfold World.frozen? at this ⊢
  rw [e]
  exact this

set_option maxRecDepth 100000 in
set_option maxHeartbeats 4000000 in
theorem median_any {g cap a b c s : Nat} {d : Array Nat} {w : World} (hH : Holds encN w g 0 d) (hlt : g < w.heap.size) (hgs : g ≠ s) (ha : a < d.size) (hb : b < d.size) (hc : c < d.size) (hs : w.heap[s]? = some (.cells #[.int .i64 0] 3 (0, 0))) :
    Calls Try.prog 81 #[.slice (some ⟨g, 0, none⟩) d.size cap, .int .i64 a, .int .i64 b, .int .i64 c, .pointer (some ⟨s, 0, none⟩)] w fun e w' => ∃ x : Nat, e = .returned (.int .i64 x) ∧ (x = a ∨ x = b ∨ x = c) ∧ Count w w' s 0 3 := by
  have O1 := hide (order2_any (cap := cap) hH ha hb 0 (by omega) (by omega) hs)
  have HH := hide (fun W (k : Kept [s] w W) => Holds.kept hH k (by simpa using hgs) hlt)
  clear hs hH
  go_enter Try.func81, Try.ntmps81
  go_wp2_with fail
  refine O1.out.mono ?_
  rintro e w1 ⟨x1, y1, rfl, h1, k1, c1, l1, u1, s1⟩
  have O2 := hide (order2_any (cap := cap) (a := y1) (b := c) (HH.out _ k1) (by omega) hc c1 (by omega) (by omega) s1)
  have K1 := hide k1
  have H1 := hide h1
  clear O1 s1 k1 h1
  go_wp2_with fail
  refine O2.out.mono ?_
  rintro e w2 ⟨x2, y2, rfl, h2, k2, c2, l2, u2, s2⟩
  have K2 := hide (K1.out.trans k2 (Newly.refl _ _))
  have H2 := hide h2
  have O3 := hide (order2_any (cap := cap) (a := x1) (b := x2) (HH.out _ K2.out) (by have := H1.out; omega) (by have := H1.out; have := H2.out; omega) c2 (by omega) (by omega) s2)
  clear O2 s2 k2 h2
  go_wp2_with fail
  refine O3.out.mono ?_
  rintro e w3 ⟨x3, y3, rfl, h3, k3, c3, l3, u3, s3⟩
  have K3 := hide (K2.out.trans k3 (Newly.refl _ _))
  have H3 := hide h3
  have S3 := hide s3
  clear O3 s3 k3 h3
  go_wp2_with fail
  go_ret
  refine ⟨y3, rfl, ?_, ⟨K3.out, c3, by omega, by omega, S3.out⟩⟩
  have := H1.out
  have := H2.out
  have := H3.out
  omega

set_option maxRecDepth 100000 in
set_option maxHeartbeats 4000000 in
theorem pivot_any {g cap a b : Nat} {d : Array Nat} {w : World} (hH : Holds encN w g 0 d) (hlt : g < w.heap.size) (hab : a + 12 < b) (hb : b ≤ d.size) (hsz : d.size < 50) :
    Calls Try.prog 69 #[.slice (some ⟨g, 0, none⟩) d.size cap, .int .i64 a, .int .i64 b] w fun e w' => ∃ (x : Nat) (h : Int), e = .returned (.tuple #[.int .i64 x, .int .i64 h]) ∧ a < x ∧ x < b ∧ (h = 0 ∨ h = 1) ∧ Below w.heap.size w w' := by
  obtain ⟨l, hl⟩ : ∃ l : Nat, l = b - a := ⟨_, rfl⟩
  obtain ⟨q, hq⟩ : ∃ q : Nat, q = l / 4 := ⟨_, rfl⟩
  have hk : Kept [] w (w.alloc (.cells #[.int .i64 0] 3)) := (Kept.refl _ w).alloc _
  have hb1 : Below w.heap.size w (w.alloc (.cells #[.int .i64 0] 3)) := (Below.refl _ w).alloc (Nat.le_refl _) _
  have MD := hide (median_any (cap := cap) (a := a + q) (b := a + q * 2) (c := a + q * 3) (Holds.kept hH hk (by simp) hlt) (by simp; omega) (by omega : g ≠ w.heap.size) (by omega) (by omega) (by omega) (heap_alloc_new w (.cells #[.int .i64 0] 3)))
  have e1 : IntKind.i64.wrap ((b : Int) - (a : Int)) = (l : Int) := by rw [i64_small _ (by omega) (by omega)]; omega
  have HB := hide hb1
  have h8 : (8 : Int) ≤ (l : Int) := by omega
  have h50 : ¬ (50 : Int) ≤ (l : Int) := by omega
  have hbnd : a + q * 3 < b := by omega
  have hq0 : 1 ≤ q := by omega
  have ea : ((a + q : Nat) : Int) = (a : Int) + (l : Int) / 4 := by omega
  have eb : ((a + q * 2 : Nat) : Int) = (a : Int) + (l : Int) / 4 * 2 := by omega
  have ec : ((a + q * 3 : Nat) : Int) = (a : Int) + (l : Int) / 4 * 3 := by omega
  rw [ea, eb, ec] at MD
  have hla : (l : Int) ≤ 100 := by omega
  clear hH hk hb1 hl hq ea eb ec
  go_enter Try.func69, Try.ntmps69
  go_wp2_with fail
  refine MD.out.mono ?_
  rintro e w1 ⟨x, rfl, h1, k1, c1, l1, u1, s1⟩
  have hc := cell_of_heap s1 0
  simp at hc
  have K1 := hide (HB.out.trans (k1.below (B := w.heap.size) HB.out.size (by simp)))
  have H1 := hide h1
  clear h1 k1 s1 MD
  by_cases hz : c1 = 0
  · subst hz
    go_wp2
    go_ret2
    exact ⟨x, 1, rfl, by have := H1.out; omega, by have := H1.out; omega, .inr rfl, K1.out⟩
  · have hz1 : (c1 == 0) = false := by simpa using hz
    have hz2 : (c1 == 12) = false := by simp; omega
    go_wp2
    go_ret2
    exact ⟨x, 0, rfl, by have := H1.out; omega, by have := H1.out; omega, .inl rfl, K1.out⟩

theorem sorted_adj {d : Array Nat} {a b : Nat} (h : ∀ t, a < t → t < b → ltN d[t]! d[t - 1]! = false) : SortedIn ltN a b d := by
  intro i j hi hij hj
  induction j with
  | zero => omega
  | succ j ih =>
    have h1 := h (j + 1) (by omega) hj
    simp only [Nat.add_sub_cancel, ltN, decide_eq_false_iff_not] at h1 ⊢
    by_cases e : i = j
    · subst e
      exact h1
    · have := ih (by omega) (by omega)
      simp only [ltN, decide_eq_false_iff_not] at this
      omega

set_option maxRecDepth 100000 in
set_option maxHeartbeats 4000000 in
theorem partialIns_any {g cap a b : Nat} {d : Array Nat} {w : World} (hH : Holds encN w g 0 d) (hab : a < b) (hb : b ≤ d.size) (hsz : d.size < 50) :
    Calls Try.prog 71 #[.slice (some ⟨g, 0, none⟩) d.size cap, .int .i64 a, .int .i64 b] w fun e w' => ∃ r : Bool, e = .returned (.bool r) ∧ (r = true → SortedIn ltN a b d) ∧ Kept [] w w' := by
  have LS := hide less_any
  have HH := hide hH
  have h50 : Hid ((b : Int) - (a : Int) < 50) := by show (b : Int) - (a : Int) < 50; omega
  clear hH
  go_enter Try.func71, Try.ntmps71
  go_wp2_with fail
  go_loopw [7, 8] (fun v7 v8 wr => v7 = .int .i64 ((a : Int) + 1) ∧ v8 = .int .i64 0 ∧ wr = w) (fun _ _ _ => 0)
  case atStart => exact ⟨rfl, rfl, rfl⟩
  case round =>
    obtain ⟨rfl, rfl, rfl⟩ := hrel
    go_wp2_with fail
    obtain ⟨wo, hwo⟩ : ∃ wo, wo = wr := ⟨_, rfl⟩
    subst hwo
    go_loopw [7] (fun v7 wr => ∃ i : Nat, a < i ∧ i ≤ b ∧ v7 = .int .i64 i ∧ Hid (∀ t, a < t → t < i → ltN d[t]! d[t - 1]! = false) ∧ Hid (Kept [] wo wr)) (fun v7 _ => b - numOf v7)
    case atStart => exact ⟨a + 1, by omega, by omega, by go_num, fun t h1 h2 => by omega, Kept.refl _ _⟩
    case round =>
      obtain ⟨i, hai, hib, rfl, HS, KW⟩ := hrel
      by_cases hlt : i < b
      · have hlt2 : (i : Int) < (b : Int) := by omega
        obtain ⟨k, hk⟩ : ∃ k, i = k + 1 := ⟨i - 1, by omega⟩
        obtain ⟨x, hx⟩ : ∃ x, x = d[i]! := ⟨_, rfl⟩
        obtain ⟨y, hy⟩ : ∃ y, y = d[k]! := ⟨_, rfl⟩
        have c1 := KW.out.cell (HH.out i (by omega)).1 (by simp)
        have c2 := KW.out.cell (HH.out k (by omega)).1 (by simp)
        rw [Nat.zero_add, ← hx] at c1
        rw [Nat.zero_add, ← hy] at c2
        unfold encN at c1 c2
        have hw1 : IntKind.i64.wrap ((i : Int) - 1) = (k : Int) := by rw [i64_small _ (by omega) (by omega)]; omega
        have hi1 : i < d.size := by omega
        have hk1 : k < d.size := by omega
        have XY := hide (And.intro hx (And.intro hy hk))
        clear hx hy hk
        cases hl : ltN x y with
        | false =>
          have L1 := hide (fun W => hl ▸ LS.out x y W)
          go_wp2_with fail
          go_quiet ((go_at_call 72; refine Calls.quiet_of_same (L1.out _)))
          go_wp2_with fail
          go_roundw
          case rel => exact ⟨i + 1, by omega, by omega, by go_num, fun t h1 h2 => by
            by_cases e : t = i
            · have q := XY.out
              subst e
              rw [← q.1, show t - 1 = k by omega, ← q.2.1]
              exact hl
            · exact HS.out t h1 (by omega), KW.out.drewN _⟩
          case measure => simp [numOf]; omega
        | true =>
          have L1 := hide (fun W => hl ▸ LS.out x y W)
          have hne : ((i : Int) == (b : Int)) = false := by simp; omega
          have e50 := h50.out
          have hw2 : IntKind.i64.wrap ((b : Int) - (a : Int)) = (b : Int) - (a : Int) := i64_small _ (by omega) (by omega)
          go_wp2_with fail
          go_quiet ((go_at_call 72; refine Calls.quiet_of_same (L1.out _)))
          go_wp2_with fail
          go_ret
          exact ⟨false, rfl, fun h => (by cases h), KW.out.drewN _⟩
      · obtain rfl : i = b := by omega
        have hlt2 : ¬ (i : Int) < (i : Int) := by omega
        go_wp2_with fail
        go_quiet (fail)
        go_wp2_with fail
        go_ret
        exact ⟨true, rfl, fun _ => sorted_adj HS.out, KW.out.drewN _⟩

end Go.Proofs.Ytokodmeabchmjaa
