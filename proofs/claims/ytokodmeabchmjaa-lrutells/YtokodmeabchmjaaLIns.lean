/-
  slices.insertionSortOrdered of numbers. A lemma file: no statement of the seat is proved here.
-/
import Derived.Test.YtokodmeabchmjaaLSort
namespace Go.Proofs.Ytokodmeabchmjaa
open Go.RowKit Go.Sort

/-! ### The plain functions, a round at a time -/
theorem inner_on {a j : Nat} {d : Array Nat} (hj : a ≤ j) (hl : ltN d[j + 1]! d[j]! = true) : insInner ltN a (j + 1) d = insInner ltN a j (swp d (j + 1) j) := by
  conv => lhs; unfold insInner
  rw [if_pos (by simp [hl]; omega)]
theorem inner_low {a j : Nat} {d : Array Nat} (hj : j ≤ a) : insInner ltN a j d = d := by
  cases j with
  | zero => unfold insInner; rfl
  | succ j => unfold insInner; rw [if_neg (by simp; omega)]
theorem inner_off {a j : Nat} {d : Array Nat} (hl : ltN d[j + 1]! d[j]! = false) : insInner ltN a (j + 1) d = d := by
  unfold insInner
  rw [if_neg (by simp [hl])]
theorem outer_on {a b i : Nat} {d : Array Nat} (h : i < b) : insOuter ltN a b i d = insOuter ltN a b (i + 1) (insInner ltN a i d) := by
  conv => lhs; unfold insOuter
  rw [if_pos h]
theorem outer_off {a b i : Nat} {d : Array Nat} (h : ¬ i < b) : insOuter ltN a b i d = d := by
  unfold insOuter
  rw [if_neg h]

section
variable {w wr : World} {g : Nat} {d dk : Array Nat}

theorem RowAt.self (h : Holds encN w g 0 d) : RowAt w g d w := ⟨0, (putRow_self _ _ _ _ _ h).symm⟩

theorem RowAt.cell (h : RowAt w g dk wr) (hH : Holds encN w g 0 d) (hs : dk.size = d.size) {t : Nat} (ht : t < d.size) : wr.cell? ⟨g, t, none⟩ = some (encN dk[t]!) ∧ wr.frozen? ⟨g, t, none⟩ = false := by
  obtain ⟨n, rfl⟩ := h
  have h1 := holds_ahead encN w n g 0 d hH
  have := cell?_putRow encN _ g 0 d dk h1 hs t (by omega)
  have h2 := (h1 t ht).2
  rw [Nat.zero_add] at this h2
  exact ⟨this, by rw [frozen?_putRow]; exact h2⟩

theorem RowAt.drewN (h : RowAt w g dk wr) (m : Nat) : RowAt w g dk (wr.drewN m) := by
  obtain ⟨n, rfl⟩ := h
  exact ⟨n + m, by show Sort.ahead (putRow encN (Sort.ahead w n) g 0 dk) m = _; rw [putRow_ahead, ahead_ahead, ← putRow_ahead]⟩

theorem RowAt.swap (h : RowAt w g dk wr) (i j : Nat) (hi : i < dk.size) (hj : j < dk.size) : RowAt w g (swp dk i j) ((wr.setCell ⟨g, i, none⟩ (encN dk[j]!)).setCell ⟨g, j, none⟩ (encN dk[i]!)) := by
  obtain ⟨n, rfl⟩ := h
  refine ⟨n, ?_⟩
  have := putRow_swp encN (Sort.ahead w n) g 0 dk i j hi hj
  rw [Nat.zero_add, Nat.zero_add] at this
  exact this

end

set_option maxRecDepth 100000 in
set_option maxHeartbeats 4000000 in
theorem ins_any {g cap a b : Nat} {d : Array Nat} {w : World} (hH : Holds encN w g 0 d) (hab : a ≤ b) (hb : b ≤ d.size) (hsz : d.size ≤ 1000000) :
    Calls Try.prog 66 #[.slice (some ⟨g, 0, none⟩) d.size cap, .int .i64 a, .int .i64 b] w fun e w' => e = .returned (.tuple #[]) ∧ RowAt w g (insertionSort ltN d a b) w' := by
  have LS := hide less_any
  have HH := hide hH
  clear hH
  go_enter Try.func66, Try.ntmps66
  go_wp2
  go_loopw [6] (fun vi wr => ∃ (i : Nat) (dk : Array Nat), vi = .int .i64 i ∧ a < i ∧ i ≤ b + 1 ∧ dk.size = d.size ∧ Hid (RowAt w g dk wr) ∧ Hid (insOuter ltN a b i dk = insertionSort ltN d a b)) (fun vi _ => b + 1 - numOf vi)
  case atStart => exact ⟨a + 1, d, by go_num, by omega, by omega, rfl, RowAt.self HH.out, rfl⟩
  case round =>
    obtain ⟨i, dk, rfl, hai, hib, hsk, HR, HO⟩ := hrel
    by_cases hlt : i < b
    · have hlt2 : (i : Int) < (b : Int) := by omega
      go_wp2
      obtain ⟨wo, hwo⟩ : ∃ wo, wo = wr := ⟨_, rfl⟩
      subst hwo
      go_loopw [7] (fun vj wr2 => ∃ (j : Nat) (dj : Array Nat), vj = .int .i64 j ∧ a ≤ j ∧ j ≤ i ∧ dj.size = d.size ∧ Hid (RowAt w g dj wr2) ∧ Hid (insInner ltN a j dj = insInner ltN a i dk)) (fun vj _ => numOf vj)
      case atStart => exact ⟨i, dk, rfl, by omega, Nat.le_refl _, hsk, HR, rfl⟩
      case round =>
        obtain ⟨j, dj, rfl, haj, hji, hsj, HR2, HI⟩ := hrel
        have OUT : Hid (insInner ltN a j dj = dj → ∀ q, ∃ i' dk', Value.int .i64 ((i : Int) + 1) = .int .i64 (i' : Nat) ∧ a < i' ∧ i' ≤ b + 1 ∧ dk'.size = d.size ∧ Hid (RowAt w g dk' (wr.drewN q)) ∧ Hid (insOuter ltN a b i' dk' = insertionSort ltN d a b)) := fun hs q =>
          ⟨i + 1, dj, by go_num, by omega, by omega, hsj, HR2.out.drewN q, by show _ = _; rw [← HO.out, outer_on hlt, ← HI.out, hs]⟩
        by_cases hja : a < j
        · obtain ⟨k, hk⟩ : ∃ k, j = k + 1 := ⟨j - 1, by omega⟩
          obtain ⟨x, hx⟩ : ∃ x, x = dj[j]! := ⟨_, rfl⟩
          obtain ⟨y, hy⟩ : ∃ y, y = dj[k]! := ⟨_, rfl⟩
          have c1 := HR2.out.cell HH.out hsj (t := j) (by omega)
          have c2 := HR2.out.cell HH.out hsj (t := k) (by omega)
          rw [← hx] at c1
          rw [← hy] at c2
          obtain ⟨c1, z1⟩ := c1
          obtain ⟨c2, z2⟩ := c2
          unfold encN at c1 c2
          have XY := hide (And.intro hx (And.intro hy hk))
          have hw1 : IntKind.i64.wrap ((j : Int) - 1) = (k : Int) := by rw [i64_small _ (by omega) (by omega)]; omega
          have hb1 : j < d.size := by omega
          have hb2 : k < d.size := by omega
          have hj0 : (a : Int) < (j : Int) := by omega
          have hne : ¬ j = k := by omega
          have hne2 : ¬ k = j := by omega
          clear hx hy hk
          cases hl : ltN x y with
          | false =>
            have L1 := hide (fun W => hl ▸ LS.out x y W)
            go_wp2
            go_quiet ((go_at_call 72; refine Calls.quiet_of_same (L1.out _)))
            go_wp2
            go_roundw
            case rel => exact OUT.out (by rw [XY.out.2.2]; refine inner_off ?_; rw [← XY.out.2.2, ← XY.out.1, ← XY.out.2.1]; exact hl) _
            case measure => simp [numOf]; omega
          | true =>
            have L1 := hide (fun W => hl ▸ LS.out x y W)
            go_wp2
            go_quiet ((go_at_call 72; refine Calls.quiet_of_same (L1.out _)))
            go_wp2
            go_region
            all_goals
            go_wp2
            go_roundw
            case rel =>
              refine ⟨k, swp dj j k, by first | rfl | go_num, by have := XY.out.2.2; omega, by have := XY.out.2.2; omega, by rw [size_swp]; exact hsj, ?_, ?_⟩
              · have q := (HR2.out.drewN (nq + 1)).swap j k (by omega) (by omega)
                rw [← XY.out.1, ← XY.out.2.1] at q
                exact q
              · show _ = _
                rw [← HI.out, XY.out.2.2]
                refine (inner_on (by have := XY.out.2.2; omega) ?_).symm
                rw [← XY.out.2.2, ← XY.out.1, ← XY.out.2.1]
                exact hl
            case measure => have := XY.out.2.2; simp [numOf]; omega
        · have hja2 : j = a := by omega
          subst hja2
          have hj0 : ¬ (j : Int) < (j : Int) := by omega
          go_wp2
          go_quiet (fail)
          go_wp2
          go_roundw
          case rel => exact OUT.out (inner_low (Nat.le_refl _)) _
          case measure => simp [numOf]; omega
    · have hlt2 : ¬ (i : Int) < (b : Int) := by omega
      go_wp2
      go_end0
      have e := HO.out
      rw [outer_off hlt] at e
      rw [← e]
      exact ⟨rfl, HR.out⟩

end Go.Proofs.Ytokodmeabchmjaa
