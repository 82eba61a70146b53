/-
  slices.heapSortOrdered of few numbers. A lemma file: no statement of the seat is proved here.
-/
import Derived.Test.YtokodmeabchmjaaLPdq2
import Derived.Test.YtokodmeabchmjaaLSmall
namespace Go.Proofs.Ytokodmeabchmjaa
open Go.RowKit Go.Sort

section
variable {w wr w' : World} {g : Nat} {dk d' : Array Nat}

theorem RowAt.trans (h : RowAt w g dk wr) (h2 : RowAt wr g d' w') (hs : d'.size = dk.size) : RowAt w g d' w' := by
  obtain ⟨n, rfl⟩ := h
  obtain ⟨m, rfl⟩ := h2
  exact ⟨n + m, putRow_ahead_putRow encN w n m g 0 dk d' hs⟩

end

/-- A count that runs down to -1: so many rounds are left. -/
def down : Nat → Int
  | 0 => -1
  | k + 1 => k
def numOf1 : Value → Nat | .int _ q => (q + 1).toNat | _ => 0
theorem down_eq (k : Nat) : (k : Int) - 1 = down k := by cases k <;> simp [down]
theorem numOf1_down (k : Nat) : numOf1 (.int .i64 (down k)) = k := by cases k <;> simp [numOf1, down]

theorem size_sift (hi F : Nat) : ∀ (n root : Nat) (d : Array Nat), hi - root ≤ n → (siftDown ltN hi F root d).size = d.size := by
  intro n
  induction n with
  | zero => intro root d h; rw [sift_end (by omega)]
  | succ n ih =>
    intro root d h
    by_cases h1 : hi ≤ 2 * root + 1
    · rw [sift_end h1]
    · cases hl : ltN d[F + root]! d[F + childOf hi F root d]! with
      | false => rw [sift_stop (by omega) hl]
      | true =>
        have := childOf_lt (first := F) (d := d) (by omega : 2 * root + 1 < hi)
        rw [sift_go (by omega) hl, ih _ _ (by omega), size_swp]

set_option maxRecDepth 100000 in
set_option maxHeartbeats 4000000 in
theorem heap_any {g cap a b : Nat} {d : Array Nat} {w : World} (hH : Holds encN w g 0 d) (hab : a ≤ b) (hb : b ≤ d.size) (hsz : d.size ≤ 1000) :
    Calls Try.prog 67 #[.slice (some ⟨g, 0, none⟩) d.size cap, .int .i64 a, .int .i64 b] w fun e w' => e = .returned (.tuple #[]) ∧ RowAt w g (heapSort ltN d a b) w' := by
  have HH := hide hH
  clear hH
  obtain ⟨n, hn⟩ : ∃ n, n = b - a := ⟨_, rfl⟩
  obtain ⟨K, hK⟩ : ∃ K, K = (n - 1) / 2 + 1 := ⟨_, rfl⟩
  have m0 : (b : Int) - (a : Int) = (n : Int) := by omega
  have m1 : ((n : Int) - 1).tdiv 2 = down K := by
    rw [hK]
    show _ = (((n - 1) / 2 : Nat) : Int)
    by_cases h : n = 0
    · subst h; rfl
    · rw [Int.tdiv_eq_ediv_of_nonneg (by omega)]; omega
  have w1 : wrap64 (down K) = down K := by
    rw [hK]
    show wrap64 (((n - 1) / 2 : Nat) : Int) = (((n - 1) / 2 : Nat) : Int)
    have h : (n - 1) / 2 ≤ 1000 := by omega
    generalize (n - 1) / 2 = q at h
    unfold wrap64
    omega
  have HS : Hid (heapSort ltN d a b = heapPop ltN a n (heapBuild ltN n a K d)) := by show _ = _; rw [hK, hn]; rfl
  rw [HS.out]
  clear HS
  have hnb : n ≤ 1000 := by omega
  have hKb : K ≤ 1001 := by omega
  have hanb : Hid (a + n ≤ d.size ∧ n = b - a) := ⟨by omega, hn⟩
  clear hn hK
  go_enter Try.func67, Try.ntmps67
  go_wp2_with fail
  rw [w1]
  clear w1 m1
  go_loopw [9] (fun v wr => ∃ (k : Nat) (dk : Array Nat), v = .int .i64 (down k) ∧ k ≤ K ∧ dk.size = d.size ∧ Hid (RowAt w g dk wr) ∧ Hid (heapBuild ltN n a k dk = heapBuild ltN n a K d)) (fun v _ => numOf1 v)
  case atStart => exact ⟨K, d, rfl, Nat.le_refl _, rfl, RowAt.self HH.out, rfl⟩
  case round =>
    obtain ⟨k, dk, hv, hk, hsk, HR, HO⟩ := hrel
    cases k with
    | zero =>
      simp only [down] at hv
      subst hv
      go_wp2_with fail
      go_loopw [10] (fun v wr => ∃ (k : Nat) (dj : Array Nat), v = .int .i64 (down k) ∧ k ≤ n ∧ dj.size = d.size ∧ Hid (RowAt w g dj wr) ∧ Hid (heapPop ltN a k dj = heapPop ltN a n dk)) (fun v _ => numOf1 v)
      case atStart => exact ⟨n, dk, by rw [down_eq], Nat.le_refl _, hsk, HR, rfl⟩
      case round =>
        obtain ⟨k, dj, hv, hk, hsj, HR2, HO2⟩ := hrel
        cases k with
        | zero =>
          simp only [down] at hv
          subst hv
          go_wp2_with fail
          go_end0
          refine ⟨rfl, ?_⟩
          have e1 := HO2.out
          have e2 : dk = heapBuild ltN n a K d := HO.out
          rw [e2] at e1
          rw [← e1]
          exact HR2.out
        | succ j =>
          simp only [down] at hv
          subst hv
          obtain ⟨pj, hpj⟩ : ∃ pj, pj = a + j := ⟨_, rfl⟩
          have m5 : (a : Int) + (j : Int) = (pj : Int) := by omega
          have ba : a < d.size := by have := hanb.out.1; omega
          have bj : pj < d.size := by have := hanb.out.1; omega
          have ca := HR2.out.cell HH.out hsj ba
          have cj := HR2.out.cell HH.out hsj bj
          have HSW := hide (HR2.out.swap a pj (by omega) (by omega))
          obtain ⟨xa, hxa⟩ : ∃ x, x = dj[a]! := ⟨_, rfl⟩
          obtain ⟨xj, hxj⟩ : ∃ x, x = dj[pj]! := ⟨_, rfl⟩
          rw [← hxa, ← hxj] at HSW
          rw [← hxa] at ca
          rw [← hxj] at cj
          obtain ⟨ca, za⟩ := ca
          obtain ⟨cj, zj⟩ := cj
          unfold encN at ca cj HSW
          have wpj : IntKind.i64.wrap (pj : Int) = (pj : Int) := i64_small _ (by omega) (by omega)
          have ND : Hid (heapPop ltN a j (siftDown ltN j a 0 (swp dj a pj)) = heapPop ltN a n dk) := by
            show _ = _
            rw [← HO2.out, hpj]; rfl
          have SZ : Hid ((swp dj a pj).size = d.size ∧ (siftDown ltN j a 0 (swp dj a pj)).size = d.size) := ⟨by rw [size_swp]; exact hsj, by rw [size_sift _ _ _ _ _ (Nat.le_refl _), size_swp]; exact hsj⟩
          have FIN : Hid (∀ W, RowAt w g (swp dj a pj) W → Calls Try.prog 77 #[.slice (some ⟨g, 0, none⟩) d.size cap, .int .i64 0, .int .i64 j, .int .i64 a] W fun e w' => e = .returned (.tuple #[]) ∧ RowAt w g (siftDown ltN j a 0 (swp dj a pj)) w') := by
            intro W hW
            have h := sift_any (cap := cap) (lo := 0) (hi := j) (first := a) (hW.holds HH.out SZ.out.1) (by rw [SZ.out.1]; have := hanb.out.1; omega) (by omega) (by rw [SZ.out.1]; omega)
            rw [SZ.out.1] at h
            exact h.mono fun e w' q => ⟨q.1, hW.trans q.2 (by rw [SZ.out.1, SZ.out.2])⟩
          clear hxa hxj HR2
          by_cases hj0 : j = 0
          · have e : pj = a := by omega
            subst hj0
            subst e
            clear m5 wpj hpj
            obtain rfl : xa = xj := by rw [ca] at cj; injection cj with h; injection h with _ h; omega
            go_wp2_with fail
            go_region
            all_goals
            go_wp2_with fail
            refine (FIN.out _ (HSW.out.drewN 1)).mono ?_
            rintro e w1 ⟨rfl, hw1⟩
            go_wp2_with fail
            go_roundw
            case rel => exact ⟨0, _, rfl, by omega, SZ.out.2, hw1, ND⟩
            case measure => simp [numOf1]
          · have hn1 : ¬ a = pj := by omega
            have hn2 : ¬ pj = a := by omega
            clear hpj
            go_wp2_with fail
            go_region
            all_goals
            go_wp2_with fail
            refine (FIN.out _ ?_).mono ?_
            · exact HSW.out.drewN 1
            rintro e w1 ⟨rfl, hw1⟩
            go_wp2_with fail
            go_roundw
            case rel => exact ⟨j, _, by rw [down_eq], by omega, SZ.out.2, hw1, ND⟩
            case measure => simp [numOf1]
    | succ j =>
      simp only [down] at hv
      subst hv
      have FIN : Hid (Calls Try.prog 77 #[.slice (some ⟨g, 0, none⟩) d.size cap, .int .i64 j, .int .i64 n, .int .i64 a] wr fun e w' => e = .returned (.tuple #[]) ∧ RowAt w g (siftDown ltN n a j dk) w') := by
        have h := sift_any (cap := cap) (lo := j) (hi := n) (first := a) (HR.out.holds HH.out hsk) (by have := hanb.out.1; omega) (by omega) (by omega)
        rw [hsk] at h
        exact h.mono fun e w' q => ⟨q.1, HR.out.trans q.2 (size_sift _ _ _ _ _ (Nat.le_refl _))⟩
      have SZ : Hid ((siftDown ltN n a j dk).size = d.size) := by show _ = _; rw [size_sift _ _ _ _ _ (Nat.le_refl _)]; exact hsk
      go_wp2_with fail
      refine FIN.out.mono ?_
      rintro e w1 ⟨rfl, hw1⟩
      go_wp2_with fail
      go_roundw
      case rel => exact ⟨j, _, by rw [down_eq], by omega, SZ.out, hw1, HO⟩
      case measure => simp [numOf1]

end Go.Proofs.Ytokodmeabchmjaa
