/-
  slices.Clone of records; runs.run, runs.Sorted. A lemma file: no statement of the seat is proved here.
-/
import Derived.Test.YtbppjbdcgcmjiaaQSort
import Derived.Test.YtbppjbdcgcmjiaaQAdd
namespace Go.Proofs.Ytbppjbdcgcmjiaa
open Go.RowKit

theorem Try.eqlNoneR (w : World) : (binOp .eql 22 (.slice none 0 0) (.slice none 0 0)).run Try.prog w = .ok (.bool true) w := by kernel_rfl
theorem Try.eqlSomeR (ad : Addr) (n c : Nat) (w : World) : (binOp .eql 22 (.slice (some ad) n c) (.slice none 0 0)).run Try.prog w = .ok (.bool false) w := by kernel_rfl

set_option maxRecDepth 100000 in
set_option maxHeartbeats 1000000 in
/-- slices.Clone, of records. -/
theorem cloneR_any (v : Value) (l : List Rc) (w : World) (hv : IsR w v l) (hl : l.length ≤ 1099511627776) :
    Calls Try.prog 29 #[v] w fun e w' => ∃ v', e = .returned v' ∧ RowR w' v' l ∧ Below w.heap.size w w' ∧ (∀ x ∈ own v', w.heap.size ≤ x) := by
  have HV := hide hv
  obtain ⟨ad, c, rfl, h1, h2, _⟩ := hv
  cases ad with
  | none =>
    obtain ⟨rfl, rfl⟩ := h2 rfl
    have q := Try.eqlNoneR
    go_enter Try.func29, Try.ntmps29
    go_wp2
    go_ret
    exact ⟨.slice none 0 0, rfl, RowR.nil _, Below.refl _ _, by simp [Value.ownBlock]⟩
  | some ad =>
    clear h2
    have R0 := hide (rowR_empty w)
    have HB := hide (HV.out.below ((Below.refl _ w).alloc (Nat.le_refl _) (.cells #[] 44)))
    have q := Try.eqlSomeR ad
    go_enter Try.func29, Try.ntmps29
    go_wp2_with (first | (at_builtin; refine wp_appendR _ rfl _ _ rfl (.slice (some ⟨w.heap.size, 0, none⟩) 0 0) _ [] l rfl R0.out rfl HB.out (by simpa using hl) ?_; intro v' w' hrow hk hn) | go_in)
    go_ret
    refine ⟨v', rfl, by simpa using hrow, ((Below.refl _ w).alloc (Nat.le_refl _) _).trans (hk.below (by simp) (by simp [Value.ownBlock])), fun x hx => ?_⟩
    rcases hn x hx with h | h
    · simp [Value.ownBlock] at h
      omega
    · simp at h
      omega

/-- Records, combined. -/
def foldR (how : Int) (l : List Rc) : List Rc := l.foldl (addR how) []
theorem foldR_snoc (how : Int) (l : List Rc) (i : Nat) (hi : i < l.length) : foldR how (l.take (i + 1)) = addR how (foldR how (l.take i)) l[i]! := by
  rw [getElem!_pos l i hi, ← List.take_append_getElem hi, foldR, List.foldl_append]
  rfl
theorem foldR_le (how : Int) (l : List Rc) : (foldR how l).length ≤ l.length := by
  have : ∀ (l acc : List Rc), (l.foldl (addR how) acc).length ≤ acc.length + l.length := by
    intro l
    induction l with
    | nil => simp
    | cons x l ih =>
      intro acc
      have := ih (addR how acc x)
      have := (addR_length how acc x).2
      simp only [List.foldl_cons, List.length_cons]
      omega
  simpa [foldR] using this l []

set_option maxRecDepth 100000 in
set_option maxHeartbeats 2000000 in
theorem run_any (v : Value) (l : List Rc) (how : Int) (w : World) (hv : IsR w v l) (hl : l.length ≤ 1000000) :
    Calls Try.prog 25 #[v, .int .i64 how] w fun e w' => ∃ v', e = .returned v' ∧ RowR w' v' (foldR how (sortR [] l)) ∧ Below w.heap.size w w' ∧ (∀ x ∈ own v', w.heap.size ≤ x) := by
  have CL := hide (cloneR_any v l w hv (by omega))
  go_enter Try.func25, Try.ntmps25
  go_wp2_with fail
  refine CL.out.mono ?_
  rintro e w1 ⟨v1, rfl, r1, b1, n1⟩
  rcases r1.form with ⟨rfl, hl0⟩ | ⟨g, cap, rfl, hcap⟩
  · have B1 := hide b1
    obtain rfl : l = [] := hl0
    clear r1 b1 n1 CL hv
    have SO : Hid (∀ W, Calls Try.prog 30 #[.slice none 0 0, .func (.func 31) #[] #[]] W fun e w' => e = .returned (.tuple #[]) ∧ w' = W) := fun W => AnyF.slices_SortFunc_none Try.sortRecs none 0 _ W
    go_wp2_with fail
    refine (SO.out _).mono ?_
    rintro e w2 ⟨rfl, rfl⟩
    go_wp2
    refine wp_loop_rounds 1 ?_
    rw [rounds_succ]
    go_wp2
    go_ret
    exact ⟨_, rfl, by simpa [sortR, foldR] using RowR.nil _, B1.out, by simp [own, Value.ownBlock]⟩
  · have R1 := hide r1
    have B1 := hide b1
    have hg0 : w.heap.size ≤ g := n1 g (by simp [own, Value.ownBlock])
    have SO := hide (sort_any g cap l w1 r1 (by omega))
    clear r1 b1 n1 CL hv
    go_wp2_with fail
    refine SO.out.mono ?_
    rintro e w2 ⟨rfl, r2, k2⟩
    have R2 := hide r2
    have K2 := hide k2
    clear r2 k2 SO
    go_wp2
    have hSl : (sortR [] l).length = l.length := by rw [sortR_length]; simp
    obtain ⟨S, hS⟩ : ∃ S, S = sortR [] l := ⟨_, rfl⟩
    rw [← hS] at R2 hSl
    obtain ⟨n, hn⟩ : ∃ n, n = l.length := ⟨_, rfl⟩
    rw [← hn] at hSl hl hcap R2 R1
    have HS := hide (And.intro hS hn)
    have HSL := hide hSl
    clear hS hSl hn
    rw [← HS.out.2]
    go_loopw [6, 17] (fun v u wr => ∃ (i k : Nat) (M : List Rc), v = .slice (some ⟨g, 0, none⟩) k cap ∧ u = .int .i64 i ∧ i ≤ n ∧ k ≤ i ∧ Hid (M.length = n ∧ RowR wr (.slice (some ⟨g, 0, none⟩) n cap) M ∧ M.take k = foldR how (S.take i) ∧ (∀ j, i ≤ j → M[j]! = S[j]!) ∧ Kept [g] w2 wr)) (fun _ u _ => n + 1 - numOf u)
    case atStart => exact ⟨0, 0, S, rfl, rfl, Nat.zero_le _, Nat.le_refl _, HSL.out, R2.out, by simp [foldR], fun _ _ => rfl, Kept.refl _ _⟩
    case round =>
      obtain ⟨i, k, M, rfl, rfl, hi, hki, HM⟩ := hrel
      have hw1 : IntKind.i64.wrap ((i : Int) + 1) = (i : Int) + 1 := i64_small _ (by omega) (by omega)
      by_cases hin : i < n
      · obtain ⟨hm1, hm2, hm3, hm4, hm5⟩ := HM.out
        obtain ⟨c1, c2⟩ := hm2.cell2 i (by omega)
        have okx := hm2.okAt i (by omega)
        rw [hm4 i (Nat.le_refl _)] at c1 c2 okx
        obtain ⟨x, hx⟩ : ∃ x, x = S[i]! := ⟨_, rfl⟩
        rw [← hx] at c1 c2 okx
        have HX := hide hx
        have OKX := hide okx
        clear hm1 hm2 hm3 hm4 hm5 hx okx
        obtain ⟨x1, x2⟩ := x
        dsimp only at c1 c2
        have hin' : (i : Int) < (n : Int) := by omega
        have AI : Hid (Calls Try.prog 32 #[.slice (some ⟨g, 0, none⟩) k cap, .agg #[.int .u64 x1, .int .u64 x2], .int .i64 how] (wr.alloc (.cells #[.int .u64 x1, .int .u64 x2] 44)) fun e w' => ∃ k' M', e = .returned (.slice (some ⟨g, 0, none⟩) k' cap) ∧ k' ≤ i + 1 ∧
            (M'.length = n ∧ RowR w' (.slice (some ⟨g, 0, none⟩) n cap) M' ∧ M'.take k' = foldR how (S.take (i + 1)) ∧ (∀ j, i + 1 ≤ j → M'[j]! = S[j]!) ∧ Kept [g] w2 w')) := by
          obtain ⟨hm1, hm2, hm3, hm4, hm5⟩ := HM.out
          rw [← hm1] at hm2
          refine (addIn_any (hm2.alloc (.cells #[.int .u64 x1, .int .u64 x2] 44)) k (by omega) (by omega) how x1 x2 OKX.out).mono ?_
          rintro e w' ⟨k', M', rfl, h1, h2, h3, h4, h5, h6⟩
          refine ⟨k', M', rfl, by omega, by omega, by rw [← hm1, ← h2]; exact h1, ?_, fun j hj => ?_, (hm5.alloc _).trans h6 (Newly.refl _ _)⟩
          · rw [h4, hm3, HX.out, foldR_snoc _ _ _ (by have := HSL.out; omega)]
          · rw [h5 j (by omega), hm4 j (by omega)]
        clear HM
        go_wp2_with fail
        refine AI.out.mono ?_
        rintro e w3 ⟨k', M', rfl, hk', hm⟩
        have HM' := hide hm
        clear hm AI
        go_wp2
        go_roundw
        case rel => exact ⟨i + 1, k', M', rfl, by go_num, by omega, hk', HM'.out⟩
        case measure => simp [numOf]; omega
      · obtain rfl : i = n := by omega
        go_wp2
        go_ret
        obtain ⟨hm1, hm2, hm3, hm4, hm5⟩ := HM.out
        have hkl : k ≤ M.length := by omega
        rw [← hm1] at hm2
        have r := hm2.front k hkl
        rw [hm3, List.take_of_length_le (by have := HSL.out; omega), HS.out.1] at r
        refine ⟨_, rfl, r, ?_, by simp [own, Value.ownBlock]; exact hg0⟩
        have hs := B1.out.size
        exact (B1.out.trans ((K2.out.below hs (by simp; exact hg0)))).trans (hm5.below (Nat.le_trans hs K2.out.size) (by simp; exact hg0))

/-- What Sorted tells. -/
theorem sorted_any (v : Value) (l : List Rc) (how : Int) (w : World) (hv : IsR w v l) (hl : l.length ≤ 1000000) (hh : mayH how = true) :
    Calls Try.prog 13 #[v, .int .i64 how] w fun e w' => ∃ v', e = .returned (.tuple #[v', .int .i64 0]) ∧ RowR w' v' (foldR how (sortR [] l)) ∧ Below w.heap.size w w' ∧ (∀ x ∈ own v', w.heap.size ≤ x) := by
  have KN := hide (fun w => known_any how w)
  rw [hh] at KN
  have RU := hide (run_any v l how w hv hl)
  go_enter Try.func13, Try.ntmps13
  go_wp2_with fail
  refine (KN.out _).mono ?_
  rintro e w1 ⟨rfl, rfl⟩
  go_wp2_with fail
  refine RU.out.mono ?_
  rintro e w2 ⟨v2, rfl, r2, b2, n2⟩
  have R2 := hide (And.intro r2 (And.intro b2 n2))
  clear r2 b2 n2 RU hv
  go_wp2
  go_ret2
  exact ⟨v2, rfl, R2.out⟩

theorem sorted_no (v : Value) (how : Int) (w : World) (hh : mayH how = false) :
    Calls Try.prog 13 #[v, .int .i64 how] w fun e w' => e = .returned (.tuple #[.slice none 0 0, .int .i64 1]) ∧ w' = w := by
  have KN := hide (fun w => known_any how w)
  rw [hh] at KN
  go_enter Try.func13, Try.ntmps13
  go_wp2_with fail
  refine (KN.out _).mono ?_
  rintro e w1 ⟨rfl, rfl⟩
  go_wp2
  go_ret2
  exact ⟨rfl, rfl⟩

end Go.Proofs.Ytbppjbdcgcmjiaa
