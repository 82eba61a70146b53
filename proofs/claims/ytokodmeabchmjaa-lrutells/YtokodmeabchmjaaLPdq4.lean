/-
  slices.partitionOrdered of few numbers. A lemma file: no statement of the seat is proved here. (Its walk is written by wip/genpart.py.)
-/
import Derived.Test.YtokodmeabchmjaaLPdq3
namespace Go.Proofs.Ytokodmeabchmjaa
open Go.RowKit Go.Sort

/-- So far the places up to i hold what is less than p, those behind j what is not. -/
structure Part (d dk : Array Nat) (a b i j p : Nat) : Prop where
  bs : b ≤ d.size
  perm : PermIn a b d dk
  piv : dk[a]! = p
  lo : ∀ k, a < k → k < i → ltN dk[k]! p = true
  hi : ∀ k, j < k → k < b → ltN dk[k]! p = false
  ai : a < i
  ij : i ≤ j + 1
  jb : j < b

/-- It is parted at m. -/
structure Parted (d d' : Array Nat) (a b m : Nat) : Prop where
  perm : PermIn a b d d'
  am : a ≤ m
  mb : m < b
  lo : ∀ k, a ≤ k → k < m → ltN d'[k]! d'[m]! = true
  hi : ∀ k, m < k → k < b → ltN d'[k]! d'[m]! = false

section
variable {d dk : Array Nat} {a b i j p : Nat}

theorem Part.up (h : Part d dk a b i j p) (hij : i ≤ j) (hl : ltN dk[i]! p = true) : Part d dk a b (i + 1) j p :=
  ⟨h.bs, h.perm, h.piv, fun k h1 h2 => by
    by_cases e : k = i
    · subst e; exact hl
    · exact h.lo k h1 (by omega), h.hi, by have := h.ai; omega, by omega, h.jb⟩

theorem Part.dn (h : Part d dk a b i j p) (hij : i ≤ j) (hl : ltN dk[j]! p = false) : Part d dk a b i (j - 1) p :=
  ⟨h.bs, h.perm, h.piv, h.lo, fun k h1 h2 => by
    by_cases e : k = j
    · subst e; exact hl
    · exact h.hi k (by omega) h2, h.ai, by have := h.ai; omega, by have := h.jb; omega⟩

theorem Part.swap (h : Part d dk a b i j p) (hij : i ≤ j) (hl : ltN dk[i]! p = false) (hl2 : ltN dk[j]! p = true) : i < j ∧ Part d (swp dk i j) a b (i + 1) (j - 1) p := by
  have hlt : i < j := by
    rcases Nat.lt_or_ge i j with q | q
    · exact q
    · have e : i = j := by omega
      subst e
      rw [hl] at hl2
      cases hl2
  have hsz := h.perm.1
  have hai := h.ai
  have hjb := h.jb
  have hbs := h.bs
  refine ⟨hlt, ⟨h.bs, permIn_trans _ _ _ _ _ h.perm (swp_permIn dk a b i j (by omega) (by omega) (by omega) (by omega) (by omega)), ?_, ?_, ?_, by omega, by omega, by omega⟩⟩
  · rw [swp_other _ _ _ _ (by omega) (by omega)]; exact h.piv
  · intro k h1 h2
    by_cases e : k = i
    · subst e
      rw [swp_left _ _ _ (by omega) (by omega)]; exact hl2
    · rw [swp_other _ _ _ _ (by omega) (by omega)]
      exact h.lo k h1 (by omega)
  · intro k h1 h2
    by_cases e : k = j
    · subst e
      rw [swp_right _ _ _ (by omega)]; exact hl
    · rw [swp_other _ _ _ _ (by omega) (by omega)]
      exact h.hi k (by omega) h2

theorem Part.done (h : Part d dk a b i j p) (hji : j < i) : Parted d (swp dk j a) a b j := by
  have hsz := h.perm.1
  have hai := h.ai
  have hjb := h.jb
  have hbs := h.bs
  have hij := h.ij
  have ej : (swp dk j a)[j]! = p := by
    by_cases e : j = a
    · subst e
      rw [swp_right _ _ _ (by omega)]; exact h.piv
    · rw [swp_left _ _ _ (by omega) e]; exact h.piv
  refine ⟨permIn_trans _ _ _ _ _ h.perm (swp_permIn dk a b j a (by omega) (by omega) (by omega) (by omega) (by omega)), by omega, hjb, ?_, ?_⟩
  · intro k h1 h2
    rw [ej]
    by_cases e : k = a
    · subst e
      rw [swp_right _ _ _ (by omega)]
      exact h.lo j (by omega) hji
    · rw [swp_other _ _ _ _ (by omega) e]
      exact h.lo k (by omega) (by omega)
  · intro k h1 h2
    rw [ej, swp_other _ _ _ _ (by omega) (by omega)]
    exact h.hi k h1 h2

end

set_option maxRecDepth 100000 in
set_option maxHeartbeats 8000000 in
theorem part_any {g cap a b pv : Nat} {d : Array Nat} {w : World} (hH : Holds encN w g 0 d) (hap : a < pv) (hpb : pv < b) (hb : b ≤ d.size) (hsz : d.size ≤ 1000) :
    Calls Try.prog 74 #[.slice (some ⟨g, 0, none⟩) d.size cap, .int .i64 a, .int .i64 b, .int .i64 pv] w fun e w' => ∃ (m : Nat) (ok : Bool) (d' : Array Nat), e = .returned (.tuple #[.int .i64 m, .bool ok]) ∧ Parted d d' a b m ∧ RowAt w g d' w' := by
  have LS := hide less_any
  have HH := hide hH
  have ba : a < d.size := by omega
  have bp : pv < d.size := by omega
  have R0 := RowAt.self hH
  have ca := R0.cell hH rfl ba
  have cp := R0.cell hH rfl bp
  have HSW := hide (R0.swap a pv ba bp)
  obtain ⟨p, hp⟩ : ∃ p, p = d[pv]! := ⟨_, rfl⟩
  obtain ⟨q, hq⟩ : ∃ q, q = d[a]! := ⟨_, rfl⟩
  rw [← hp] at cp
  rw [← hq] at ca
  rw [← hp, ← hq] at HSW
  obtain ⟨ca, za⟩ := ca
  obtain ⟨cp, zp⟩ := cp
  unfold encN at ca cp HSW
  have hn1 : ¬ a = pv := by omega
  have hn2 : ¬ pv = a := by omega
  obtain ⟨i, hi⟩ : ∃ i, i = a + 1 := ⟨_, rfl⟩
  obtain ⟨j, hj⟩ : ∃ j, j = b - 1 := ⟨_, rfl⟩
  have m1 : IntKind.i64.wrap ((b : Int) - 1) = (j : Int) := by rw [i64_small _ (by omega) (by omega)]; omega
  have HP0 : Hid (Part d (swp d a pv) a b i j p) := ⟨hb, swp_permIn d a b a pv (by omega) (by omega) (by omega) (by omega) hb, by rw [swp_left _ _ _ ba hn1, hp], fun k h1 h2 => by omega, fun k h1 h2 => by omega, by omega, by omega, by omega⟩
  have hib : i ≤ 1000 := by omega
  have hjb : j ≤ 1000 := by omega
  have HI := hide hi
  clear hH R0 hp hq hj
  go_enter Try.func74, Try.ntmps74
  go_wp2_with fail
  go_region
  all_goals
  go_wp2_with fail
  obtain ⟨dk, hdk⟩ : ∃ dk, dk = swp d a pv := ⟨_, rfl⟩
  rw [← hdk] at HP0 HSW
  have HP := HP0
  have HR := hide (HSW.out.drewN 1)
  clear HP0 HSW hdk ca za cp zp hn1 hn2 hi
  go_loopw [10] (fun vi wr => ∃ n : Nat, vi = .int .i64 n ∧ i ≤ n ∧ n ≤ 1001 ∧ Hid (Part d dk a b n j p) ∧ Hid (RowAt w g dk wr)) (fun vi _ => 1002 - numOf vi)
  case atStart => exact ⟨i, by first | rfl | go_num | (have := HI.out; go_num), Nat.le_refl _, by have := HP.out.ij; have := HP.out.jb; omega, HP, HR⟩
  case round =>
    clear HP HR
    obtain ⟨i, rfl, hii, hi, HP, HR⟩ := hrel
    by_cases hij : i ≤ j
    · have hij2 : (i : Int) ≤ (j : Int) := by omega
      have bi : i < d.size := by have := HP.out.perm.1; have := HP.out.jb; omega
      have ci := HR.out.cell HH.out HP.out.perm.1 bi
      obtain ⟨x, hx⟩ : ∃ x, x = dk[i]! := ⟨_, rfl⟩
      rw [← hx] at ci
      obtain ⟨ci, zi⟩ := ci
      unfold encN at ci
      have ba : a < d.size := by have := HP.out.ai; have := HP.out.ij; have := HP.out.jb; omega
      have ca := HR.out.cell HH.out HP.out.perm.1 ba
      rw [HP.out.piv] at ca
      obtain ⟨ca, za⟩ := ca
      unfold encN at ca
      have HX := hide hx
      clear hx
      cases hl : ltN x p with
      | true =>
        have L1 := hide (fun W => hl ▸ LS.out x p W)
        go_wp2_with fail
        go_quiet ((go_at_call 72; refine Calls.quiet_of_same (L1.out _)))
        go_wp2_with fail
        go_roundw
        case rel => exact ⟨i + 1, by go_num, by omega, by have := HP.out.jb; omega, HP.out.up hij (by rw [← HX.out]; exact hl), HR.out.drewN _⟩
        case measure => simp [numOf]; omega
      | false =>
        have L1 := hide (fun W => hl ▸ LS.out x p W)
        have ST : Hid (ltN dk[i]! p = false) := by show _ = _; rw [← HX.out]; exact hl
        go_wp2_with fail
        go_quiet ((go_at_call 72; refine Calls.quiet_of_same (L1.out _)))
        obtain ⟨wq, hwq⟩ : ∃ wq, wq = wr.drewN nq := ⟨_, rfl⟩
        have RQ : Hid (RowAt w g dk wq) := by rw [hwq]; exact HR.out.drewN _
        rw [← hwq]
        clear hwq HR
        have HR := RQ
        clear RQ
        clear ci ca zi za L1 HX hij2
        go_wp2_with fail
        go_loopw [11] (fun vj wr => ∃ j : Nat, vj = .int .i64 j ∧ j ≤ 1000 ∧ Hid (Part d dk a b i j p) ∧ Hid (RowAt w g dk wr)) (fun vj _ => numOf vj)
        case atStart => exact ⟨j, rfl, by have := HP.out.jb; omega, HP, HR⟩
        case round =>
          clear HP HR hij
          obtain ⟨j, rfl, hj, HP, HR⟩ := hrel
          by_cases hij : i ≤ j
          · have hij2 : (i : Int) ≤ (j : Int) := by omega
            obtain ⟨k, hk⟩ : ∃ k, j = k + 1 := ⟨j - 1, by have := HP.out.ai; omega⟩
            have hw1 : IntKind.i64.wrap ((j : Int) - 1) = (k : Int) := by rw [i64_small _ (by omega) (by omega)]; omega
            have bj : j < d.size := by have := HP.out.perm.1; have := HP.out.jb; omega
            have cj := HR.out.cell HH.out HP.out.perm.1 bj
            obtain ⟨y, hy⟩ : ∃ x, x = dk[j]! := ⟨_, rfl⟩
            rw [← hy] at cj
            obtain ⟨cj, zj⟩ := cj
            unfold encN at cj
            have ba : a < d.size := by have := HP.out.ai; have := HP.out.ij; have := HP.out.jb; omega
            have ca := HR.out.cell HH.out HP.out.perm.1 ba
            rw [HP.out.piv] at ca
            obtain ⟨ca, za⟩ := ca
            unfold encN at ca
            have HX := hide (And.intro hy hk)
            clear hy hk
            cases hl : ltN y p with
            | false =>
              have L1 := hide (fun W => hl ▸ LS.out y p W)
              go_wp2_with fail
              go_quiet ((go_at_call 72; refine Calls.quiet_of_same (L1.out _)))
              go_wp2_with fail
              go_roundw
              case rel => exact ⟨k, by first | rfl | go_num, by have := HX.out.2; omega, by have q := HP.out.dn hij (by rw [← HX.out.1]; exact hl); rw [HX.out.2] at q; exact q, HR.out.drewN _⟩
              case measure => have := HX.out.2; simp [numOf]; omega
            | true =>
              have L1 := hide (fun W => hl ▸ LS.out y p W)
              go_wp2_with fail
              go_quiet ((go_at_call 72; refine Calls.quiet_of_same (L1.out _)))
              obtain ⟨wq, hwq⟩ : ∃ wq, wq = wr.drewN nq := ⟨_, rfl⟩
              have RQ : Hid (RowAt w g dk wq) := by rw [hwq]; exact HR.out.drewN _
              rw [← hwq]
              clear hwq HR
              have HR := RQ
              clear RQ
              have PS := hide (HP.out.swap hij ST.out (by rw [← HX.out.1]; exact hl))
              have hlt : i < j := PS.out.1
              have hn1 : ¬ i = j := by omega
              have hn2 : ¬ j = i := by omega
              have hij3 : ¬ (j : Int) < (i : Int) := by omega
              have bi : i < d.size := by omega
              have ci := HR.out.cell HH.out HP.out.perm.1 bi
              have cj := HR.out.cell HH.out HP.out.perm.1 bj
              have HSW := hide (HR.out.swap i j (by rw [HP.out.perm.1]; exact bi) (by rw [HP.out.perm.1]; exact bj))
              rw [← HX.out.1] at cj HSW
              obtain ⟨x, hx⟩ : ∃ x, x = dk[i]! := ⟨_, rfl⟩
              rw [← hx] at ci HSW
              obtain ⟨ci, zi⟩ := ci
              obtain ⟨cj, zj⟩ := cj
              unfold encN at ci cj HSW
              have PS2 : Hid (Part d (swp dk i j) a b (i + 1) k p) := by
                have q := PS.out.2
                have e : j - 1 = k := by have := HX.out.2; omega
                rw [e] at q
                exact q
              clear hx
              go_wp2_with fail
              go_region
              all_goals
              go_wp2_with fail
              go_loopw [10, 11] (fun vi vj wr => ∃ (i j : Nat) (dk : Array Nat), vi = .int .i64 i ∧ vj = .int .i64 j ∧ j ≤ 1000 ∧ i ≤ 1001 ∧ Hid (Part d dk a b i j p) ∧ Hid (RowAt w g dk wr)) (fun vi _ _ => 1002 - numOf vi)
              case atStart => exact ⟨i + 1, k, swp dk i j, by go_num, by first | rfl | go_num, by have := HX.out.2; omega, by omega, PS2, HSW.out.drewN 1⟩
              case round =>
                obtain ⟨i, j, dk, rfl, rfl, hj, hi, HP, HR⟩ := hrel
                go_wp2_with fail
                go_loopw [10] (fun vi wr => ∃ n : Nat, vi = .int .i64 n ∧ i ≤ n ∧ n ≤ 1001 ∧ Hid (Part d dk a b n j p) ∧ Hid (RowAt w g dk wr)) (fun vi _ => 1002 - numOf vi)
                case atStart => exact ⟨i, by first | rfl | go_num | (have := HI.out; go_num), Nat.le_refl _, by have := HP.out.ij; have := HP.out.jb; omega, HP, HR⟩
                case round =>
                  clear HP HR
                  obtain ⟨i, rfl, hii, hi, HP, HR⟩ := hrel
                  by_cases hij : i ≤ j
                  · have hij2 : (i : Int) ≤ (j : Int) := by omega
                    have bi : i < d.size := by have := HP.out.perm.1; have := HP.out.jb; omega
                    have ci := HR.out.cell HH.out HP.out.perm.1 bi
                    obtain ⟨x, hx⟩ : ∃ x, x = dk[i]! := ⟨_, rfl⟩
                    rw [← hx] at ci
                    obtain ⟨ci, zi⟩ := ci
                    unfold encN at ci
                    have ba : a < d.size := by have := HP.out.ai; have := HP.out.ij; have := HP.out.jb; omega
                    have ca := HR.out.cell HH.out HP.out.perm.1 ba
                    rw [HP.out.piv] at ca
                    obtain ⟨ca, za⟩ := ca
                    unfold encN at ca
                    have HX := hide hx
                    clear hx
                    cases hl : ltN x p with
                    | true =>
                      have L1 := hide (fun W => hl ▸ LS.out x p W)
                      go_wp2_with fail
                      go_quiet ((go_at_call 72; refine Calls.quiet_of_same (L1.out _)))
                      go_wp2_with fail
                      go_roundw
                      case rel => exact ⟨i + 1, by go_num, by omega, by have := HP.out.jb; omega, HP.out.up hij (by rw [← HX.out]; exact hl), HR.out.drewN _⟩
                      case measure => simp [numOf]; omega
                    | false =>
                      have L1 := hide (fun W => hl ▸ LS.out x p W)
                      have ST : Hid (ltN dk[i]! p = false) := by show _ = _; rw [← HX.out]; exact hl
                      go_wp2_with fail
                      go_quiet ((go_at_call 72; refine Calls.quiet_of_same (L1.out _)))
                      obtain ⟨wq, hwq⟩ : ∃ wq, wq = wr.drewN nq := ⟨_, rfl⟩
                      have RQ : Hid (RowAt w g dk wq) := by rw [hwq]; exact HR.out.drewN _
                      rw [← hwq]
                      clear hwq HR
                      have HR := RQ
                      clear RQ
                      clear ci ca zi za L1 HX hij2
                      go_wp2_with fail
                      go_loopw [11] (fun vj wr => ∃ j : Nat, vj = .int .i64 j ∧ j ≤ 1000 ∧ Hid (Part d dk a b i j p) ∧ Hid (RowAt w g dk wr)) (fun vj _ => numOf vj)
                      case atStart => exact ⟨j, rfl, by have := HP.out.jb; omega, HP, HR⟩
                      case round =>
                        clear HP HR hij
                        obtain ⟨j, rfl, hj, HP, HR⟩ := hrel
                        by_cases hij : i ≤ j
                        · have hij2 : (i : Int) ≤ (j : Int) := by omega
                          obtain ⟨k, hk⟩ : ∃ k, j = k + 1 := ⟨j - 1, by have := HP.out.ai; omega⟩
                          have hw1 : IntKind.i64.wrap ((j : Int) - 1) = (k : Int) := by rw [i64_small _ (by omega) (by omega)]; omega
                          have bj : j < d.size := by have := HP.out.perm.1; have := HP.out.jb; omega
                          have cj := HR.out.cell HH.out HP.out.perm.1 bj
                          obtain ⟨y, hy⟩ : ∃ x, x = dk[j]! := ⟨_, rfl⟩
                          rw [← hy] at cj
                          obtain ⟨cj, zj⟩ := cj
                          unfold encN at cj
                          have ba : a < d.size := by have := HP.out.ai; have := HP.out.ij; have := HP.out.jb; omega
                          have ca := HR.out.cell HH.out HP.out.perm.1 ba
                          rw [HP.out.piv] at ca
                          obtain ⟨ca, za⟩ := ca
                          unfold encN at ca
                          have HX := hide (And.intro hy hk)
                          clear hy hk
                          cases hl : ltN y p with
                          | false =>
                            have L1 := hide (fun W => hl ▸ LS.out y p W)
                            go_wp2_with fail
                            go_quiet ((go_at_call 72; refine Calls.quiet_of_same (L1.out _)))
                            go_wp2_with fail
                            go_roundw
                            case rel => exact ⟨k, by first | rfl | go_num, by have := HX.out.2; omega, by have q := HP.out.dn hij (by rw [← HX.out.1]; exact hl); rw [HX.out.2] at q; exact q, HR.out.drewN _⟩
                            case measure => have := HX.out.2; simp [numOf]; omega
                          | true =>
                            have L1 := hide (fun W => hl ▸ LS.out y p W)
                            go_wp2_with fail
                            go_quiet ((go_at_call 72; refine Calls.quiet_of_same (L1.out _)))
                            obtain ⟨wq, hwq⟩ : ∃ wq, wq = wr.drewN nq := ⟨_, rfl⟩
                            have RQ : Hid (RowAt w g dk wq) := by rw [hwq]; exact HR.out.drewN _
                            rw [← hwq]
                            clear hwq HR
                            have HR := RQ
                            clear RQ
                            have PS := hide (HP.out.swap hij ST.out (by rw [← HX.out.1]; exact hl))
                            have hlt : i < j := PS.out.1
                            have hn1 : ¬ i = j := by omega
                            have hn2 : ¬ j = i := by omega
                            have hij3 : ¬ (j : Int) < (i : Int) := by omega
                            have bi : i < d.size := by omega
                            have ci := HR.out.cell HH.out HP.out.perm.1 bi
                            have cj := HR.out.cell HH.out HP.out.perm.1 bj
                            have HSW := hide (HR.out.swap i j (by rw [HP.out.perm.1]; exact bi) (by rw [HP.out.perm.1]; exact bj))
                            rw [← HX.out.1] at cj HSW
                            obtain ⟨x, hx⟩ : ∃ x, x = dk[i]! := ⟨_, rfl⟩
                            rw [← hx] at ci HSW
                            obtain ⟨ci, zi⟩ := ci
                            obtain ⟨cj, zj⟩ := cj
                            unfold encN at ci cj HSW
                            have PS2 : Hid (Part d (swp dk i j) a b (i + 1) k p) := by
                              have q := PS.out.2
                              have e : j - 1 = k := by have := HX.out.2; omega
                              rw [e] at q
                              exact q
                            clear hx
                            go_wp2_with fail
                            go_region
                            all_goals
                            go_wp2_with fail
                            go_roundw
                            case rel => exact ⟨i + 1, k, swp dk i j, by go_num, by first | rfl | go_num, by have := HX.out.2; omega, by omega, PS2, HSW.out.drewN 1⟩
                            case measure => simp [numOf]; omega
                        · have hij2 : ¬ (i : Int) ≤ (j : Int) := by omega
                          go_wp2_with fail
                          go_quiet (fail)
                          obtain ⟨wq, hwq⟩ : ∃ wq, wq = wr.drewN nq := ⟨_, rfl⟩
                          have RQ : Hid (RowAt w g dk wq) := by rw [hwq]; exact HR.out.drewN _
                          rw [← hwq]
                          clear hwq HR
                          have HR := RQ
                          clear RQ
                          have hji : j < i := by omega
                          have hji2 : (j : Int) < (i : Int) := by omega
                          have DN := hide (HP.out.done hji)
                          have ba : a < d.size := by have := HP.out.ai; have := HP.out.ij; have := HP.out.jb; omega
                          have ca := HR.out.cell HH.out HP.out.perm.1 ba
                          rw [HP.out.piv] at ca
                          obtain ⟨ca, za⟩ := ca
                          unfold encN at ca
                          have bj : j < d.size := by have := HP.out.jb; omega
                          have cj := HR.out.cell HH.out HP.out.perm.1 bj
                          have HSW := hide (HR.out.swap j a (by rw [HP.out.perm.1]; exact bj) (by rw [HP.out.perm.1]; exact ba))
                          rw [HP.out.piv] at HSW
                          obtain ⟨y, hy⟩ : ∃ x, x = dk[j]! := ⟨_, rfl⟩
                          rw [← hy] at cj HSW
                          obtain ⟨cj, zj⟩ := cj
                          unfold encN at cj HSW
                          clear hy
                          by_cases hja : j = a
                          · subst hja
                            obtain rfl : y = p := by rw [ca] at cj; injection cj with h; injection h with _ h; omega
                            go_wp2_with fail
                            go_region
                            all_goals
                            go_wp2_with fail
                            go_ret2
                            exact ⟨j, false, _, rfl, DN.out, HSW.out.drewN 1⟩
                          · have hn1 : ¬ j = a := hja
                            have hn2 : ¬ a = j := by omega
                            go_wp2_with fail
                            go_region
                            all_goals
                            go_wp2_with fail
                            go_ret2
                            exact ⟨j, false, _, rfl, DN.out, HSW.out.drewN 1⟩
                  · have hij2 : ¬ (i : Int) ≤ (j : Int) := by omega
                    go_wp2_with fail
                    go_quiet (fail)
                    obtain ⟨wq, hwq⟩ : ∃ wq, wq = wr.drewN nq := ⟨_, rfl⟩
                    have RQ : Hid (RowAt w g dk wq) := by rw [hwq]; exact HR.out.drewN _
                    rw [← hwq]
                    clear hwq HR
                    have HR := RQ
                    clear RQ
                    go_wp2_with fail
                    clear hij2
                    go_loopw [11] (fun vj wr => vj = .int .i64 j ∧ Hid (RowAt w g dk wr)) (fun _ _ => 0)
                    case atStart => exact ⟨rfl, HR⟩
                    case round =>
                      clear HR
                      obtain ⟨rfl, HR⟩ := hrel
                      have hij2 : ¬ (i : Int) ≤ (j : Int) := by omega
                      go_wp2_with fail
                      go_quiet (fail)
                      obtain ⟨wq, hwq⟩ : ∃ wq, wq = wr.drewN nq := ⟨_, rfl⟩
                      have RQ : Hid (RowAt w g dk wq) := by rw [hwq]; exact HR.out.drewN _
                      rw [← hwq]
                      clear hwq HR
                      have HR := RQ
                      clear RQ
                      have hji : j < i := by omega
                      have hji2 : (j : Int) < (i : Int) := by omega
                      have DN := hide (HP.out.done hji)
                      have ba : a < d.size := by have := HP.out.ai; have := HP.out.ij; have := HP.out.jb; omega
                      have ca := HR.out.cell HH.out HP.out.perm.1 ba
                      rw [HP.out.piv] at ca
                      obtain ⟨ca, za⟩ := ca
                      unfold encN at ca
                      have bj : j < d.size := by have := HP.out.jb; omega
                      have cj := HR.out.cell HH.out HP.out.perm.1 bj
                      have HSW := hide (HR.out.swap j a (by rw [HP.out.perm.1]; exact bj) (by rw [HP.out.perm.1]; exact ba))
                      rw [HP.out.piv] at HSW
                      obtain ⟨y, hy⟩ : ∃ x, x = dk[j]! := ⟨_, rfl⟩
                      rw [← hy] at cj HSW
                      obtain ⟨cj, zj⟩ := cj
                      unfold encN at cj HSW
                      clear hy
                      by_cases hja : j = a
                      · subst hja
                        obtain rfl : y = p := by rw [ca] at cj; injection cj with h; injection h with _ h; omega
                        go_wp2_with fail
                        go_region
                        all_goals
                        go_wp2_with fail
                        go_ret2
                        exact ⟨j, false, _, rfl, DN.out, HSW.out.drewN 1⟩
                      · have hn1 : ¬ j = a := hja
                        have hn2 : ¬ a = j := by omega
                        go_wp2_with fail
                        go_region
                        all_goals
                        go_wp2_with fail
                        go_ret2
                        exact ⟨j, false, _, rfl, DN.out, HSW.out.drewN 1⟩
          · have hij2 : ¬ (i : Int) ≤ (j : Int) := by omega
            go_wp2_with fail
            go_quiet (fail)
            obtain ⟨wq, hwq⟩ : ∃ wq, wq = wr.drewN nq := ⟨_, rfl⟩
            have RQ : Hid (RowAt w g dk wq) := by rw [hwq]; exact HR.out.drewN _
            rw [← hwq]
            clear hwq HR
            have HR := RQ
            clear RQ
            have hji : j < i := by omega
            have hji2 : (j : Int) < (i : Int) := by omega
            have DN := hide (HP.out.done hji)
            have ba : a < d.size := by have := HP.out.ai; have := HP.out.ij; have := HP.out.jb; omega
            have ca := HR.out.cell HH.out HP.out.perm.1 ba
            rw [HP.out.piv] at ca
            obtain ⟨ca, za⟩ := ca
            unfold encN at ca
            have bj : j < d.size := by have := HP.out.jb; omega
            have cj := HR.out.cell HH.out HP.out.perm.1 bj
            have HSW := hide (HR.out.swap j a (by rw [HP.out.perm.1]; exact bj) (by rw [HP.out.perm.1]; exact ba))
            rw [HP.out.piv] at HSW
            obtain ⟨y, hy⟩ : ∃ x, x = dk[j]! := ⟨_, rfl⟩
            rw [← hy] at cj HSW
            obtain ⟨cj, zj⟩ := cj
            unfold encN at cj HSW
            clear hy
            by_cases hja : j = a
            · subst hja
              obtain rfl : y = p := by rw [ca] at cj; injection cj with h; injection h with _ h; omega
              go_wp2_with fail
              go_region
              all_goals
              go_wp2_with fail
              go_ret2
              exact ⟨j, true, _, rfl, DN.out, HSW.out.drewN 1⟩
            · have hn1 : ¬ j = a := hja
              have hn2 : ¬ a = j := by omega
              go_wp2_with fail
              go_region
              all_goals
              go_wp2_with fail
              go_ret2
              exact ⟨j, true, _, rfl, DN.out, HSW.out.drewN 1⟩
    · have hij2 : ¬ (i : Int) ≤ (j : Int) := by omega
      go_wp2_with fail
      go_quiet (fail)
      obtain ⟨wq, hwq⟩ : ∃ wq, wq = wr.drewN nq := ⟨_, rfl⟩
      have RQ : Hid (RowAt w g dk wq) := by rw [hwq]; exact HR.out.drewN _
      rw [← hwq]
      clear hwq HR
      have HR := RQ
      clear RQ
      go_wp2_with fail
      clear hij2
      go_loopw [11] (fun vj wr => vj = .int .i64 j ∧ Hid (RowAt w g dk wr)) (fun _ _ => 0)
      case atStart => exact ⟨rfl, HR⟩
      case round =>
        clear HR
        obtain ⟨rfl, HR⟩ := hrel
        have hij2 : ¬ (i : Int) ≤ (j : Int) := by omega
        go_wp2_with fail
        go_quiet (fail)
        obtain ⟨wq, hwq⟩ : ∃ wq, wq = wr.drewN nq := ⟨_, rfl⟩
        have RQ : Hid (RowAt w g dk wq) := by rw [hwq]; exact HR.out.drewN _
        rw [← hwq]
        clear hwq HR
        have HR := RQ
        clear RQ
        have hji : j < i := by omega
        have hji2 : (j : Int) < (i : Int) := by omega
        have DN := hide (HP.out.done hji)
        have ba : a < d.size := by have := HP.out.ai; have := HP.out.ij; have := HP.out.jb; omega
        have ca := HR.out.cell HH.out HP.out.perm.1 ba
        rw [HP.out.piv] at ca
        obtain ⟨ca, za⟩ := ca
        unfold encN at ca
        have bj : j < d.size := by have := HP.out.jb; omega
        have cj := HR.out.cell HH.out HP.out.perm.1 bj
        have HSW := hide (HR.out.swap j a (by rw [HP.out.perm.1]; exact bj) (by rw [HP.out.perm.1]; exact ba))
        rw [HP.out.piv] at HSW
        obtain ⟨y, hy⟩ : ∃ x, x = dk[j]! := ⟨_, rfl⟩
        rw [← hy] at cj HSW
        obtain ⟨cj, zj⟩ := cj
        unfold encN at cj HSW
        clear hy
        by_cases hja : j = a
        · subst hja
          obtain rfl : y = p := by rw [ca] at cj; injection cj with h; injection h with _ h; omega
          go_wp2_with fail
          go_region
          all_goals
          go_wp2_with fail
          go_ret2
          exact ⟨j, true, _, rfl, DN.out, HSW.out.drewN 1⟩
        · have hn1 : ¬ j = a := hja
          have hn2 : ¬ a = j := by omega
          go_wp2_with fail
          go_region
          all_goals
          go_wp2_with fail
          go_ret2
          exact ⟨j, true, _, rfl, DN.out, HSW.out.drewN 1⟩

end Go.Proofs.Ytokodmeabchmjaa
