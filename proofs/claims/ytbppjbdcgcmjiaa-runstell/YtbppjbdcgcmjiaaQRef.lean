/-
  cartageref08.Sorted, Merge. A lemma file: no statement of the seat is proved here.
-/
import Derived.Deep.QuietTactic
import Derived.BigQuiet
import Derived.Test.YtbppjbdcgcmjiaaQPieces
namespace Go.Proofs.Ytbppjbdcgcmjiaa
open Go.RowKit

set_option maxRecDepth 100000 in
set_option maxHeartbeats 2000000 in
theorem refSorted_any {w : World} {v : Value} {l : List Rc} (how : Int) (h : IsR w v l) (hl : l.length ≤ 100000) :
    Calls Try.prog 17 #[v, .int .i64 how] w fun e w' => ∃ v', e = .returned v' ∧ IsR w' v' (canR how l) ∧ Below w.heap.size w w' := by
  have SO := hide (refSort_any h hl)
  by_cases hh : how = 0
  · subst hh
    clear h
    go_enter Try.func17, Try.ntmps17
    go_wp2_with fail
    refine SO.out.mono ?_
    rintro e w1 ⟨v1, rfl, r1, b1⟩
    have R1 := hide (And.intro r1.isR b1)
    clear r1 b1 SO
    go_wp2
    go_ret
    exact ⟨_, rfl, by rw [canR_zero]; exact R1.out.1, R1.out.2⟩
  · obtain ⟨S, hS⟩ : ∃ S, S = sortR [] l := ⟨_, rfl⟩
    have hSl : S.length = l.length := by rw [hS, sortR_length]; simp
    rw [← hS] at SO
    have HS := hide (And.intro hS hSl)
    obtain ⟨n, hn⟩ : ∃ n, n = S.length := ⟨_, rfl⟩
    have hn1 : n ≤ 100000 := by omega
    have HN := hide hn
    have hhb : (how == 0) = false := by simpa using hh
    clear h hS hSl hn
    go_enter Try.func17, Try.ntmps17
    go_wp2_with fail
    refine SO.out.mono ?_
    rintro e w1 ⟨v1, rfl, r1, b1⟩
    obtain ⟨a1, c1, rfl⟩ : ∃ a c, v1 = .slice a n c := by
      obtain ⟨a, c, e, _⟩ := r1.isR.form
      rw [← HN.out] at e
      exact ⟨a, c, e⟩
    have R1 := hide (And.intro r1.isR b1)
    have R0 := hide (And.intro (rowR_empty w1) ((Below.refl _ w1).alloc (Nat.le_refl _) (.cells #[] 44)))
    clear r1 b1 SO
    go_wp2
    go_loopw [6, 7] (fun vo v wr => ∃ i : Nat, v = .int .i64 (i : Int) ∧ i ≤ n ∧ Hid (RowR wr vo (foldR how (S.take i)) ∧ (∀ x ∈ own vo, w1.heap.size ≤ x) ∧ Below w1.heap.size w1 wr)) (fun _ v _ => n + 1 - numOf v)
    case atStart => exact ⟨0, rfl, Nat.zero_le _, by simpa [foldR] using R0.out.1, by simp [own, Value.ownBlock], R0.out.2⟩
    case round =>
      obtain ⟨i, rfl, hi, HR⟩ := hrel
      have hw1 : IntKind.i64.wrap ((i : Int) + 1) = (i : Int) + 1 := i64_small _ (by omega) (by omega)
      by_cases hin : i < n
      · have hin' : (i : Int) < (n : Int) := by omega
        have hiS : i < S.length := by have := HN.out; omega
        obtain ⟨b, off, c', e, _, hc⟩ := (R1.out.1.below HR.out.2.2).opened (by omega)
        simp only [Value.slice.injEq] at e
        obtain ⟨rfl, hx1, rfl⟩ := e
        clear hx1
        obtain ⟨d1, d2⟩ := hc i hiS
        have okx := R1.out.1.okAt i hiS
        obtain ⟨x, hx⟩ : ∃ x, x = S[i]! := ⟨_, rfl⟩
        obtain ⟨F, hF⟩ : ∃ F, F = foldR how (S.take i) := ⟨_, rfl⟩
        have hsn := foldR_snoc how S i hiS
        rw [← hx, ← hF] at hsn
        rw [← hx] at d1 d2 okx
        have hFl : F.length ≤ i := by rw [hF]; have := foldR_le how (S.take i); simp at this; omega
        have hr := HR.out.1
        rw [← hF] at hr
        have HSN := hide hsn
        have HR2 := hide (And.intro hr HR.out.2)
        have OKX := hide okx
        have HFL := hide hFl
        obtain ⟨k, hk⟩ : ∃ k, k = F.length := ⟨_, rfl⟩
        obtain ⟨a, cap, hu⟩ : ∃ a c, u6 = .slice a k c := by
          obtain ⟨a, c, e, _⟩ := hr.isR.form
          rw [← hk] at e
          exact ⟨a, c, e⟩
        subst hu
        have hk1 : k ≤ 100000 := by omega
        obtain ⟨x1, x2⟩ := x
        dsimp only at d1 d2
        have KEEP : Hid (∀ v' w', RowR w' v' (foldR how (S.take (i + 1))) → Kept (own (.slice a k cap)) wr w' → Newly wr (own (.slice a k cap)) (own v') → RowR w' v' (foldR how (S.take (i + 1))) ∧ (∀ x ∈ own v', w1.heap.size ≤ x) ∧ Below w1.heap.size w1 w') := fun v' w' h1 h2 h3 => by
          have hs := HR2.out.2.2.size
          refine ⟨h1, fun x hx => ?_, HR2.out.2.2.trans (h2.below hs HR2.out.2.1)⟩
          rcases h3 x hx with h | h
          · exact HR2.out.2.1 x h
          · omega
        have AP : Hid (addR how F (x1, x2) = F ++ [(x1, x2)] → ∀ q ty, ∃ v' w', (Builtin.append_ #[22, 22] ty #[.slice a k cap, .slice (some ⟨wr.heap.size, 0, none⟩) 1 1]).run Try.prog ((wr.drewN q).alloc (.cells #[.int .u64 x1, .int .u64 x2] 44)) = .ok v' w' ∧ (RowR w' v' (foldR how (S.take (i + 1))) ∧ (∀ x ∈ own v', w1.heap.size ≤ x) ∧ Below w1.heap.size w1 w')) := fun he q ty => by
          have k1 : Kept [] wr ((wr.drewN q).alloc (.cells #[.int .u64 x1, .int .u64 x2] 44)) := ((Kept.refl [] wr).drewN q).alloc _
          have ho : IsR ((wr.drewN q).alloc (.cells #[.int .u64 x1, .int .u64 x2] 44)) (.slice (some ⟨wr.heap.size, 0, none⟩) 1 1) [(x1, x2)] := isR_one (wr.drewN q) x1 x2 OKX.out
          obtain ⟨v', w', h1, h2, h3, h4⟩ := (HR2.out.1.kept k1 (fun _ _ => by simp)).append ho (by have := HFL.out; simp; omega) ty
          refine ⟨v', w', h1, KEEP.out v' w' (by rw [HSN.out, he]; exact h2) ((k1.mono (by simp)).trans h3 (Newly.refl _ _)) (fun y hy => ?_)⟩
          rcases h4 y hy with h | h
          · exact .inl h
          · exact .inr (Nat.le_trans k1.size h)
        rcases Nat.eq_zero_or_pos k with hz | hz
        · subst hz
          have hF0 : F = [] := List.eq_nil_of_length_eq_zero hk.symm
          have AP2 := hide (AP.out (addR_push (.inr (.inl hF0))))
          clear hx hF hsn hr okx hFl hk hF0 hc AP
          go_wp2
          go_quiet (fail)
          go_wp2_with (first | (at_builtin; refine wp_appendY _ _ rfl 22 _ _ rfl _ _ rfl rfl (AP2.out _ _) ?_; intro v' w' hrow) | go_in)
          go_roundw
          case rel => exact ⟨i + 1, by go_num, by omega, hrow⟩
          case measure => simp [numOf]; omega
        · obtain ⟨k, rfl⟩ : ∃ j, k = j + 1 := ⟨k - 1, by omega⟩
          obtain ⟨g, cg, eg, hcg⟩ := hr.blk (by omega)
          rw [← hk] at eg
          simp only [Value.slice.injEq] at eg
          obtain ⟨rfl, _, rfl⟩ := eg
          obtain ⟨c1, c2⟩ := hr.cell2 k (by omega)
          have z1 := hr.frozenAt (k * 2 + 1)
          have oky := hr.okAt k (by omega)
          obtain ⟨y, hy⟩ : ∃ y, y = F[k]! := ⟨_, rfl⟩
          rw [← hy] at c1 c2 oky
          have hlast : F[F.length - 1]! = y := by rw [hy, ← hk]; rfl
          have hne : F ≠ [] := fun e => by rw [e] at hk; simp at hk
          have hgb : g < wr.heap.size := hr.low g (by simp [own, Value.ownBlock])
          have hw2 : IntKind.i64.wrap ((k : Int) + 1 - 1) = (k : Int) := by rw [i64_small _ (by omega) (by omega)]; omega
          have hkk : (k : Int) < (k : Int) + 1 := by omega
          have hw3 : IntKind.i64.wrap (k : Int) = (k : Int) := i64_small _ (by omega) (by omega)
          have hk0 : (0 : Int) < (k : Int) + 1 := by omega
          have hkd : decide ((0 : Int) < (k : Int) + 1) = true := decide_eq_true hk0
          obtain ⟨y1, y2⟩ := y
          dsimp only at c1 c2
          by_cases hkey : y1 = x1
          · subst hkey
            have hadd : addR how F (y1, x2) = F.set k (y1, combV how y2 x2) := by
              rw [addR_comb (by rw [hlast]; simp [hh, hne]), hlast, ← hk]
              rfl
            have P : Hid (∀ q, RowR ((wr.drewN q).setCell ⟨g, k * 2 + 1, none⟩ (.int .u64 (combV how y2 x2))) (.slice (some ⟨g, 0, none⟩) (k + 1) cap) (foldR how (S.take (i + 1))) ∧ (∀ x ∈ own (.slice (some ⟨g, 0, none⟩) (k + 1) cap), w1.heap.size ≤ x) ∧ Below w1.heap.size w1 ((wr.drewN q).setCell ⟨g, k * 2 + 1, none⟩ (.int .u64 (combV how y2 x2)))) := fun q => by
              have r := (hr.kept ((Kept.refl [] wr).drewN q) (fun _ _ => by simp)).storedVal k (by omega) (combV how y2 x2) (combV_ok _ _ _ oky.2 okx.2)
              rw [← hy] at r
              exact KEEP.out _ _ (by rw [HSN.out, hadd]; exact r) (((Kept.refl _ wr).drewN q).setCell (.inl (by simp [own, Value.ownBlock])) _) (Newly.refl _ _)
            have CB := hide (fun w => refCombine_any how y2 x2 oky.2 okx.2 w)
            clear hx hF hsn hr okx hFl hk hc AP hlast hne hy oky hadd
            go_wp2
            go_quiet (fail)
            go_wp2
            go_region_law (go_simp; go_at_call 21; refine (CB.out _).mono ?_; rintro e w' ⟨rfl, rfl⟩)
            all_goals
              go_wp2
              go_roundw
            all_goals first
              | (case rel => exact ⟨i + 1, by go_num, by omega, P.out _⟩)
              | (case measure => simp [numOf]; omega)
          · have AP2 := hide (AP.out (addR_push (.inr (.inr (by rw [hlast]; exact hkey)))))
            have hkb : (y1 == x1) = false := by simpa using hkey
            clear hx hF hsn hr okx hFl hk hc AP hlast hne hy oky
            go_wp2
            go_quiet (fail)
            go_wp2_with (first | (at_builtin; refine wp_appendY _ _ rfl 22 _ _ rfl _ _ rfl rfl (AP2.out _ _) ?_; intro v' w' hrow) | go_in)
            go_roundw
            case rel => exact ⟨i + 1, by go_num, by omega, hrow⟩
            case measure => simp [numOf]; omega
      · obtain rfl : i = n := by omega
        have hle : ¬ ((i : Int) < (i : Int)) := by omega
        go_wp2
        go_ret
        obtain ⟨h1, h2, h3⟩ := HR.out
        rw [List.take_of_length_le (by have := HN.out; omega), HS.out.1] at h1
        exact ⟨_, rfl, h1.isR, R1.out.2.trans (h3.mono R1.out.2.size)⟩

set_option maxRecDepth 100000 in
set_option maxHeartbeats 2000000 in
theorem refMerge_any {w : World} {v : Value} {ls : List (List Rc)} (how : Int) (h : IsRR w v ls) (hls : ls.length ≤ 10000) (hf : ls.flatten.length ≤ 100000) :
    Calls Try.prog 19 #[v, .int .i64 how] w fun e w' => ∃ v', e = .returned v' ∧ IsR w' v' (canR how ls.flatten) ∧ Below w.heap.size w w' := by
  obtain ⟨a, cap, rfl, hcap⟩ := h.form
  obtain ⟨n, hn⟩ : ∃ n, n = ls.length := ⟨_, rfl⟩
  rw [← hn] at hls
  have HN := hide hn
  have HI := hide h
  have R0 := hide (And.intro (rowR_empty w) ((Below.refl _ w).alloc (Nat.le_refl _) (.cells #[] 44)))
  rw [← hn] at HI
  rw [← hn]
  clear h hn hcap
  go_enter Try.func19, Try.ntmps19
  go_wp2
  go_loopw [5, 6] (fun vo vi wr => ∃ i : Nat, vi = .int .i64 (i : Int) ∧ i ≤ n ∧ Hid (RowR wr vo (ls.take i).flatten ∧ (∀ x ∈ own vo, w.heap.size ≤ x) ∧ Below w.heap.size w wr)) (fun _ vi _ => n + 1 - numOf vi)
  case atStart => exact ⟨0, rfl, Nat.zero_le _, by simpa using R0.out.1, by simp [own, Value.ownBlock], R0.out.2⟩
  case round =>
    obtain ⟨i, rfl, hi, HR⟩ := hrel
    have hw1 : IntKind.i64.wrap ((i : Int) + 1) = (i : Int) + 1 := i64_small _ (by omega) (by omega)
    by_cases hin : i < n
    · have hin' : (i : Int) < (n : Int) := by omega
      have hil : i < ls.length := by have := HN.out; omega
      obtain ⟨b, off, c', e, _, hc⟩ := (HI.out.below HR.out.2.2).opened (by omega)
      simp only [Value.slice.injEq] at e
      obtain ⟨rfl, hx1, rfl⟩ := e
      clear hx1
      obtain ⟨ai, ci, hcell, hI⟩ := hc i hil
      have hsn : (ls.take (i + 1)).flatten = (ls.take i).flatten ++ (ls[i]?.getD []) := by
        rw [List.take_succ_eq_append_getElem hil, List.flatten_append, List.getElem?_eq_getElem hil]
        simp
      have hfs : (ls.take (i + 1)).flatten.length ≤ 100000 := by
        have h3 : ls.flatten.length = (ls.take (i + 1)).flatten.length + (ls.drop (i + 1)).flatten.length := by
          rw [← List.length_append, ← List.flatten_append, List.take_append_drop]
        omega
      have HF : Hid ((ls.take i).flatten.length + (ls[i]?.getD []).length ≤ 1099511627776) := by
        show _ ≤ _
        rw [hsn, List.length_append] at hfs
        omega
      have FS := hide hsn
      obtain ⟨L, hL⟩ : ∃ L, L = ls[i]?.getD [] := ⟨_, rfl⟩
      rw [← hL] at hcell hI HF FS
      obtain ⟨li, hli⟩ : ∃ li, li = L.length := ⟨_, rfl⟩
      rw [← hli] at hcell hI
      have R1 := hide HR.out.1
      have HI2 := hide hI
      clear hsn hfs hL hli hc hI
      go_wp2_with (first | (at_builtin; refine wp_appendR _ rfl _ _ rfl _ _ _ L rfl R1.out rfl HI2.out HF.out ?_; intro v' w' hrow hk hn) | go_in)
      go_roundw
      case rel =>
        have hge := HR.out.2.1
        have hs := HR.out.2.2.size
        refine ⟨i + 1, by go_num, by omega, by rw [FS.out]; exact hrow, fun x hx => ?_, HR.out.2.2.trans (hk.below hs hge)⟩
        rcases hn x hx with h | h
        · exact hge x h
        · omega
      case measure => simp [numOf]; omega
    · obtain rfl : i = n := by omega
      have hle : ¬ ((i : Int) < (i : Int)) := by omega
      obtain ⟨h1, h2, h3⟩ := HR.out
      rw [List.take_of_length_le (by have := HN.out; omega)] at h1
      have SO := hide (refSorted_any how h1.isR hf)
      have H3 := hide h3
      clear h1 h2 h3 HR
      go_wp2_with fail
      refine SO.out.mono ?_
      rintro e w5 ⟨v5, rfl, r5, b5⟩
      have F := hide (And.intro r5 (H3.out.trans (b5.mono H3.out.size)))
      clear r5 b5
      go_wp2
      go_ret
      exact ⟨_, rfl, F.out⟩

end Go.Proofs.Ytbppjbdcgcmjiaa
