/-
  Proved: for every number and all slices of numbers, LruLast returns true and leaves them as they were (without pins the keys are those that were used last, each once, the last one last). No condition.
-/
import Derived.WalkKit
import Derived.ProofKit
import Derived.OpenShut
import Derived.ShutString
import Derived.Test.YtokodmeabchmjaaLPure2
namespace Go.Proofs.Ytokodmeabchmjaa.lruLast
open Go.ChangeShapes Go.WideShapes Go.ChangeAt Go.RowKit
open Go.ChangeMaps (open_string shut_string)
set_option linter.unusedVariables false

theorem own : ownKnob Try.prog.godebug = none := by kernel_rfl
theorem laidOut : laidOutB Try.prog = true := by kernel_rfl

/-- WHAT THE WALK IS TOLD OF A SLICE OF INTEGERS THAT CAME IN. -/
def IsRow (k : IntKind) (w : World) (a : Option Addr) (len cap : Nat) (zs : List Int) : Prop :=
  (a = none ∧ len = 0 ∧ cap = 0 ∧ zs = []) ∨
  ∃ x, a = some x ∧ len ≤ cap ∧ cap ≤ maxLen ∧ zs.length = cap ∧ (∀ i, i < zs.length → w.cell? (x.add i) = some (.int k (zs.getD i 0))) ∧ ∀ n ∈ zs, (Lit.int k n).wf = true

/-- An element of a slice of numbers that came in. -/
theorem ints_at {w : World} {a : Option Addr} {len cap : Nat} {zs : List Int} (h : IsRow .i64 w a len cap zs) (i : Nat) (hi : i < len) : ∃ b off, a = some ⟨b, off, none⟩ ∧ (∀ w', Below w.heap.size w w' → w'.cell? ⟨b, off + i, none⟩ = some (.int .i64 (zs.getD i 0))) ∧ -9223372036854775808 ≤ zs.getD i 0 ∧ zs.getD i 0 ≤ 9223372036854775807 := by
  rcases h with ⟨rfl, rfl, rfl, rfl⟩ | ⟨x, rfl, hl, hm, hz, hc, hw⟩
  · omega
  · obtain ⟨b, off, spot⟩ := x
    have h1 := hc i (by omega)
    have hspot : spot = none := by simpa [Addr.add] using World.cell?_spot (hc 0 (by omega))
    subst hspot
    have e : (Addr.add ⟨b, off, none⟩ i) = ⟨b, off + i, none⟩ := by
      unfold Addr.add
      split
      · simp_all
      · rfl
    rw [e] at h1
    refine ⟨b, off, rfl, fun w' hb => ?_, ?_⟩
    · exact (Kept.of_below (fp := []) hb).cell h1 (by simp)
    · have hmem : zs.getD i 0 ∈ zs := by
        rw [List.getD_eq_getElem?_getD, List.getElem?_eq_getElem (by omega)]
        exact List.getElem_mem _
      exact bounds_i64 (hw _ hmem)
theorem ints_len {w : World} {a : Option Addr} {len cap : Nat} {zs : List Int} (h : IsRow .i64 w a len cap zs) : len ≤ zs.length := by
  rcases h with ⟨rfl, rfl, rfl, rfl⟩ | ⟨x, rfl, hl, hm, hz, hc, hw⟩
  · exact Nat.le_refl _
  · omega

theorem firsts_snoc (x : Int) : ∀ ys, firsts (ys ++ [x]) = if x ∈ firsts ys then firsts ys else firsts ys ++ [x]
  | [] => by simp [firsts]
  | y :: ys => by
    rw [List.cons_append, firsts, firsts_snoc x ys, firsts]
    by_cases h : x ∈ firsts ys
    · rw [if_pos h, if_pos]
      by_cases e : x = y
      · simp [e]
      · exact List.mem_cons_of_mem _ (List.mem_filter.2 ⟨h, by simpa using e⟩)
    · rw [if_neg h, List.filter_append]
      by_cases e : x = y
      · subst e
        simp
      · rw [if_neg]
        · simp [e]
        · simp only [List.mem_cons, List.mem_filter, not_or, not_and]
          exact ⟨e, fun h2 => absurd h2 h⟩

theorem firsts_append (a : List Int) : ∀ b, ∃ t, firsts (a ++ b) = firsts a ++ t
  | [] => ⟨[], by simp⟩
  | x :: b => by
    obtain ⟨t, ht⟩ := firsts_append (a ++ [x]) b
    rw [List.append_assoc, List.singleton_append, firsts_snoc] at ht
    split at ht
    · exact ⟨t, ht⟩
    · exact ⟨x :: t, by rw [ht]; simp⟩
termination_by b => b.length

/-- The keys behind the first i uses. -/
def Wn (zs : List Int) (n i : Nat) : List Int := (firsts (zs.take i).reverse).take n
/-- The last ones of m, from the i-th on, the last one first. -/
def Dn (zs : List Int) (m i : Nat) : List Int := ((zs.take m).drop i).reverse

theorem Wn_succ {zs : List Int} {n i : Nat} (hi : i < zs.length) : ((zs.getD i 0) :: (Wn zs n i).filter (fun y => !decide (y = zs.getD i 0))).take n = Wn zs n (i + 1) := by
  unfold Wn
  rw [take_firsts, List.take_succ_eq_append_getElem hi, List.reverse_append]
  simp [List.getD, hi]

theorem Wn_nodup (zs : List Int) (n i : Nat) : (Wn zs n i).Nodup := (firsts_nodup _).sublist (List.take_sublist _ _)
theorem Wn_len (zs : List Int) (n i : Nat) : (Wn zs n i).length ≤ n := by unfold Wn; rw [List.length_take]; omega

theorem Dn_step {zs : List Int} {m i : Nat} (hi : i < m) (hm : m ≤ zs.length) : Dn zs m i = Dn zs m (i + 1) ++ [zs.getD i 0] := by
  unfold Dn
  rw [List.drop_eq_getElem_cons (by rw [List.length_take]; omega), List.reverse_cons]
  congr 2
  have : i < zs.length := by omega
  simp [List.getD, this]

theorem Dn_last (zs : List Int) (m : Nat) : Dn zs m m = [] := by
  unfold Dn
  rw [List.drop_of_length_le (by rw [List.length_take]; omega)]
  rfl

theorem Dn_end {zs : List Int} {n m i : Nat} (hi : i ≤ m) (hl : (firsts (Dn zs m i)).length ≤ n) (he : i = 0 ∨ ¬ (firsts (Dn zs m i)).length < n) : Wn zs n m = firsts (Dn zs m i) := by
  have e : (zs.take m).reverse = Dn zs m i ++ (zs.take i).reverse := by
    unfold Dn
    rw [← List.reverse_append]
    congr 1
    have := List.take_append_drop i (zs.take m)
    rw [List.take_take, Nat.min_eq_left hi] at this
    exact this.symm
  obtain ⟨t, ht⟩ := firsts_append (Dn zs m i) (zs.take i).reverse
  unfold Wn
  rw [e, ht]
  rcases he with rfl | he
  · have : t = [] := by
      simp at ht
      exact ht
    rw [this, List.append_nil, List.take_of_length_le hl]
  · rw [List.take_append_of_le_length (by omega), List.take_of_length_le hl]

theorem mem_take_succ {F : List Int} {k : Nat} (h : k < F.length) {x : Int} : decide (x ∈ F.take (k + 1)) = (decide (x ∈ F.take k) || decide (x = F[k])) := by
  rw [List.take_succ_eq_append_getElem h]
  simp only [List.mem_append, List.mem_singleton, Bool.decide_or]

theorem B1x {w0 w w' : World} (h : Below w0.heap.size w0 w) (k : Below w.heap.size w w') : Below w0.heap.size w0 w' := below_then h k

section
variable {w0 w : World} {p n i : Nat} {zs : List Int}
open I
theorem q_use (h : Lc w0 w p n i (lastly (Wn zs n i))) (hn : 1 ≤ n) (hi : i < zs.length) (hi2 : i ≤ 1000) (k : Int) (hk : k = zs.getD i 0) (hok : kI.ok k) : Calls Try.prog 26 #[.pointer (some ⟨p, 0, none⟩), .int .i64 k] w fun x w' => (∃ a b c, x = .returned (.tuple #[a, b, c])) ∧ Lc w0 w' p n (i + 1) (lastly (Wn zs n (i + 1))) := by
  obtain ⟨g, hg⟩ := useA_lastly hn (Wn_nodup zs n i) (Wn_len zs n i) k
  rw [hk, Wn_succ hi, ← hk] at hg
  refine (h.use (by omega) k hok hg).mono ?_
  rintro x w' ⟨rfl, d⟩
  exact ⟨⟨_, _, _, rfl⟩, d⟩
theorem q_keys {N : Nat} {W : List Int} (h : Lc w0 w p n N (lastly W)) (hl : W.length ≤ 10) : Calls Try.prog 29 #[.pointer (some ⟨p, 0, none⟩)] w fun x w' => (∃ a cap, x = .returned (.slice a W.length cap) ∧ ∀ j, j < W.length → ∃ g, a = some ⟨g, 0, none⟩ ∧ w'.cell? ⟨g, W.length - 1 - j, none⟩ = some (.int .i64 (W.getD j 0))) ∧ Below w0.heap.size w0 w' ∧ Below w.heap.size w w' := by
  refine (h.keys sortsTo12 (by omega) (by rw [lastly_length]; omega)).mono ?_
  rintro e w' ⟨v, rfl, o, d, b⟩
  rw [lastly_length] at o
  obtain ⟨a, cap, rfl⟩ := row_len o
  refine ⟨⟨a, cap, rfl, fun j hj => ?_⟩, d.bel, b⟩
  obtain ⟨g, hg, _, hc⟩ := row_at o (i := W.length - 1 - j) (by omega)
  refine ⟨g, hg, ?_⟩
  rw [hc]
  simp only [lastly, List.map_map, List.getElem?_map]
  rw [List.getElem?_reverse (by omega), show W.length - 1 - (W.length - 1 - j) = j by omega, List.getElem?_eq_getElem hj]
  simp [List.getD, hj]
end

/-! ### The walk -/
set_option maxRecDepth 100000 in
set_option maxHeartbeats 4000000 in
theorem walk (a0 : Int) (a1 : Option Addr) (len1 cap1 : Nat) (z1 : List Int) (w : World) (w0 : (Lit.int .i64 a0).wf = true) (w1 : IsRow .i64 w a1 len1 cap1 z1) :
    Calls Try.prog 5 #[.int .i64 a0, .slice a1 len1 cap1] w fun e w' => e = .returned (.bool true) ∧ Below w.heap.size w w' := by
  obtain ⟨b0, b1⟩ := bounds_i64 w0
  have hb0 := and65535 a0
  obtain ⟨n, hn⟩ : ∃ n : Nat, (n : Int) = 1 + a0 % 65536 % 10 := ⟨(1 + a0 % 65536 % 10).toNat, by omega⟩
  have hn1 : 1 ≤ n := by omega
  have hn2 : n ≤ 10 := by omega
  have hn3 : 1 + a0 % 65536 % 10 = (n : Int) := hn.symm
  have hzl := ints_len w1
  obtain ⟨m, hm⟩ : ∃ m : Nat, m = min len1 100 := ⟨_, rfl⟩
  have hmin : ∀ (ts : Array TypeId) (t : TypeId) (W : World), (Builtin.min_ ts t #[.int .i64 (len1 : Int), .int .i64 100]).run Try.prog W = .ok (.int .i64 (m : Int)) W := by
    intro ts t W
    rw [run_min_int2]
    congr 2
    split <;> omega
  have hm1 : m ≤ len1 := by omega
  have hm2 : m ≤ 100 := by omega
  have hm3 : m ≤ z1.length := by omega
  have SH := hide (shown_any w)
  have HZ := hide w1
  clear hn w1 w0 hm
  go_enter Try.func5, Try.ntmps5
  go_wp2_with (go_at_call 10; refine SH.out.mono ?_; rintro e w1 ⟨rfl, b1'⟩; have B1 := hide b1'; clear b1')
  have NW := hide (I.Lc.new (w0 := w) (n : Int) B1.out)
  have hmx : max (n : Int) 1 = n := by omega
  rw [hmx] at NW
  clear hb0 hn3 b0 b1 SH hmx
  refine NW.out.mono ?_
  rintro e w2 ⟨p, rfl, d2'⟩
  have D2 : Hid (I.Lc w w2 p n 0 (lastly (Wn z1 n 0))) := by
    have e : lastly (Wn z1 n 0) = [] := by simp [Wn, firsts, lastly]
    rw [e]
    exact d2'
  clear d2' NW
  go_wp2_with fail
  go_loopw [8] (fun v wr => ∃ i : Nat, i ≤ m ∧ v = .int .i64 i ∧ Hid (I.Lc w wr p n i (lastly (Wn z1 n i)))) (fun v _ => m - numOf v)
  case atStart => exact ⟨0, Nat.zero_le _, rfl, D2⟩
  case round =>
    obtain ⟨i, hi, rfl, HD⟩ := hrel
    by_cases hlt : i < m
    · have hlt2 : (i : Int) < (m : Int) := by omega
      obtain ⟨b, off, rfl, hc, hz0, hz1⟩ := ints_at HZ.out i (by omega)
      have hc1 := hc _ HD.out.bel
      obtain ⟨k, hk⟩ : ∃ k, k = z1.getD i 0 := ⟨_, rfl⟩
      rw [← hk] at hc1 hz0 hz1
      have U := hide (q_use HD.out hn1 (by omega) (by omega) k hk ⟨hz0, hz1⟩)
      clear hk hc hz0 hz1
      go_wp2_with (go_at_call 26; refine U.out.mono ?_; rintro e w3 ⟨⟨ra, rb, rc, rfl⟩, d3'⟩; have D3 := hide d3'; clear d3')
      go_roundw
      case rel => exact ⟨i + 1, by omega, by go_num, D3⟩
      case measure => simp [numOf]; omega
    · obtain rfl : i = m := by omega
      have hlt2 : ¬ (i : Int) < (i : Int) := by omega
      go_wp2_with fail
      clear hlt hlt2 D2
      obtain ⟨wo, hwo⟩ : ∃ wo, wo = wr := ⟨_, rfl⟩
      subst hwo
      go_loopw [9, 10] (fun v9 v10 wr => ∃ (j V : Nat) (a : Option Addr) (cap : Nat), j ≤ i ∧ v10 = .int .i64 j ∧ v9 = .slice a V cap ∧ V ≤ n ∧ Hid (V = (firsts (Dn z1 i j)).length) ∧ Hid (wr.ownsRow wo.heap.size kI.tk 1 (.slice a V cap) V ((firsts (Dn z1 i j)).map (Value.int .i64))) ∧ Hid (Below wo.heap.size wo wr)) (fun _ v10 _ => numOf v10)
      case atStart => exact ⟨i, 0, none, 0, Nat.le_refl _, rfl, rfl, Nat.zero_le _, by show _ = _; rw [Dn_last]; rfl, by rw [Dn_last]; exact World.ownsRow_nil _ _ _ _, Below.refl _ _⟩
      case round =>
        obtain ⟨j, V, va, vc, hj, rfl, rfl, hV, HVL, HO, HB⟩ := hrel
        by_cases hgo : 0 < j ∧ V < n
        · obtain ⟨hg1, hg2⟩ := hgo
          obtain ⟨t, ht⟩ : ∃ t, j = t + 1 := ⟨j - 1, by omega⟩
          have hg3 : 0 < (j : Int) := by omega
          have hg4 : (V : Int) < (n : Int) := by omega
          have hw1 : IntKind.i64.wrap ((j : Int) - 1) = (t : Int) := by rw [i64_small _ (by omega) (by omega)]; omega
          obtain ⟨b, off, rfl, hc, hz0, hz1⟩ := ints_at HZ.out t (by omega)
          have HC := hide (fun W (h : Below w.heap.size w W) => hc W h)
          obtain ⟨x, hx⟩ : ∃ x, x = z1.getD t 0 := ⟨_, rfl⟩
          rw [← hx] at HC
          have HX := hide (And.intro ht hx)
          have htl : t < len1 := by omega
          clear hc hz0 hz1 ht hx
          obtain ⟨F, hF⟩ : ∃ F, F = firsts (Dn z1 i j) := ⟨_, rfl⟩
          rw [← hF] at HVL HO
          have HF := hide hF
          have HFN : Hid (firsts (Dn z1 i t) = if x ∈ F then F else F ++ [x]) := by
            show _ = _
            have e := HX.out
            rw [Dn_step (by omega) hm3, ← e.2, firsts_snoc, ← e.1, ← HF.out]
          clear hF
          go_wp2
          obtain ⟨wa, hwa⟩ : ∃ wa, wa = wr := ⟨_, rfl⟩
          subst hwa
          go_loopw [11, 12] (fun v11 v12 wr => ∃ (k : Nat) (inn : Bool), v11 = .bool inn ∧ v12 = .int .i64 k ∧ k ≤ V ∧ Hid (inn = decide (x ∈ F.take k)) ∧ Hid (Kept [] wa wr)) (fun _ v12 _ => V - numOf v12)
          case atStart => exact ⟨0, false, rfl, rfl, Nat.zero_le _, by show _ = _; simp, Kept.refl _ _⟩
          case round =>
            obtain ⟨k, inn, rfl, rfl, hk, HIN, KW⟩ := hrel
            by_cases hkv : k < V
            · have hk2 : (k : Int) < (V : Int) := by omega
              have hkF : k < F.length := by have := HVL.out; omega
              obtain ⟨g, rfl, _, hg⟩ := I.row_at HO.out hkv
              have q1 := KW.out.cell (hg.trans (by simp [hkF] : _ = some (Value.int .i64 F[k]))) (by simp)
              have q2 := KW.out.cell (HC.out _ (B1x HD.out.bel HB.out)) (by simp)
              have htk : Hid (∀ b : Bool, (b = decide (x = F[k])) → (inn || b) = decide (x ∈ F.take (k + 1))) := fun b hb => by
                rw [HIN.out, hb, mem_take_succ hkF]
              obtain ⟨y, hy⟩ : ∃ y, y = F[k] := ⟨_, rfl⟩
              rw [← hy] at q1
              have HYY := hide hy
              clear hg hy
              cases hin : inn with
              | true =>
                subst hin
                go_wp2
                go_quiet (fail)
                go_wp2
                go_roundw
                case rel => exact ⟨k + 1, true, rfl, by go_num, by omega, htk.out _ rfl, by first | exact KW | exact KW.out.drewN _ | exact KW.out.drew⟩
                case measure => simp [numOf]; omega
              | false =>
                subst hin
                cases hyx : (y == x) with
                | true =>
                  go_wp2
                  go_quiet (fail)
                  go_wp2
                  go_roundw
                  case rel => exact ⟨k + 1, true, rfl, by go_num, by omega, htk.out true (by have e := HYY.out; simp at hyx; simp [← hyx, e]), by first | exact KW | exact KW.out.drewN _ | exact KW.out.drew⟩
                  case measure => simp [numOf]; omega
                | false =>
                  go_wp2
                  go_quiet (fail)
                  go_wp2
                  go_roundw
                  case rel => exact ⟨k + 1, false, rfl, by go_num, by omega, htk.out false (by have e := HYY.out; simp at hyx; simp [← e]; exact fun h => hyx h.symm), by first | exact KW | exact KW.out.drewN _ | exact KW.out.drew⟩
                  case measure => simp [numOf]; omega
            · obtain rfl : k = V := by omega
              have hk2 : ¬ (k : Int) < (k : Int) := by omega
              have hink : Hid (inn = decide (x ∈ F)) := by show _ = _; rw [HIN.out, HVL.out, List.take_length]
              have HBW := hide (HB.out.trans (KW.out.below HB.out.size (by simp)))
              have HOW := hide (ownsRow_kept HO.out KW.out (by simp))
              cases hin : inn with
              | true =>
                subst hin
                have hmem : x ∈ F := by simpa using hink.out.symm
                go_wp2
                go_roundw
                case rel => exact ⟨t, k, va, vc, by have := HX.out.1; omega, by first | rfl | go_num, rfl, hV, by show _ = _; rw [HFN.out, if_pos hmem]; exact HVL.out, by rw [HFN.out, if_pos hmem]; exact HOW, HBW⟩
                case measure => have := HX.out.1; simp [numOf]; omega
              | false =>
                subst hin
                have hmem : x ∉ F := by simpa using hink.out.symm
                have q2 := HC.out _ (B1x HD.out.bel HBW.out)
                have hlm : k + 1 ≤ 1000000 := by omega
                have HBS := hide HBW.out.size
                go_wp2_with (at_builtin; refine I.wp_pushK _ rfl _ _ rfl wo.heap.size (.slice va k vc) k _ x rfl HOW.out rfl hlm HBS.out ?_; intro g2 cap2 w6 o6 b6; have O6 := hide o6; have B6 := hide b6; clear o6 b6)
                go_roundw
                case rel => exact ⟨t, k + 1, _, _, by have := HX.out.1; omega, by first | rfl | go_num, rfl, by omega, by show _ = _; rw [HFN.out, if_neg hmem, List.length_append, ← HVL.out]; rfl, by rw [HFN.out, if_neg hmem, List.map_append]; exact O6, HBW.out.trans B6.out⟩
                case measure => have := HX.out.1; simp [numOf]; omega
        · obtain ⟨F, hF⟩ : ∃ F, F = firsts (Dn z1 i j) := ⟨_, rfl⟩
          rw [← hF] at HVL HO
          have hWF : Wn z1 n i = F := by
            rw [hF]
            exact Dn_end hj (by rw [← hF, ← HVL.out]; exact hV) (by rw [← hF, ← HVL.out]; omega)
          have D7 : Hid (I.Lc w wr p n i (lastly F)) := by
            have := HD.out.below HB.out
            rw [hWF] at this
            exact this
          have KY := hide (q_keys D7.out (by rw [← HVL.out]; omega))
          rw [← HVL.out] at KY
          have hex : (0 < (j : Int) ∧ ¬ (V : Int) < (n : Int)) ∨ ¬ 0 < (j : Int) := by omega
          clear hgo hF hWF HD D7 HB
          rcases hex with ⟨h4, h5⟩ | h4
          all_goals
            go_wp2_with (go_at_call 29; refine KY.out.mono ?_; rintro e w5 ⟨⟨ka, kc, rfl, hk5⟩, b5, b6⟩; have K5 := hide hk5; have B5 := hide b5; have O5 := hide (ownsRow_kept HO.out (Kept.of_below (fp := []) b6) (by simp)); clear hk5 b5 b6)
            go_loopw [14] (fun v wr => ∃ q : Nat, q ≤ V ∧ v = .int .i64 q ∧ Hid (Kept [] w5 wr)) (fun v _ => V - numOf v)
            case atStart => exact ⟨0, Nat.zero_le _, rfl, Kept.refl _ _⟩
            case round =>
              obtain ⟨q, hq, rfl, KW⟩ := hrel
              by_cases hqv : q < V
              · have hq2 : (q : Int) < (V : Int) := by omega
                obtain ⟨g, rfl, hg⟩ := K5.out q hqv
                obtain ⟨g2, rfl, _, hg2⟩ := I.row_at O5.out hqv
                have hqF : q < F.length := by have := HVL.out; omega
                have e1 : (F.map (Value.int .i64))[q]? = some (.int .i64 (F.getD q 0)) := by simp [List.getD, hqF]
                have q1 := KW.out.cell hg (by simp)
                have q2 := KW.out.cell (hg2.trans e1) (by simp)
                obtain ⟨u, hu⟩ : ∃ u, u = V - 1 - q := ⟨_, rfl⟩
                rw [← hu] at q1
                generalize F.getD q 0 = y at q1 q2
                have hw1 : IntKind.i64.wrap ((V : Int) - 1) = (V : Int) - 1 := i64_small _ (by omega) (by omega)
                have hw2 : IntKind.i64.wrap ((V : Int) - 1 - (q : Int)) = (u : Int) := by rw [i64_small _ (by omega) (by omega)]; omega
                have hu2 : (V : Int) - 1 - (q : Int) = (u : Int) := by omega
                have hu3 : u < V := by omega
                clear hg hg2 e1 hu
                go_wp2
                go_quiet (fail)
                go_wp2
                go_roundw
                case rel => exact ⟨q + 1, by omega, by go_num, by first | exact KW | exact KW.out.drewN _ | exact KW.out.drew⟩
                case measure => simp [numOf]; omega
              · obtain rfl : q = V := by omega
                have hq2 : ¬ (q : Int) < (q : Int) := by omega
                go_wp2
                go_ret
                exact ⟨rfl, B5.out.trans (KW.out.below B5.out.size (by simp))⟩

/-! ### The row's step -/
set_option maxRecDepth 100000 in
theorem lifted (os : Os) (started : os.Started) (H : Type) (enc : TypeId × Value → H) :
    ReturnsInHanded {} Try.checked os 5 .any (Rows.lruLastSpec.pre6 enc Try.prog Try.f5 Rows.lruLastRow.domain false) (Rows.lruLastSpec.post enc Try.prog Try.f5 false true false false) := by
  refine returnsInHanded_of_change (C := Try.checked) own started (by kernel_rfl) Try.func5
    (ChangeSpec.witness6 (enc := enc) (C := Try.checked) false ⟨#[], #[.int .i64 0, .slice none 0 0], []⟩ 8 (by kernel_rfl) (by kernel_rfl) (by kernel_rfl) (by kernel_rfl)) ?_
  intro W base args ds gs before hval0 hW hcnd _
  have hval : ∀ (j : Nat) t v, Try.f5.params[j]? = some t → args[j]? = some v → Value.okWide Try.prog W .any base t v := hval0
  have hW' := hW
  obtain ⟨p, q, hA0, hV, rfl, hfz, hnd⟩ := hW
  have hA : DataW.TrodAll enc Try.prog W 0 (fun _ => true) true Try.f5.params.toList args.toList ds p := hA0
  rw [Try.params5] at hA hval
  obtain ⟨v0, vs0, d0, ds0, p0, q0, hargs, rfl, rfl, h0, r0⟩ := trodAll_cons hA
  obtain ⟨v1, vs1, d1, ds1, p1, q1, rfl, rfl, rfl, h1, r1⟩ := trodAll_cons r0
  obtain ⟨rfl, rfl, rfl⟩ := trodAll_nil r1
  obtain rfl : args = #[v0, v1] := by cases args; simp_all
  obtain ⟨rfl, rfl⟩ := trodVars_none hV
  obtain ⟨a0, rfl, rfl, rfl, w0⟩ := open_int Try.underlying3 (hval 0 3 v0 rfl rfl) h0
  obtain ⟨a1, len1, cap1, rfl⟩ := okWide_slice Try.underlying37 (hval 1 37 v1 rfl rfl)
  have k1 := h1
  have lt1 : ∀ x ∈ p1, x.block < W.heap.size := by obtain ⟨m, hm⟩ := k1; exact DataW.trod_lt m _ _ _ hm
  obtain ⟨z1, w1⟩ : ∃ zs, IsRow .i64 W a1 len1 cap1 zs := by
    obtain ⟨fuel, hf⟩ := h1
    rcases open_ints Try.underlying37 Try.underlying3 (by kernel_rfl) hf with ⟨hcs, _⟩ | ⟨x, l, c, zs, hcs, _, hl, hm, hz, _, hcell, hwz⟩
    · simp [Value.cells] at hcs
      obtain ⟨rfl, rfl, rfl⟩ := hcs
      exact ⟨[], .inl ⟨rfl, rfl, rfl, rfl⟩⟩
    · simp [Value.cells] at hcs
      obtain ⟨rfl, rfl, rfl⟩ := hcs
      exact ⟨zs, .inr ⟨_, rfl, hl, hm, by simpa using hz, hcell, hwz⟩⟩
  clear hA0 hval0
  refine (walk a0 a1 len1 cap1 z1 W w0 w1).mono fun e W' ⟨he, bel⟩ => ?_
  subst he
  exact ⟨_, rfl, _, _, _, [], _, [], hW', trodAll_mk1 (shut_bool Try.underlying4 _), (trodAll_cons_mk (shut_int Try.underlying3 w0) (trodAll_cons_mk (Below.trod laidOut (by kernel_rfl) (of_decide_eq_true (by kernel_rfl)) k1 bel lt1) trodAll_mk0)), rfl, bel.frame _, fun h => by cases h⟩

theorem over : Rows.lruLastRow.holds Try.pinned (OpenSpec.ofChange Rows.lruLastSpec) :=
  OpenClaim.holds_of_wide 5 Try.f5 rfl rfl rfl rfl rfl rfl rfl ⟨rfl, rfl, rfl, rfl, rfl⟩ rfl rfl rfl rfl rfl (by kernel_rfl) Try.func5 (by kernel_rfl)
    (of_decide_eq_true (by kernel_rfl)) (by unfold Func.isWrapper; first | (rw [if_pos (by decide +kernel)]; kernel_rfl) | (rw [if_neg (by decide +kernel)]; exact ⟨rfl, rfl⟩))
    (fun os started H enc _ => lifted os started H enc)

/-- The statement. -/
theorem proved : Rows.LruLastSaid := over
#print axioms proved
end Go.Proofs.Ytokodmeabchmjaa.lruLast
