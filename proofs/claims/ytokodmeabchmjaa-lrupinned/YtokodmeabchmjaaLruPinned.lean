/-
  Proved: for every number and all slices of numbers, LruPinned returns true and leaves them as they were (what is pinned stays, whatever is used; the last one is there; never are there more than frames). No condition.
-/
import Derived.WalkKit
import Derived.ProofKit
import Derived.OpenShut
import Derived.ShutString
import Derived.Test.YtokodmeabchmjaaLPure
namespace Go.Proofs.Ytokodmeabchmjaa.lruPinned
open Go.ChangeShapes Go.WideShapes Go.ChangeAt Go.RowKit
open Go.ChangeMaps (open_string shut_string)
set_option linter.unusedVariables false

theorem own : ownKnob Try.prog.godebug = none := by kernel_rfl
theorem laidOut : laidOutB Try.prog = true := by kernel_rfl

/-- WHAT THE WALK IS TOLD OF A SLICE OF INTEGERS THAT CAME IN. -/
def IsRow (k : IntKind) (w : World) (a : Option Addr) (len cap : Nat) (zs : List Int) : Prop :=
  (a = none ∧ len = 0 ∧ cap = 0 ∧ zs = []) ∨
  ∃ x, a = some x ∧ len ≤ cap ∧ cap ≤ maxLen ∧ zs.length = cap ∧ (∀ i, i < zs.length → w.cell? (x.add i) = some (.int k (zs.getD i 0))) ∧ ∀ n ∈ zs, (Lit.int k n).wf = true

/-- An element of a slice of numbers that came in. -/
theorem ints_at {w : World} {a : Option Addr} {len cap : Nat} {zs : List Int} (h : IsRow .i64 w a len cap zs) (i : Nat) (hi : i < len) : ∃ b off, a = some ⟨b, off, none⟩ ∧ (∀ w', Below w.heap.size w w' → w'.cell? ⟨b, off + i, none⟩ = some (.int .i64 (zs.getD i 0))) ∧ -9223372036854775808 ≤ zs.getD i 0 ∧ zs.getD i 0 ≤ 9223372036854775807 := by
  rcases h with ⟨rfl, rfl, rfl, rfl⟩ | ⟨x, rfl, hl, hm, hz, hc, hw⟩
  · omega
  · obtain ⟨b, off, spot⟩ := x
    have h1 := hc i (by omega)
    have hspot : spot = none := by simpa [Addr.add] using World.cell?_spot (hc 0 (by omega))
    subst hspot
    have e : (Addr.add ⟨b, off, none⟩ i) = ⟨b, off + i, none⟩ := by
      unfold Addr.add
      split
      · simp_all
      · rfl
    rw [e] at h1
    refine ⟨b, off, rfl, fun w' hb => ?_, ?_⟩
    · exact (Kept.of_below (fp := []) hb).cell h1 (by simp)
    · have hmem : zs.getD i 0 ∈ zs := by
        rw [List.getD_eq_getElem?_getD, List.getElem?_eq_getElem (by omega)]
        exact List.getElem_mem _
      exact bounds_i64 (hw _ hmem)
/-- -1, -2, and so on. -/
def neg1 : Nat → Int := fun i => -((i : Int) + 1)

theorem firstA_at (n : Nat) (k : Int) : firstA (upto neg1 1 n ++ [(k, 0)]) = some k := by
  unfold firstA
  rw [List.find?_append, List.find?_eq_none.2]
  · simp
  · intro x hx
    obtain ⟨i, hi, rfl⟩ := List.mem_map.1 hx
    simp

theorem delA_snoc {l : List (Int × Nat)} {k : Int} {n : Nat} (h : ∀ x ∈ l, x.1 ≠ k) : delA (l ++ [(k, n)]) k = l := by
  unfold delA
  rw [List.filter_append, List.filter_eq_self.2 (fun x hx => by simpa using h x hx)]
  simp

theorem neg_none {n : Nat} {k : Int} (hk : 0 ≤ k) : ∀ x ∈ upto neg1 1 n, x.1 ≠ k := upto_none (fun j _ => by simp only [neg1]; omega)

/-- All but one pinned; one other at most. -/
def St (n : Nat) (l : List (Int × Nat)) : Prop := l = upto neg1 1 n ∨ ∃ k, 0 ≤ k ∧ l = upto neg1 1 n ++ [(k, 0)]

theorem useA_st {n : Nat} {l : List (Int × Nat)} (h : St n l) (k : Int) (hk : 0 ≤ k) : ∃ g, useA ((n + 1 : Nat) : Int) l k = (g, 0, upto neg1 1 n ++ [(k, 0)]) := by
  rcases h with rfl | ⟨k', hk', rfl⟩
  · exact ⟨none, useA_room (neg_none hk) (by rw [upto_length]; omega)⟩
  · by_cases e : k' = k
    · subst e
      unfold useA
      rw [lookA_snoc (neg_none hk)]
      simp only
      rw [delA_snoc (neg_none hk)]
      exact ⟨_, rfl⟩
    · unfold useA
      rw [lookA_none_of (fun x hx => by
        rcases List.mem_append.1 hx with hx | hx
        · exact neg_none hk x hx
        · simp at hx; subst hx; exact e)]
      simp only
      rw [if_pos (by rw [List.length_append, upto_length]; simp), firstA_at]
      simp only
      rw [delA_snoc (neg_none hk')]
      exact ⟨_, rfl⟩

theorem look_neg {n j : Nat} {k : Int} (hj : j < n) : (lookA (upto neg1 1 n ++ [(k, 0)]) (neg1 j)).isSome = true := by
  unfold lookA
  rw [Option.isSome_map]
  exact List.find?_isSome.2 ⟨(neg1 j, 1), List.mem_append.2 (.inl (List.mem_map.2 ⟨j, List.mem_range.2 hj, rfl⟩)), by simp⟩

section
variable {w0 w : World} {p n i N : Nat} {fr : Int}
open I
theorem q_use (h : Lc w0 w p fr i (upto neg1 1 i)) (hi : (i : Int) < fr) (hn : i ≤ 100) (x : Int) (hx : x = neg1 i) : Calls Try.prog 26 #[.pointer (some ⟨p, 0, none⟩), .int .i64 x] w fun x w' => (∃ a b c, x = .returned (.tuple #[a, b, c])) ∧ Lc w0 w' p fr (i + 1) (upto neg1 1 i ++ [(neg1 i, 0)]) := by
  subst hx
  refine (h.use (by omega) (neg1 i) (okI _ (by unfold neg1; omega) (by unfold neg1; omega)) (useA_room (upto_none (fun j hj => by simp only [neg1]; omega)) (by rw [upto_length]; omega))).mono ?_
  rintro x w' ⟨rfl, d⟩
  exact ⟨⟨_, _, _, rfl⟩, d⟩
theorem q_pin (h : Lc w0 w p fr (i + 1) (upto neg1 1 i ++ [(neg1 i, 0)])) (hn : i ≤ 100) (x : Int) (hx : x = neg1 i) : Calls Try.prog 27 #[.pointer (some ⟨p, 0, none⟩), .int .i64 x] w fun x w' => x = .returned (.int .i64 0) ∧ Lc w0 w' p fr (i + 1) (upto neg1 1 (i + 1)) := by
  subst hx
  have hno : ∀ x ∈ upto neg1 1 i, x.1 ≠ neg1 i := upto_none (fun j hj => by simp only [neg1]; omega)
  exact h.pin (neg1 i) (okI _ (by unfold neg1; omega) (by unfold neg1; omega)) (fun m hm => by rw [lookA_snoc hno] at hm; cases hm; omega) (e := 0) (l' := upto neg1 1 (i + 1)) (by unfold pinA; rw [lookA_snoc hno]; simp only; rw [setA_snoc hno, upto_succ])
theorem q_next {l : List (Int × Nat)} (h : Lc w0 w p ((n + 1 : Nat) : Int) N l) (hs : St n l) (hN : N ≤ 1000) (k : Int) (hk : 0 ≤ k) (hk2 : k ≤ 1000000) : Calls Try.prog 26 #[.pointer (some ⟨p, 0, none⟩), .int .i64 k] w fun x w' => (∃ a b, x = .returned (.tuple #[a, b, .int .i64 0])) ∧ Lc w0 w' p ((n + 1 : Nat) : Int) (N + 1) (upto neg1 1 n ++ [(k, 0)]) := by
  obtain ⟨g, hg⟩ := useA_st hs k hk
  refine (h.use (by omega) k (okI _ (by omega) hk2) hg).mono ?_
  rintro x w' ⟨rfl, d⟩
  exact ⟨⟨_, _, rfl⟩, d⟩
theorem q_has {k : Int} (h : Lc w0 w p fr N (upto neg1 1 n ++ [(k, 0)])) (hk : 0 ≤ k) (hk2 : k ≤ 1000000) : Calls Try.prog 28 #[.pointer (some ⟨p, 0, none⟩), .int .i64 k] w fun x w' => x = .returned (.bool true) ∧ Lc w0 w' p fr N (upto neg1 1 n ++ [(k, 0)]) :=
  h.has k (okI _ (by omega) hk2) (b := true) (by rw [lookA_snoc (neg_none hk)]; rfl)
theorem q_old {k : Int} {j : Nat} (h : Lc w0 w p fr N (upto neg1 1 n ++ [(k, 0)])) (hj : j < n) (hn : n ≤ 100) (y : Int) (hy : y = neg1 j) : Calls Try.prog 28 #[.pointer (some ⟨p, 0, none⟩), .int .i64 y] w fun x w' => x = .returned (.bool true) ∧ Lc w0 w' p fr N (upto neg1 1 n ++ [(k, 0)]) := by
  subst hy
  exact h.has (neg1 j) (okI _ (by unfold neg1; omega) (by unfold neg1; omega)) (b := true) (look_neg hj)
theorem q_keys {k : Int} (h : Lc w0 w p fr N (upto neg1 1 n ++ [(k, 0)])) (hn : n ≤ 9) : Calls Try.prog 29 #[.pointer (some ⟨p, 0, none⟩)] w fun x w' => (∃ a cap, x = .returned (.slice a (n + 1) cap)) ∧ Lc w0 w' p fr N (upto neg1 1 n ++ [(k, 0)]) := by
  have e : (upto neg1 1 n ++ [(k, 0)]).length = n + 1 := by rw [List.length_append, upto_length]; rfl
  refine (h.keys sortsTo12 (by omega) (by rw [e]; omega)).mono ?_
  rintro x w' ⟨v, rfl, o, d, _⟩
  rw [e] at o
  obtain ⟨a, cap, rfl⟩ := row_len o
  exact ⟨⟨a, cap, rfl⟩, d⟩
end

/-! ### The walk -/
set_option maxRecDepth 100000 in
set_option maxHeartbeats 4000000 in
theorem walk (a0 : Int) (a1 : Option Addr) (len1 cap1 : Nat) (z1 : List Int) (w : World) (w0 : (Lit.int .i64 a0).wf = true) (w1 : IsRow .i64 w a1 len1 cap1 z1) :
    Calls Try.prog 4 #[.int .i64 a0, .slice a1 len1 cap1] w fun e w' => e = .returned (.bool true) ∧ Below w.heap.size w w' := by
  obtain ⟨b0, b1⟩ := bounds_i64 w0
  have hb0 := and65535 a0
  obtain ⟨m, hm⟩ : ∃ m : Nat, (m : Int) = 1 + a0 % 65536 % 9 := ⟨(1 + a0 % 65536 % 9).toNat, by omega⟩
  have hm1 : 1 ≤ m := by omega
  have hm2 : m ≤ 9 := by omega
  obtain ⟨F, hF⟩ : ∃ F : Int, F = (m : Int) + 1 := ⟨_, rfl⟩
  have hn3 : 2 + a0 % 65536 % 9 = F := by omega
  have hF0 : Hid (F = ((m + 1 : Nat) : Int)) := by show F = _; omega
  have SH := hide (shown_any w)
  have HZ := hide w1
  have hF1 : (m : Int) < F := by omega
  have hF2 : F ≤ 10 := by omega
  clear hm w1 w0
  have HFm := hide hF
  clear hF
  go_enter Try.func4, Try.ntmps4
  go_wp2_with (go_at_call 10; refine SH.out.mono ?_; rintro e w1 ⟨rfl, b1'⟩; have B1 := hide b1'; clear b1')
  have NW := hide (I.Lc.new (w0 := w) F B1.out)
  have hmx : max F 1 = F := by omega
  rw [hmx] at NW
  clear hb0 hn3 b0 b1 SH hmx
  refine NW.out.mono ?_
  rintro e w2 ⟨p, rfl, d2'⟩
  have D2 := hide d2'
  clear d2' NW
  go_wp2_with fail
  go_loopw [7] (fun v wr => ∃ (i : Nat) (x : Int), i ≤ m ∧ v = .int .i64 x ∧ x = (i : Int) + 1 ∧ Hid (I.Lc w wr p F i (upto neg1 1 i))) (fun v _ => m + 1 - numOf v)
  case atStart => exact ⟨0, 1, Nat.zero_le _, rfl, rfl, D2⟩
  case round =>
    obtain ⟨i, x, hi, rfl, hx, HD⟩ := hrel
    have HX := hide hx
    by_cases hlt : i < m
    · have hlt2 : x < F := by have := HFm.out; omega
      have hx0 : 0 ≤ x := by omega
      have hx1 : x ≤ 10 := by omega
      have hng : Hid (-x = neg1 i) := by show -x = _; unfold neg1; omega
      have U := hide (q_use HD.out (by omega) (by omega) (-x) hng.out)
      clear hx
      go_wp2_with (first | (go_at_call 26; refine U.out.mono ?_; rintro e w3 ⟨⟨ra, rb, rc, rfl⟩, d3'⟩; have D3 := hide d3'; clear d3') | (go_at_call 27; refine (q_pin D3.out (by omega) (-x) hng.out).mono ?_; rintro e w4 ⟨rfl, d4'⟩; have D4 := hide d4'; clear d4'))
      go_roundw
      case rel => exact ⟨i + 1, x + 1, by omega, by first | rfl | go_num, by have := HX.out; omega, D4⟩
      case measure => have := HX.out; simp [numOf]; omega
    · obtain rfl : i = m := by omega
      have hlt2 : ¬ x < F := by have := HFm.out; omega
      clear hx
      go_wp2_with fail
      clear hlt hlt2 D2 HX
      obtain ⟨wo, hwo⟩ : ∃ wo, wo = wr := ⟨_, rfl⟩
      subst hwo
      have HD0 : Hid (I.Lc w wo p ((i + 1 : Nat) : Int) i (upto neg1 1 i)) := by rw [← hF0.out]; exact HD
      clear HD
      go_loopw [8] (fun v wr => ∃ (j : Nat) (l : List (Int × Nat)), j ≤ len1 ∧ j ≤ 100 ∧ v = .int .i64 j ∧ Hid (St i l) ∧ Hid (I.Lc w wr p ((i + 1 : Nat) : Int) (i + j) l)) (fun v _ => 100 - numOf v)
      case atStart => exact ⟨0, _, Nat.zero_le _, Nat.zero_le _, rfl, .inl rfl, HD0⟩
      case round =>
        obtain ⟨j, l, hj1, hj2, rfl, HS, HD2⟩ := hrel
        by_cases hjl : j < len1 ∧ j < 100
        · obtain ⟨hja, hjb⟩ := hjl
          have hja2 : (j : Int) < (len1 : Int) := by omega
          have hjb2 : (j : Int) < 100 := by omega
          obtain ⟨b, off, rfl, hc, hz0, hz1⟩ := ints_at HZ.out j hja
          have hc1 := hc _ HD2.out.bel
          generalize z1.getD j 0 = z at hc1 hz0 hz1
          have hbz := and65535 z
          obtain ⟨k, hk⟩ : ∃ k : Int, k = z % 65536 := ⟨_, rfl⟩
          have hk2 : z % 65536 = k := hk.symm
          have hk3 : 0 ≤ k := by omega
          have hk4 : k ≤ 1000000 := by omega
          have hle : ¬ F < ((i + 1 : Nat) : Int) := by have := hF0.out; omega
          clear hk hc
          have U := hide (q_next HD2.out HS.out (by omega) k hk3 hk4)
          go_wp2_with (first | (go_at_call 26; refine U.out.mono ?_; rintro e w3 ⟨⟨ra, rb, rfl⟩, d3'⟩; have D3 := hide d3'; clear d3') | (go_at_call 28; refine (q_has D3.out hk3 hk4).mono ?_; rintro e w4 ⟨rfl, d4'⟩; have D4 := hide d4'; clear d4') | (go_at_call 29; refine (q_keys D4.out hm2).mono ?_; rintro e w5 ⟨⟨rc, rd, rfl⟩, d5'⟩; have D5 := hide d5'; clear d5'))
          clear HD2 HS HD0 U D3 D4
          go_loopw [13] (fun v wr => ∃ (q : Nat) (y : Int), q ≤ i ∧ v = .int .i64 y ∧ y = (q : Int) + 1 ∧ Hid (I.Lc w wr p ((i + 1 : Nat) : Int) (i + j + 1) (upto neg1 1 i ++ [(k, 0)]))) (fun v _ => i + 1 - numOf v)
          case atStart => exact ⟨0, 1, Nat.zero_le _, rfl, rfl, D5⟩
          case round =>
            obtain ⟨q, y, hq, rfl, hy, HQ⟩ := hrel
            have HY := hide hy
            by_cases hqi : q < i
            · have hy2 : y < F := by have := HFm.out; omega
              have hy0 : 0 ≤ y := by omega
              have hy1 : y ≤ 10 := by omega
              have hng : Hid (-y = neg1 q) := by show -y = _; unfold neg1; omega
              have U := hide (q_old HQ.out hqi (by omega) (-y) hng.out)
              clear hy
              go_wp2_with (go_at_call 28; refine U.out.mono ?_; rintro e w6 ⟨rfl, d6'⟩; have D6 := hide d6'; clear d6')
              go_roundw
              case rel => exact ⟨q + 1, y + 1, by omega, by first | rfl | go_num, by have := HY.out; omega, D6⟩
              case measure => have := HY.out; simp [numOf]; omega
            · have hy2 : ¬ y < F := by have := HFm.out; omega
              clear hy
              go_wp2
              go_roundw
              case rel => exact ⟨j + 1, _, by omega, by omega, by go_num, .inr ⟨k, hk3, rfl⟩, HQ⟩
              case measure => simp [numOf]; omega
        · have hex : ((j : Int) < (len1 : Int) ∧ ¬ (j : Int) < 100) ∨ ¬ (j : Int) < (len1 : Int) := by omega
          clear hjl
          rcases hex with ⟨h1, h2⟩ | h1
          all_goals
            go_wp2
            go_ret
            exact ⟨rfl, HD2.out.bel⟩

/-! ### The row's step -/
set_option maxRecDepth 100000 in
theorem lifted (os : Os) (started : os.Started) (H : Type) (enc : TypeId × Value → H) :
    ReturnsInHanded {} Try.checked os 4 .any (Rows.lruPinnedSpec.pre6 enc Try.prog Try.f4 Rows.lruPinnedRow.domain false) (Rows.lruPinnedSpec.post enc Try.prog Try.f4 false true false false) := by
  refine returnsInHanded_of_change (C := Try.checked) own started (by kernel_rfl) Try.func4
    (ChangeSpec.witness6 (enc := enc) (C := Try.checked) false ⟨#[], #[.int .i64 0, .slice none 0 0], []⟩ 8 (by kernel_rfl) (by kernel_rfl) (by kernel_rfl) (by kernel_rfl)) ?_
  intro W base args ds gs before hval0 hW hcnd _
  have hval : ∀ (j : Nat) t v, Try.f4.params[j]? = some t → args[j]? = some v → Value.okWide Try.prog W .any base t v := hval0
  have hW' := hW
  obtain ⟨p, q, hA0, hV, rfl, hfz, hnd⟩ := hW
  have hA : DataW.TrodAll enc Try.prog W 0 (fun _ => true) true Try.f4.params.toList args.toList ds p := hA0
  rw [Try.params4] at hA hval
  obtain ⟨v0, vs0, d0, ds0, p0, q0, hargs, rfl, rfl, h0, r0⟩ := trodAll_cons hA
  obtain ⟨v1, vs1, d1, ds1, p1, q1, rfl, rfl, rfl, h1, r1⟩ := trodAll_cons r0
  obtain ⟨rfl, rfl, rfl⟩ := trodAll_nil r1
  obtain rfl : args = #[v0, v1] := by cases args; simp_all
  obtain ⟨rfl, rfl⟩ := trodVars_none hV
  obtain ⟨a0, rfl, rfl, rfl, w0⟩ := open_int Try.underlying3 (hval 0 3 v0 rfl rfl) h0
  obtain ⟨a1, len1, cap1, rfl⟩ := okWide_slice Try.underlying37 (hval 1 37 v1 rfl rfl)
  have k1 := h1
  have lt1 : ∀ x ∈ p1, x.block < W.heap.size := by obtain ⟨m, hm⟩ := k1; exact DataW.trod_lt m _ _ _ hm
  obtain ⟨z1, w1⟩ : ∃ zs, IsRow .i64 W a1 len1 cap1 zs := by
    obtain ⟨fuel, hf⟩ := h1
    rcases open_ints Try.underlying37 Try.underlying3 (by kernel_rfl) hf with ⟨hcs, _⟩ | ⟨x, l, c, zs, hcs, _, hl, hm, hz, _, hcell, hwz⟩
    · simp [Value.cells] at hcs
      obtain ⟨rfl, rfl, rfl⟩ := hcs
      exact ⟨[], .inl ⟨rfl, rfl, rfl, rfl⟩⟩
    · simp [Value.cells] at hcs
      obtain ⟨rfl, rfl, rfl⟩ := hcs
      exact ⟨zs, .inr ⟨_, rfl, hl, hm, by simpa using hz, hcell, hwz⟩⟩
  clear hA0 hval0
  refine (walk a0 a1 len1 cap1 z1 W w0 w1).mono fun e W' ⟨he, bel⟩ => ?_
  subst he
  exact ⟨_, rfl, _, _, _, [], _, [], hW', trodAll_mk1 (shut_bool Try.underlying4 _), (trodAll_cons_mk (shut_int Try.underlying3 w0) (trodAll_cons_mk (Below.trod laidOut (by kernel_rfl) (of_decide_eq_true (by kernel_rfl)) k1 bel lt1) trodAll_mk0)), rfl, bel.frame _, fun h => by cases h⟩

theorem over : Rows.lruPinnedRow.holds Try.pinned (OpenSpec.ofChange Rows.lruPinnedSpec) :=
  OpenClaim.holds_of_wide 4 Try.f4 rfl rfl rfl rfl rfl rfl rfl ⟨rfl, rfl, rfl, rfl, rfl⟩ rfl rfl rfl rfl rfl (by kernel_rfl) Try.func4 (by kernel_rfl)
    (of_decide_eq_true (by kernel_rfl)) (by unfold Func.isWrapper; first | (rw [if_pos (by decide +kernel)]; kernel_rfl) | (rw [if_neg (by decide +kernel)]; exact ⟨rfl, rfl⟩))
    (fun os started H enc _ => lifted os started H enc)

/-- The statement. -/
theorem proved : Rows.LruPinnedSaid := over
#print axioms proved
end Go.Proofs.Ytokodmeabchmjaa.lruPinned
