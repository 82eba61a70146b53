/-
  Proved: for every number and all slices of numbers, LruFull returns true and leaves them as they were (where all frames are pinned nothing comes, and nothing goes). No condition.
-/
import Derived.WalkKit
import Derived.ProofKit
import Derived.OpenShut
import Derived.ShutString
import Derived.Test.YtokodmeabchmjaaLPure
namespace Go.Proofs.Ytokodmeabchmjaa.lruFull
open Go.ChangeShapes Go.WideShapes Go.ChangeAt Go.RowKit
open Go.ChangeMaps (open_string shut_string)
set_option linter.unusedVariables false

theorem own : ownKnob Try.prog.godebug = none := by kernel_rfl
theorem laidOut : laidOutB Try.prog = true := by kernel_rfl

/-- WHAT THE WALK IS TOLD OF A SLICE OF INTEGERS THAT CAME IN. -/
def IsRow (k : IntKind) (w : World) (a : Option Addr) (len cap : Nat) (zs : List Int) : Prop :=
  (a = none ∧ len = 0 ∧ cap = 0 ∧ zs = []) ∨
  ∃ x, a = some x ∧ len ≤ cap ∧ cap ≤ maxLen ∧ zs.length = cap ∧ (∀ i, i < zs.length → w.cell? (x.add i) = some (.int k (zs.getD i 0))) ∧ ∀ n ∈ zs, (Lit.int k n).wf = true

/-- An element of a slice of numbers that came in. -/
theorem ints_at {w : World} {a : Option Addr} {len cap : Nat} {zs : List Int} (h : IsRow .i64 w a len cap zs) (i : Nat) (hi : i < len) : ∃ b off, a = some ⟨b, off, none⟩ ∧ (∀ w', Below w.heap.size w w' → w'.cell? ⟨b, off + i, none⟩ = some (.int .i64 (zs.getD i 0))) ∧ -9223372036854775808 ≤ zs.getD i 0 ∧ zs.getD i 0 ≤ 9223372036854775807 := by
  rcases h with ⟨rfl, rfl, rfl, rfl⟩ | ⟨x, rfl, hl, hm, hz, hc, hw⟩
  · omega
  · obtain ⟨b, off, spot⟩ := x
    have h1 := hc i (by omega)
    have hspot : spot = none := by simpa [Addr.add] using World.cell?_spot (hc 0 (by omega))
    subst hspot
    have e : (Addr.add ⟨b, off, none⟩ i) = ⟨b, off + i, none⟩ := by
      unfold Addr.add
      split
      · simp_all
      · rfl
    rw [e] at h1
    refine ⟨b, off, rfl, fun w' hb => ?_, ?_⟩
    · exact (Kept.of_below (fp := []) hb).cell h1 (by simp)
    · have hmem : zs.getD i 0 ∈ zs := by
        rw [List.getD_eq_getElem?_getD, List.getElem?_eq_getElem (by omega)]
        exact List.getElem_mem _
      exact bounds_i64 (hw _ hmem)
def id0 : Nat → Int := fun i => i

theorem firstA_pinned (n : Nat) : firstA (upto id0 1 n) = none := by
  unfold firstA
  rw [Option.map_eq_none_iff, List.find?_eq_none]
  intro x hx
  obtain ⟨i, hi, rfl⟩ := List.mem_map.1 hx
  simp

section
variable {w0 w : World} {p n i N : Nat}
open I
theorem q_use (h : Lc w0 w p n i (upto id0 1 i)) (hi : i < n) (hn : n ≤ 10) : Calls Try.prog 26 #[.pointer (some ⟨p, 0, none⟩), .int .i64 (i : Int)] w fun x w' => (∃ a b c, x = .returned (.tuple #[a, b, c])) ∧ Lc w0 w' p n (i + 1) (upto id0 1 i ++ [((i : Int), 0)]) := by
  refine (h.use (by omega) (i : Int) (okI _ (by omega) (by omega)) (useA_room (upto_none (fun j hj => by simp only [id0]; omega)) (by rw [upto_length]; omega))).mono ?_
  rintro x w' ⟨rfl, d⟩
  exact ⟨⟨_, _, _, rfl⟩, d⟩
theorem q_pin (h : Lc w0 w p n (i + 1) (upto id0 1 i ++ [((i : Int), 0)])) (hi : i < n) (hn : n ≤ 10) : Calls Try.prog 27 #[.pointer (some ⟨p, 0, none⟩), .int .i64 (i : Int)] w fun x w' => (∃ e : Int, x = .returned (.int .i64 e)) ∧ Lc w0 w' p n (i + 1) (upto id0 1 (i + 1)) := by
  have hno : ∀ x ∈ upto id0 1 i, x.1 ≠ (i : Int) := upto_none (fun j hj => by simp only [id0]; omega)
  refine (h.pin (i : Int) (okI _ (by omega) (by omega)) (fun m hm => by rw [lookA_snoc hno] at hm; cases hm; omega) (e := 0) (l' := upto id0 1 (i + 1)) (by unfold pinA; rw [lookA_snoc hno]; simp only; rw [setA_snoc hno, upto_succ]; rfl)).mono ?_
  rintro x w' ⟨rfl, d⟩
  exact ⟨⟨_, rfl⟩, d⟩
theorem q_full (h : Lc w0 w p n N (upto id0 1 n)) (hn : n ≤ 10) (hN : N ≤ 1000) (k : Int) (hk : (n : Int) ≤ k) (hk2 : k ≤ 1000000) : Calls Try.prog 26 #[.pointer (some ⟨p, 0, none⟩), .int .i64 k] w fun x w' => x = .returned (.tuple #[.int .i64 0, .bool false, .int .i64 8]) ∧ Lc w0 w' p n (N + 1) (upto id0 1 n) :=
  h.use (by omega) k (okI _ (by omega) hk2) (g := none) (e := 8) (l' := upto id0 1 n) (by
    unfold useA
    rw [lookA_none_of (upto_none (fun j hj => by simp only [id0]; omega))]
    simp only
    rw [if_pos (by rw [upto_length]; omega), firstA_pinned])
theorem q_has (h : Lc w0 w p n N (upto id0 1 n)) (hn : n ≤ 10) (k : Int) (hk : (n : Int) ≤ k) (hk2 : k ≤ 1000000) : Calls Try.prog 28 #[.pointer (some ⟨p, 0, none⟩), .int .i64 k] w fun x w' => x = .returned (.bool false) ∧ Lc w0 w' p n N (upto id0 1 n) :=
  h.has k (okI _ (by omega) hk2) (b := false) (by rw [lookA_none_of (upto_none (fun j hj => by simp only [id0]; omega))]; rfl)
theorem q_keys (h : Lc w0 w p n N (upto id0 1 n)) (hn : n ≤ 10) (hn1 : 1 ≤ n) : Calls Try.prog 29 #[.pointer (some ⟨p, 0, none⟩)] w fun x w' => (∃ g cap, x = .returned (.slice (some ⟨g, 0, none⟩) n cap) ∧ ∀ i, i < n → w'.cell? ⟨g, i, none⟩ = some (.int .i64 (i : Int))) ∧ Below w0.heap.size w0 w' := by
  refine (h.keys sortsTo12 (by omega) (by rw [upto_length]; omega)).mono ?_
  rintro e w' ⟨v, rfl, o, d, _⟩
  rw [upto_length] at o
  obtain ⟨a, cap, rfl⟩ := row_len o
  obtain ⟨g, rfl, _, _⟩ := row_at o (i := 0) (by omega)
  refine ⟨⟨g, cap, rfl, fun i hi => ?_⟩, d.bel⟩
  obtain ⟨g', hg, _, hc⟩ := row_at o hi
  cases hg
  rw [hc]
  simp [upto, id0, hi]
end

/-! ### The walk -/
set_option maxRecDepth 100000 in
set_option maxHeartbeats 4000000 in
theorem walk (a0 : Int) (a1 : Option Addr) (len1 cap1 : Nat) (z1 : List Int) (w : World) (w0 : (Lit.int .i64 a0).wf = true) (w1 : IsRow .i64 w a1 len1 cap1 z1) :
    Calls Try.prog 7 #[.int .i64 a0, .slice a1 len1 cap1] w fun e w' => e = .returned (.bool true) ∧ Below w.heap.size w w' := by
  obtain ⟨b0, b1⟩ := bounds_i64 w0
  have hb0 := and65535 a0
  obtain ⟨n, hn⟩ : ∃ n : Nat, (n : Int) = 1 + a0 % 65536 % 10 := ⟨(1 + a0 % 65536 % 10).toNat, by omega⟩
  have hn1 : 1 ≤ n := by omega
  have hn2 : n ≤ 10 := by omega
  have hn3 : 1 + a0 % 65536 % 10 = (n : Int) := hn.symm
  have SH := hide (shown_any w)
  have HZ := hide w1
  clear hn w1 w0
  go_enter Try.func7, Try.ntmps7
  go_wp2_with (go_at_call 10; refine SH.out.mono ?_; rintro e w1 ⟨rfl, b1'⟩; have B1 := hide b1'; clear b1')
  have NW := hide (I.Lc.new (w0 := w) (n : Int) B1.out)
  have hmx : max (n : Int) 1 = n := by omega
  rw [hmx] at NW
  clear hb0 hn3 b0 b1 SH hmx
  refine NW.out.mono ?_
  rintro e w2 ⟨p, rfl, d2'⟩
  have D2 := hide d2'
  clear d2' NW
  go_wp2_with fail
  go_loopw [7] (fun v wr => ∃ i : Nat, i ≤ n ∧ v = .int .i64 i ∧ Hid (I.Lc w wr p n i (upto id0 1 i))) (fun v _ => n - numOf v)
  case atStart => exact ⟨0, Nat.zero_le _, rfl, D2⟩
  case round =>
    obtain ⟨i, hi, rfl, HD⟩ := hrel
    by_cases hlt : i < n
    · have hlt2 : (i : Int) < (n : Int) := by omega
      have U := hide (q_use HD.out hlt hn2)
      go_wp2_with (first | (go_at_call 26; refine U.out.mono ?_; rintro e w3 ⟨⟨ra, rb, rc, rfl⟩, d3'⟩; have D3 := hide d3'; clear d3') | (go_at_call 27; refine (q_pin D3.out hlt hn2).mono ?_; rintro e w4 ⟨⟨rd, rfl⟩, d4'⟩; have D4 := hide d4'; clear d4'))
      go_roundw
      case rel => exact ⟨i + 1, by omega, by go_num, D4⟩
      case measure => simp [numOf]; omega
    · obtain rfl : i = n := by omega
      have hlt2 : ¬ (i : Int) < (i : Int) := by omega
      go_wp2_with fail
      clear hlt hlt2 D2
      obtain ⟨wo, hwo⟩ : ∃ wo, wo = wr := ⟨_, rfl⟩
      subst hwo
      go_loopw [8] (fun v wr => ∃ j : Nat, j ≤ len1 ∧ j ≤ 60 ∧ v = .int .i64 j ∧ Hid (I.Lc w wr p i (i + j) (upto id0 1 i))) (fun v _ => 60 - numOf v)
      case atStart => exact ⟨0, Nat.zero_le _, Nat.zero_le _, rfl, HD⟩
      case round =>
        obtain ⟨j, hj1, hj2, rfl, HD2⟩ := hrel
        by_cases hjl : j < len1 ∧ j < 60
        · obtain ⟨hja, hjb⟩ := hjl
          have hja2 : (j : Int) < (len1 : Int) := by omega
          have hjb2 : (j : Int) < 60 := by omega
          obtain ⟨b, off, rfl, hc, hz0, hz1⟩ := ints_at HZ.out j hja
          have hc1 := hc _ HD2.out.bel
          generalize z1.getD j 0 = z at hc1 hz0 hz1
          have hbz := and65535 z
          obtain ⟨k, hk⟩ : ∃ k : Int, k = (i : Int) + z % 65536 := ⟨_, rfl⟩
          have hk2 : (i : Int) + z % 65536 = k := hk.symm
          have hk3 : (i : Int) ≤ k := by omega
          have hk4 : k ≤ 1000000 := by omega
          clear hk hc
          have U := hide (q_full HD2.out hn2 (by omega) k hk3 hk4)
          go_wp2_with (first | (go_at_call 26; refine U.out.mono ?_; rintro e w3 ⟨rfl, d3'⟩; have D3 := hide d3'; clear d3') | (go_at_call 28; refine (q_has D3.out hn2 k hk3 hk4).mono ?_; rintro e w4 ⟨rfl, d4'⟩; have D4 := hide d4'; clear d4'))
          go_roundw
          case rel => exact ⟨j + 1, by omega, by omega, by go_num, D4⟩
          case measure => simp [numOf]; omega
        · have hex : ((j : Int) < (len1 : Int) ∧ ¬ (j : Int) < 60) ∨ ¬ (j : Int) < (len1 : Int) := by omega
          have KY := hide (q_keys HD2.out hn2 hn1)
          clear hjl HD HD2
          rcases hex with ⟨h1, h2⟩ | h1
          all_goals
            go_wp2_with (go_at_call 29; refine KY.out.mono ?_; rintro e w3 ⟨⟨g, cap, rfl, hk3⟩, b3⟩; have K3 := hide hk3; have B3 := hide b3; clear hk3 b3)
            go_loopw [14] (fun v wr => ∃ q : Nat, q ≤ i ∧ v = .int .i64 q ∧ Hid (Kept [] w3 wr)) (fun v _ => i - numOf v)
            case atStart => exact ⟨0, Nat.zero_le _, rfl, Kept.refl _ _⟩
            case round =>
              obtain ⟨q, hq, rfl, KW⟩ := hrel
              by_cases hqi : q < i
              · have hq2 : (q : Int) < (i : Int) := by omega
                have hc := KW.out.cell (K3.out q hqi) (by simp)
                go_wp2
                go_roundw
                case rel => exact ⟨q + 1, by omega, by go_num, by first | exact KW | exact KW.out.drew⟩
                case measure => simp [numOf]; omega
              · obtain rfl : q = i := by omega
                have hq2 : ¬ (q : Int) < (q : Int) := by omega
                go_wp2
                go_ret
                exact ⟨rfl, B3.out.trans (KW.out.below B3.out.size (by simp))⟩

/-! ### The row's step -/
set_option maxRecDepth 100000 in
theorem lifted (os : Os) (started : os.Started) (H : Type) (enc : TypeId × Value → H) :
    ReturnsInHanded {} Try.checked os 7 .any (Rows.lruFullSpec.pre6 enc Try.prog Try.f7 Rows.lruFullRow.domain false) (Rows.lruFullSpec.post enc Try.prog Try.f7 false true false false) := by
  refine returnsInHanded_of_change (C := Try.checked) own started (by kernel_rfl) Try.func7
    (ChangeSpec.witness6 (enc := enc) (C := Try.checked) false ⟨#[], #[.int .i64 0, .slice none 0 0], []⟩ 8 (by kernel_rfl) (by kernel_rfl) (by kernel_rfl) (by kernel_rfl)) ?_
  intro W base args ds gs before hval0 hW hcnd _
  have hval : ∀ (j : Nat) t v, Try.f7.params[j]? = some t → args[j]? = some v → Value.okWide Try.prog W .any base t v := hval0
  have hW' := hW
  obtain ⟨p, q, hA0, hV, rfl, hfz, hnd⟩ := hW
  have hA : DataW.TrodAll enc Try.prog W 0 (fun _ => true) true Try.f7.params.toList args.toList ds p := hA0
  rw [Try.params7] at hA hval
  obtain ⟨v0, vs0, d0, ds0, p0, q0, hargs, rfl, rfl, h0, r0⟩ := trodAll_cons hA
  obtain ⟨v1, vs1, d1, ds1, p1, q1, rfl, rfl, rfl, h1, r1⟩ := trodAll_cons r0
  obtain ⟨rfl, rfl, rfl⟩ := trodAll_nil r1
  obtain rfl : args = #[v0, v1] := by cases args; simp_all
  obtain ⟨rfl, rfl⟩ := trodVars_none hV
  obtain ⟨a0, rfl, rfl, rfl, w0⟩ := open_int Try.underlying3 (hval 0 3 v0 rfl rfl) h0
  obtain ⟨a1, len1, cap1, rfl⟩ := okWide_slice Try.underlying37 (hval 1 37 v1 rfl rfl)
  have k1 := h1
  have lt1 : ∀ x ∈ p1, x.block < W.heap.size := by obtain ⟨m, hm⟩ := k1; exact DataW.trod_lt m _ _ _ hm
  obtain ⟨z1, w1⟩ : ∃ zs, IsRow .i64 W a1 len1 cap1 zs := by
    obtain ⟨fuel, hf⟩ := h1
    rcases open_ints Try.underlying37 Try.underlying3 (by kernel_rfl) hf with ⟨hcs, _⟩ | ⟨x, l, c, zs, hcs, _, hl, hm, hz, _, hcell, hwz⟩
    · simp [Value.cells] at hcs
      obtain ⟨rfl, rfl, rfl⟩ := hcs
      exact ⟨[], .inl ⟨rfl, rfl, rfl, rfl⟩⟩
    · simp [Value.cells] at hcs
      obtain ⟨rfl, rfl, rfl⟩ := hcs
      exact ⟨zs, .inr ⟨_, rfl, hl, hm, by simpa using hz, hcell, hwz⟩⟩
  clear hA0 hval0
  refine (walk a0 a1 len1 cap1 z1 W w0 w1).mono fun e W' ⟨he, bel⟩ => ?_
  subst he
  exact ⟨_, rfl, _, _, _, [], _, [], hW', trodAll_mk1 (shut_bool Try.underlying4 _), (trodAll_cons_mk (shut_int Try.underlying3 w0) (trodAll_cons_mk (Below.trod laidOut (by kernel_rfl) (of_decide_eq_true (by kernel_rfl)) k1 bel lt1) trodAll_mk0)), rfl, bel.frame _, fun h => by cases h⟩

theorem over : Rows.lruFullRow.holds Try.pinned (OpenSpec.ofChange Rows.lruFullSpec) :=
  OpenClaim.holds_of_wide 7 Try.f7 rfl rfl rfl rfl rfl rfl rfl ⟨rfl, rfl, rfl, rfl, rfl⟩ rfl rfl rfl rfl rfl (by kernel_rfl) Try.func7 (by kernel_rfl)
    (of_decide_eq_true (by kernel_rfl)) (by unfold Func.isWrapper; first | (rw [if_pos (by decide +kernel)]; kernel_rfl) | (rw [if_neg (by decide +kernel)]; exact ⟨rfl, rfl⟩))
    (fun os started H enc _ => lifted os started H enc)

/-- The statement. -/
theorem proved : Rows.LruFullSaid := over
#print axioms proved
end Go.Proofs.Ytokodmeabchmjaa.lruFull
