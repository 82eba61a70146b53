/-
  Proved: for every two numbers, LruDrops returns true (a frame that was dropped is free: another key comes, and none goes; then one does, the one that was used longest ago). No condition.
-/
import Derived.Test.YtokodmeabchmjaaLPure
import Derived.WalkKit
import Derived.ProofKit
import Derived.OpenShut
import Derived.ShutString
namespace Go.Proofs.Ytokodmeabchmjaa.lruDrops
open Go.ChangeShapes Go.WideShapes Go.ChangeAt Go.RowKit
open Go.ChangeMaps (open_string shut_string)
set_option linter.unusedVariables false      -- a walk need not use every 'w<i>' (that an integer argument fits its kind)

theorem own : ownKnob Try.prog.godebug = none := by kernel_rfl

def wantOf (n wh : Nat) : Int := if n = 1 then 100 else if wh = 0 then 1 else 0
def id0 : Nat → Int := fun i => i
def d1 (n wh : Nat) := dropA (upto id0 0 n) (wh : Int)
def d2 (n wh : Nat) := useA n (d1 n wh).2 100
def d3 (n wh : Nat) := useA n (d2 n wh).2.2 101

def okD (n wh : Nat) : Bool := decide ((d1 n wh).1 = 0 ∧ (d2 n wh).1 = none ∧ (d2 n wh).2.1 = 0 ∧ (d3 n wh).1 = some (wantOf n wh) ∧ (d3 n wh).2.1 = 0 ∧ (d3 n wh).2.2.length = n ∧ lookA (d3 n wh).2.2 (wh : Int) = none)
theorem factsB : (List.range 11).all (fun n => (List.range n).all (fun wh => okD n wh)) = true := by kernel_rfl
theorem facts (n : Nat) (hn : n < 11) (_ : 1 ≤ n) (wh : Nat) (hw : wh < n) : (d1 n wh).1 = 0 ∧ (d2 n wh).1 = none ∧ (d2 n wh).2.1 = 0 ∧ (d3 n wh).1 = some (wantOf n wh) ∧ (d3 n wh).2.1 = 0 ∧ (d3 n wh).2.2.length = n ∧ lookA (d3 n wh).2.2 (wh : Int) = none :=
  of_decide_eq_true (List.all_eq_true.1 (List.all_eq_true.1 factsB n (List.mem_range.2 hn)) wh (List.mem_range.2 hw))

section
variable {w0 w : World} {p n wh : Nat}
open I
theorem q_use {i : Nat} (h : Lc w0 w p n i (upto id0 0 i)) (hi : i < n) (hn : n ≤ 10) : Calls Try.prog 26 #[.pointer (some ⟨p, 0, none⟩), .int .i64 (i : Int)] w fun x w' => (∃ a b c, x = .returned (.tuple #[a, b, c])) ∧ Lc w0 w' p n (i + 1) (upto id0 0 (i + 1)) := by
  refine (h.use (by omega) (i : Int) (okI _ (by omega) (by omega)) (useA_room (upto_none (fun j hj => by simp only [id0]; omega)) (by rw [upto_length]; omega))).mono ?_
  rintro x w' ⟨rfl, d⟩
  exact ⟨⟨_, _, _, rfl⟩, by rw [upto_succ]; exact d⟩
theorem q_drop (h : Lc w0 w p n n (upto id0 0 n)) (hn : n < 11) (hw : wh < n) : Calls Try.prog 30 #[.pointer (some ⟨p, 0, none⟩), .int .i64 (wh : Int)] w fun x w' => x = .returned (.int .i64 0) ∧ Lc w0 w' p n n (d1 n wh).2 := by
  have f := (facts n hn (by omega) wh hw).1
  exact h.drop (wh : Int) (okI _ (by omega) (by omega)) (e := 0) (l' := (d1 n wh).2) (by rw [← f]; rfl)
theorem q_use1 (h : Lc w0 w p n n (d1 n wh).2) (hn : n < 11) (hw : wh < n) : Calls Try.prog 26 #[.pointer (some ⟨p, 0, none⟩), .int .i64 100] w fun x w' => x = .returned (.tuple #[.int .i64 0, .bool false, .int .i64 0]) ∧ Lc w0 w' p n (n + 1) (d2 n wh).2.2 := by
  have f := facts n hn (by omega) wh hw
  exact h.use (by omega) 100 (okI _ (by omega) (by omega)) (g := none) (e := 0) (l' := (d2 n wh).2.2) (by rw [← f.2.1, ← f.2.2.1]; rfl)
theorem q_use2 (h : Lc w0 w p n (n + 1) (d2 n wh).2.2) (hn : n < 11) (hw : wh < n) : Calls Try.prog 26 #[.pointer (some ⟨p, 0, none⟩), .int .i64 101] w fun x w' => x = .returned (.tuple #[.int .i64 (wantOf n wh), .bool true, .int .i64 0]) ∧ Lc w0 w' p n (n + 1 + 1) (d3 n wh).2.2 := by
  have f := facts n hn (by omega) wh hw
  exact h.use (by omega) 101 (okI _ (by omega) (by omega)) (g := some (wantOf n wh)) (e := 0) (l' := (d3 n wh).2.2) (by rw [← f.2.2.2.1, ← f.2.2.2.2.1]; rfl)
theorem q_keys (h : Lc w0 w p n (n + 1 + 1) (d3 n wh).2.2) (hn : n < 11) (hw : wh < n) : Calls Try.prog 29 #[.pointer (some ⟨p, 0, none⟩)] w fun x w' => (∃ a cap, x = .returned (.slice a n cap)) ∧ Lc w0 w' p n (n + 1 + 1) (d3 n wh).2.2 := by
  have f := (facts n hn (by omega) wh hw).2.2.2.2.2.1
  refine (h.keys sortsTo12 (by omega) (by rw [f]; omega)).mono ?_
  rintro e w' ⟨v, rfl, o, d, _⟩
  rw [f] at o
  obtain ⟨a, cap, rfl⟩ := row_len o
  exact ⟨⟨a, cap, rfl⟩, d⟩
theorem q_has (h : Lc w0 w p n (n + 1 + 1) (d3 n wh).2.2) (hn : n < 11) (hw : wh < n) : Calls Try.prog 28 #[.pointer (some ⟨p, 0, none⟩), .int .i64 (wh : Int)] w fun x w' => x = .returned (.bool false) ∧ Lc w0 w' p n (n + 1 + 1) (d3 n wh).2.2 :=
  h.has (wh : Int) (okI _ (by omega) (by omega)) (b := false) (by rw [(facts n hn (by omega) wh hw).2.2.2.2.2.2]; rfl)
end

/-! ### The walk -/
set_option maxRecDepth 100000 in
set_option maxHeartbeats 4000000 in
theorem walk (a0 : Int) (a1 : Int) (w0 : (Lit.int .i64 a0).wf = true) (w1 : (Lit.int .i64 a1).wf = true) (w : World) :
    Calls Try.prog 8 #[.int .i64 a0, .int .i64 a1] w fun e w' => e = .returned (.bool true) ∧ Below w.heap.size w w' := by
  obtain ⟨b0, b1⟩ := bounds_i64 w0
  obtain ⟨b2, b3⟩ := bounds_i64 w1
  clear w0 w1
  have hb0 := and65535 a0
  have hb1 := and65535 a1
  obtain ⟨n, hn⟩ : ∃ n : Nat, (n : Int) = 1 + a0 % 65536 % 10 := ⟨(1 + a0 % 65536 % 10).toNat, by omega⟩
  have hn1 : 1 ≤ n := by omega
  have hn2 : n < 11 := by omega
  have hn3 : 1 + a0 % 65536 % 10 = (n : Int) := hn.symm
  have hnn : ¬ (n : Int) = 0 := by omega
  obtain ⟨wh, hw⟩ : ∃ wh : Nat, (wh : Int) = a1 % 65536 % (n : Int) := ⟨(a1 % 65536 % (n : Int)).toNat, by have := Int.emod_nonneg (a1 % 65536) hnn; omega⟩
  have hw2 : wh < n := by have := Int.emod_lt_of_pos (a1 % 65536) (show (0 : Int) < n by omega); omega
  have hw3 : (a1 % 65536).tmod (n : Int) = (wh : Int) := by rw [Int.tmod_eq_emod_of_nonneg (by omega)]; exact hw.symm
  have SH := hide (shown_any w)
  clear hn hw
  go_enter Try.func8, Try.ntmps8
  go_wp2_with (go_at_call 10; refine SH.out.mono ?_; rintro e w1 ⟨rfl, b1'⟩; have B1 := hide b1'; clear b1')
  have NW := hide (I.Lc.new (w0 := w) (n : Int) B1.out)
  have hmx : max (n : Int) 1 = n := by omega
  rw [hmx] at NW
  clear hb0 hb1 hn3 hw3 b0 b1 b2 b3 SH hmx
  refine NW.out.mono ?_
  rintro e w2 ⟨p, rfl, d2'⟩
  have D2 := hide d2'
  clear d2' NW
  go_wp2_with fail
  go_loopw [7] (fun v wr => ∃ i : Nat, i ≤ n ∧ v = .int .i64 i ∧ Hid (I.Lc w wr p n i (upto id0 0 i))) (fun v _ => n - numOf v)
  case atStart => exact ⟨0, Nat.zero_le _, rfl, D2⟩
  case round =>
    obtain ⟨i, hi, rfl, HD⟩ := hrel
    by_cases hlt : i < n
    · have hlt2 : (i : Int) < (n : Int) := by omega
      have U := hide (q_use HD.out hlt (by omega))
      go_wp2_with (go_at_call 26; refine U.out.mono ?_; rintro e w3 ⟨⟨ra, rb, rc, rfl⟩, d3'⟩; have D3 := hide d3'; clear d3')
      go_roundw
      case rel => exact ⟨i + 1, by omega, by go_num, D3⟩
      case measure => simp [numOf]; omega
    · obtain rfl : i = n := by omega
      have hlt2 : ¬ (i : Int) < (i : Int) := by omega
      go_wp2_with fail
      refine (q_drop HD.out hn2 hw2).mono ?_
      rintro e w3 ⟨rfl, d3'⟩
      have D3 := hide d3'
      clear d3'
      go_wp2_with fail
      refine (q_use1 D3.out hn2 hw2).mono ?_
      rintro e w4 ⟨rfl, d4'⟩
      have D4 := hide d4'
      clear d4'
      go_wp2_with fail
      refine (q_use2 D4.out hn2 hw2).mono ?_
      rintro e w5 ⟨rfl, d5'⟩
      have D5 := hide d5'
      clear d5' hlt hlt2
      by_cases h1 : i = 1
      · obtain rfl : wh = 0 := by omega
        subst h1
        have K := hide (q_keys D5.out hn2 hw2)
        have e0 : wantOf 1 0 = 100 := rfl
        rw [e0]
        go_wp2_with (first | (go_at_call 29; refine K.out.mono ?_; rintro e w6 ⟨⟨ra, rc, rfl⟩, d6'⟩; have D6 := hide d6'; clear d6') | (go_at_call 28; refine (q_has D6.out hn2 hw2).mono ?_; rintro e w7 ⟨rfl, d7'⟩; have D7 := hide d7'; clear d7'))
        go_ret
        exact ⟨rfl, D7.out.bel⟩
      · have h1' : ((i : Int) == 1) = false := by simpa using fun h : (i : Int) = 1 => h1 (by omega)
        have K := hide (q_keys D5.out hn2 hw2)
        by_cases h2 : wh = 0
        · subst h2
          have e0 : wantOf i 0 = 1 := by unfold wantOf; rw [if_neg h1, if_pos rfl]
          rw [e0]
          go_wp2_with (first | (go_at_call 29; refine K.out.mono ?_; rintro e w6 ⟨⟨ra, rc, rfl⟩, d6'⟩; have D6 := hide d6'; clear d6') | (go_at_call 28; refine (q_has D6.out hn2 hw2).mono ?_; rintro e w7 ⟨rfl, d7'⟩; have D7 := hide d7'; clear d7'))
          go_ret
          exact ⟨rfl, D7.out.bel⟩
        · have h2' : ((wh : Int) == 0) = false := by simpa using h2
          have e0 : wantOf i wh = 0 := by unfold wantOf; rw [if_neg h1, if_neg h2]
          rw [e0]
          go_wp2_with (first | (go_at_call 29; refine K.out.mono ?_; rintro e w6 ⟨⟨ra, rc, rfl⟩, d6'⟩; have D6 := hide d6'; clear d6') | (go_at_call 28; refine (q_has D6.out hn2 hw2).mono ?_; rintro e w7 ⟨rfl, d7'⟩; have D7 := hide d7'; clear d7'))
          go_ret
          exact ⟨rfl, D7.out.bel⟩

/-! ### THE ROW's STEP: WRITTEN OUT: LEAVE IT -/
set_option maxRecDepth 100000 in
theorem lifted (os : Os) (started : os.Started) (H : Type) (enc : TypeId × Value → H) :
    ReturnsInHanded {} Try.checked os 8 .any (Rows.lruDropsSpec.pre6 enc Try.prog Try.f8 Rows.lruDropsRow.domain false) (Rows.lruDropsSpec.post enc Try.prog Try.f8 false true false false) := by
  refine returnsInHanded_of_change (C := Try.checked) own started (by kernel_rfl) Try.func8
    (ChangeSpec.witness6 (enc := enc) (C := Try.checked) false ⟨#[], #[.int .i64 0, .int .i64 0], []⟩ 8 (by kernel_rfl) (by kernel_rfl) (by kernel_rfl) (by kernel_rfl)) ?_
  intro W base args ds gs before hval0 hW hcnd _
  have hval : ∀ (j : Nat) t v, Try.f8.params[j]? = some t → args[j]? = some v → Value.okWide Try.prog W .any base t v := hval0
  have hW' := hW
  obtain ⟨p, q, hA0, hV, rfl, hfz, hnd⟩ := hW
  have hA : DataW.TrodAll enc Try.prog W 0 (fun _ => true) true Try.f8.params.toList args.toList ds p := hA0
  rw [Try.params8] at hA hval
  obtain ⟨v0, vs0, d0, ds0, p0, q0, hargs, rfl, rfl, h0, r0⟩ := trodAll_cons hA
  obtain ⟨v1, vs1, d1, ds1, p1, q1, rfl, rfl, rfl, h1, r1⟩ := trodAll_cons r0
  obtain ⟨rfl, rfl, rfl⟩ := trodAll_nil r1
  obtain rfl : args = #[v0, v1] := by cases args; simp_all
  obtain ⟨rfl, rfl⟩ := trodVars_none hV
  obtain ⟨a0, rfl, rfl, rfl, w0⟩ := open_int Try.underlying3 (hval 0 3 v0 rfl rfl) h0
  obtain ⟨a1, rfl, rfl, rfl, w1⟩ := open_int Try.underlying3 (hval 1 3 v1 rfl rfl) h1
  clear hA0 hval0
  simp only [List.append_nil] at hW'
  refine (walk a0 a1 w0 w1 W).mono fun e W' ⟨he, hg⟩ => ?_
  subst he
  exact ⟨_, rfl, _, _, _, [], [], [], hW', trodAll_mk1 (shut_bool Try.underlying4 _), (trodAll_cons_mk (shut_int Try.underlying3 w0) (trodAll_cons_mk (shut_int Try.underlying3 w1) trodAll_mk0)), rfl, hg.frame _, fun h => by cases h⟩

theorem over : Rows.lruDropsRow.holds Try.pinned (OpenSpec.ofChange Rows.lruDropsSpec) :=
  OpenClaim.holds_of_wide 8 Try.f8 rfl rfl rfl rfl rfl rfl rfl ⟨rfl, rfl, rfl, rfl, rfl⟩ rfl rfl rfl rfl rfl (by kernel_rfl) Try.func8 (by kernel_rfl)
    (of_decide_eq_true (by kernel_rfl)) (by unfold Func.isWrapper; first | (rw [if_pos (by decide +kernel)]; kernel_rfl) | (rw [if_neg (by decide +kernel)]; exact ⟨rfl, rfl⟩))
    (fun os started H enc _ => lifted os started H enc)

/-- ████ THE STATEMENT ████ -/
theorem proved : Rows.LruDropsSaid :=
  over
#print axioms proved
end Go.Proofs.Ytokodmeabchmjaa.lruDrops
