/-
  Proved: for all slices of truths, LruCounts returns true and leaves them as they were (a key is pinned as often as it was, less as often as it was taken away). No condition.
-/
import Derived.WalkKit
import Derived.ProofKit
import Derived.OpenShut
import Derived.ShutString
import Derived.Deep.Grids
import Derived.Test.YtokodmeabchmjaaLPure2
namespace Go.Proofs.Ytokodmeabchmjaa.lruCounts
open Go.ChangeShapes Go.WideShapes Go.ChangeAt Go.RowKit
open Go.ChangeMaps (open_string shut_string)
set_option linter.unusedVariables false

theorem own : ownKnob Try.prog.godebug = none := by kernel_rfl
theorem laidOut : laidOutB Try.prog = true := by kernel_rfl

abbrev sK : ByteArray := ⟨#[107]⟩
abbrev sO : ByteArray := ⟨#[111, 116, 104, 101, 114]⟩
theorem okO : kS.ok sO := by
  show 5 ≤ maxLen
  unfold maxLen
  omega
theorem neKO : sK ≠ sO := by decide

section
variable {w0 w : World} {p n N : Nat}
open S
theorem q_use (h : Lc w0 w p 1 0 []) : Calls Try.prog 13 #[.pointer (some ⟨p, 0, none⟩), .string ⟨#[107]⟩] w fun x w' => x = .returned (.tuple #[.string ⟨#[]⟩, .bool false, .int .i64 0]) ∧ Lc w0 w' p 1 1 [(sK, 0)] :=
  h.use (by omega) sK (str1 107) (g := none) (e := 0) (l' := [(sK, 0)]) (by kernel_rfl)
theorem q_pin (h : Lc w0 w p 1 1 [(sK, n)]) (hn : n ≤ 1000) : Calls Try.prog 15 #[.pointer (some ⟨p, 0, none⟩), .string ⟨#[107]⟩] w fun x w' => x = .returned (.int .i64 0) ∧ Lc w0 w' p 1 1 [(sK, n + 1)] :=
  h.pin sK (str1 107) (fun m hm => nat_le (n := n) (by omega) m hm) (e := 0) (l' := [(sK, n + 1)]) (by kernel_rfl)
theorem q_un0 (h : Lc w0 w p 1 1 [(sK, 0)]) : Calls Try.prog 17 #[.pointer (some ⟨p, 0, none⟩), .string ⟨#[107]⟩] w fun x w' => x = .returned (.int .i64 9) ∧ Lc w0 w' p 1 1 [(sK, 0)] :=
  h.unpin sK (str1 107) (fun m hm => nat_le (n := 0) (by omega) m hm) (e := 9) (l' := [(sK, 0)]) (by kernel_rfl)
theorem q_un1 (h : Lc w0 w p 1 1 [(sK, n + 1)]) (hn : n ≤ 1000) : Calls Try.prog 17 #[.pointer (some ⟨p, 0, none⟩), .string ⟨#[107]⟩] w fun x w' => x = .returned (.int .i64 0) ∧ Lc w0 w' p 1 1 [(sK, n)] :=
  h.unpin sK (str1 107) (fun m hm => nat_le (n := n + 1) (by omega) m hm) (e := 0) (l' := [(sK, n)]) (by kernel_rfl)
theorem q_oth0 (h : Lc w0 w p 1 1 [(sK, 0)]) : Calls Try.prog 13 #[.pointer (some ⟨p, 0, none⟩), .string ⟨#[111, 116, 104, 101, 114]⟩] w fun x w' => x = .returned (.tuple #[.string ⟨#[107]⟩, .bool true, .int .i64 0]) ∧ Lc w0 w' p 1 2 [(sO, 0)] :=
  h.use (by omega) sO okO (g := some sK) (e := 0) (l' := [(sO, 0)]) (by kernel_rfl)
theorem q_oth1 (h : Lc w0 w p 1 1 [(sK, n + 1)]) : Calls Try.prog 13 #[.pointer (some ⟨p, 0, none⟩), .string ⟨#[111, 116, 104, 101, 114]⟩] w fun x w' => x = .returned (.tuple #[.string ⟨#[]⟩, .bool false, .int .i64 8]) ∧ Lc w0 w' p 1 2 [(sK, n + 1)] :=
  h.use (by omega) sO okO (g := none) (e := 8) (l' := [(sK, n + 1)]) (by kernel_rfl)
theorem q_drop1 (h : Lc w0 w p 1 2 [(sK, n + 1)]) : Calls Try.prog 19 #[.pointer (some ⟨p, 0, none⟩), .string ⟨#[107]⟩] w fun x w' => x = .returned (.int .i64 9) ∧ Lc w0 w' p 1 2 [(sK, n + 1)] :=
  h.drop sK (str1 107) (e := 9) (l' := [(sK, n + 1)]) (by kernel_rfl)
theorem q_has1 (h : Lc w0 w p 1 2 [(sK, n + 1)]) : Calls Try.prog 23 #[.pointer (some ⟨p, 0, none⟩), .string ⟨#[107]⟩] w fun x w' => x = .returned (.bool true) ∧ Lc w0 w' p 1 2 [(sK, n + 1)] :=
  h.has sK (str1 107) (b := true) (by kernel_rfl)
theorem q_pin0 (h : Lc w0 w p 1 2 [(sO, 0)]) : Calls Try.prog 15 #[.pointer (some ⟨p, 0, none⟩), .string ⟨#[107]⟩] w fun x w' => x = .returned (.int .i64 4) ∧ Lc w0 w' p 1 2 [(sO, 0)] :=
  h.pin sK (str1 107) (fun m hm => by cases hm) (e := 4) (l' := [(sO, 0)]) (by kernel_rfl)
theorem q_unn (h : Lc w0 w p 1 2 [(sO, 0)]) : Calls Try.prog 17 #[.pointer (some ⟨p, 0, none⟩), .string ⟨#[107]⟩] w fun x w' => x = .returned (.int .i64 4) ∧ Lc w0 w' p 1 2 [(sO, 0)] :=
  h.unpin sK (str1 107) (fun m hm => by cases hm) (e := 4) (l' := [(sO, 0)]) (by kernel_rfl)
theorem q_drop0 (h : Lc w0 w p 1 2 [(sO, 0)]) : Calls Try.prog 19 #[.pointer (some ⟨p, 0, none⟩), .string ⟨#[107]⟩] w fun x w' => x = .returned (.int .i64 4) ∧ Lc w0 w' p 1 2 [(sO, 0)] :=
  h.drop sK (str1 107) (e := 4) (l' := [(sO, 0)]) (by kernel_rfl)
theorem q_has0 (h : Lc w0 w p 1 2 [(sO, 0)]) : Calls Try.prog 23 #[.pointer (some ⟨p, 0, none⟩), .string ⟨#[107]⟩] w fun x w' => x = .returned (.bool false) ∧ Lc w0 w' p 1 2 [(sO, 0)] :=
  h.has sK (str1 107) (b := false) (by kernel_rfl)
end

/-! ### The walk -/
set_option maxRecDepth 100000 in
set_option maxHeartbeats 4000000 in
theorem walk (a0 : Option Addr) (len0 cap0 : Nat) (ks0 : List Bool) (w : World) (i0 : IsK w (.slice a0 len0 cap0) ks0) (l0 : ks0.length = len0) (c0 : len0 ≤ cap0) :
    Calls Try.prog 6 #[.slice a0 len0 cap0] w fun e w' => e = .returned (.bool true) ∧ Below w.heap.size w w' := by
  have SH := hide (shown_any w)
  have HZ := hide i0
  have HL := hide l0
  clear i0 c0 l0
  go_enter Try.func6, Try.ntmps6
  go_wp2_with (go_at_call 10; refine SH.out.mono ?_; rintro e w1 ⟨rfl, b1'⟩; have B1 := hide b1'; clear b1')
  have NW := hide (S.Lc.new (w0 := w) 1 B1.out)
  clear SH
  refine NW.out.mono ?_
  rintro e w2 ⟨p, rfl, d2'⟩
  have D2 : Hid (S.Lc w w2 p 1 0 []) := d2'
  clear d2' NW
  go_wp2_with (go_at_call 13; refine (q_use D2.out).mono ?_; rintro e w3 ⟨rfl, d3'⟩; have D3 := hide d3'; clear d3')
  go_loopw [5, 6] (fun v6 v7 wr => ∃ i n : Nat, i ≤ len0 ∧ i ≤ 60 ∧ n ≤ i ∧ v6 = .int .i64 n ∧ v7 = .int .i64 i ∧ Hid (S.Lc w wr p 1 1 [(sK, n)])) (fun _ v7 _ => 60 - numOf v7)
  case atStart => exact ⟨0, 0, Nat.zero_le _, Nat.zero_le _, Nat.le_refl _, rfl, rfl, D3⟩
  case round =>
    obtain ⟨i, n, h1, h2, h3, rfl, rfl, HD⟩ := hrel
    by_cases hjl : i < len0 ∧ i < 60
    · obtain ⟨hja, hjb⟩ := hjl
      have hja2 : (i : Int) < (len0 : Int) := by omega
      have hjb2 : (i : Int) < 60 := by omega
      obtain ⟨b, off, rfl, hc⟩ := HZ.out.at_ i (by rw [HL.out]; exact hja)
      have hc1 := hc _ HD.out.bel
      clear hc
      cases hk : ks0[i]?.getD false with
      | true =>
        rw [hk] at hc1
        have U := hide (q_pin HD.out (by omega))
        go_wp2_with (go_at_call 15; refine U.out.mono ?_; rintro e w4 ⟨rfl, d4'⟩; have D4 := hide d4'; clear d4')
        go_roundw
        case rel => exact ⟨i + 1, n + 1, by omega, by omega, by omega, by go_num, by go_num, D4⟩
        case measure => simp [numOf]; omega
      | false =>
        rw [hk] at hc1
        by_cases hz : n = 0
        · subst hz
          have U := hide (q_un0 HD.out)
          go_wp2_with (go_at_call 17; refine U.out.mono ?_; rintro e w4 ⟨rfl, d4'⟩; have D4 := hide d4'; clear d4')
          go_roundw
          case rel => exact ⟨i + 1, 0, by omega, by omega, by omega, by first | rfl | go_num, by go_num, D4⟩
          case measure => simp [numOf]; omega
        · obtain ⟨m, hm⟩ : ∃ m, n = m + 1 := ⟨n - 1, by omega⟩
          have HD1 : Hid (S.Lc w wr p 1 1 [(sK, m + 1)]) := by rw [← hm]; exact HD
          have U := hide (q_un1 HD1.out (by omega))
          obtain ⟨x, hx⟩ : ∃ x : Int, x = (n : Int) := ⟨_, rfl⟩
          rw [← hx]
          have hx0 : (x == 0) = false := by simp; omega
          have hx1 : 0 < x := by omega
          have hmax : ∀ (ts : Array TypeId) (t : TypeId) (W : World), (Builtin.max_ ts t #[.int .i64 0, .int .i64 (x - 1)]).run Try.prog W = .ok (.int .i64 (m : Int)) W := by
            intro ts t W
            rw [run_max_int2]
            congr 2
            split <;> omega
          have hw : IntKind.i64.wrap (x - 1) = x - 1 := i64_small _ (by omega) (by omega)
          have HM := hide (And.intro hm hx)
          clear HD hz hm hx HD1
          go_wp2_with (go_at_call 17; refine U.out.mono ?_; rintro e w4 ⟨rfl, d4'⟩; have D4 := hide d4'; clear d4')
          go_roundw
          case rel => exact ⟨i + 1, m, by omega, by omega, by have := HM.out.1; omega, by first | rfl | go_num, by go_num, D4⟩
          case measure => simp [numOf]; omega
    · have hex : ((i : Int) < (len0 : Int) ∧ ¬ (i : Int) < 60) ∨ ¬ (i : Int) < (len0 : Int) := by omega
      clear hjl
      by_cases hz : n = 0
      · subst hz
        have U := hide (q_oth0 HD.out)
        clear HD D2 D3
        rcases hex with ⟨h4, h5⟩ | h4
        all_goals
          go_wp2_with fail
          refine U.out.mono ?_
          rintro e w4 ⟨rfl, d4'⟩
          have D4 := hide d4'
          clear d4'
          go_wp2_with (first | (go_at_call 15; refine (q_pin0 D4.out).mono ?_; rintro e w5 ⟨rfl, d5'⟩; have D5 := hide d5'; clear d5') | (go_at_call 17; refine (q_unn D5.out).mono ?_; rintro e w6 ⟨rfl, d6'⟩; have D6 := hide d6'; clear d6') | (go_at_call 19; refine (q_drop0 D6.out).mono ?_; rintro e w7 ⟨rfl, d7'⟩; have D7 := hide d7'; clear d7') | (go_at_call 23; refine (q_has0 D7.out).mono ?_; rintro e w8 ⟨rfl, d8'⟩; have D8 := hide d8'; clear d8'))
          go_ret
          exact ⟨rfl, D8.out.bel⟩
      · obtain ⟨m, hm⟩ : ∃ m, n = m + 1 := ⟨n - 1, by omega⟩
        have HD1 : Hid (S.Lc w wr p 1 1 [(sK, m + 1)]) := by rw [← hm]; exact HD
        have hx1 : 0 < (n : Int) := by omega
        have U := hide (q_oth1 HD1.out)
        clear HD hz hm HD1 D2 D3
        rcases hex with ⟨h4, h5⟩ | h4
        all_goals
          go_wp2_with fail
          refine U.out.mono ?_
          rintro e w4 ⟨rfl, d4'⟩
          have D4 := hide d4'
          clear d4'
          go_wp2_with (first | (go_at_call 19; refine (q_drop1 D4.out).mono ?_; rintro e w7 ⟨rfl, d7'⟩; have D7 := hide d7'; clear d7') | (go_at_call 23; refine (q_has1 D7.out).mono ?_; rintro e w8 ⟨rfl, d8'⟩; have D8 := hide d8'; clear d8'))
          go_ret
          exact ⟨rfl, D8.out.bel⟩

/-! ### The row's step -/
set_option maxRecDepth 100000 in
theorem lifted (os : Os) (started : os.Started) (H : Type) (enc : TypeId × Value → H) :
    ReturnsInHanded {} Try.checked os 6 .any (Rows.lruCountsSpec.pre6 enc Try.prog Try.f6 Rows.lruCountsRow.domain false) (Rows.lruCountsSpec.post enc Try.prog Try.f6 false true false false) := by
  refine returnsInHanded_of_change (C := Try.checked) own started (by kernel_rfl) Try.func6
    (ChangeSpec.witness6 (enc := enc) (C := Try.checked) false ⟨#[], #[.slice none 0 0], []⟩ 8 (by kernel_rfl) (by kernel_rfl) (by kernel_rfl) (by kernel_rfl)) ?_
  intro W base args ds gs before hval0 hW hcnd _
  have hval : ∀ (j : Nat) t v, Try.f6.params[j]? = some t → args[j]? = some v → Value.okWide Try.prog W .any base t v := hval0
  have hW' := hW
  obtain ⟨p, q, hA0, hV, rfl, hfz, hnd⟩ := hW
  have hA : DataW.TrodAll enc Try.prog W 0 (fun _ => true) true Try.f6.params.toList args.toList ds p := hA0
  rw [Try.params6] at hA hval
  obtain ⟨v0, vs0, d0, ds0, p0, q0, hargs, rfl, rfl, h0, r0⟩ := trodAll_cons hA
  obtain ⟨rfl, rfl, rfl⟩ := trodAll_nil r0
  obtain rfl : args = #[v0] := by cases args; simp_all
  obtain ⟨rfl, rfl⟩ := trodVars_none hV
  obtain ⟨a0, len0, cap0, rfl⟩ := okWide_slice Try.underlying50 (hval 0 50 v0 rfl rfl)
  have k0 := h0
  have lt0 : ∀ x ∈ p0, x.block < W.heap.size := by obtain ⟨m, hm⟩ := k0; exact DataW.trod_lt m _ _ _ hm
  obtain ⟨ks0, i0, l0, c0⟩ : ∃ ks, IsK W (.slice a0 len0 cap0) ks ∧ ks.length = len0 ∧ len0 ≤ cap0 := by
    obtain ⟨fuel, hf⟩ := h0
    rcases Go.Deep.open_bools Try.underlying50 Try.underlying4 (by kernel_rfl) hf with ⟨hcs, _⟩ | ⟨x, l, c, B, hcs, _, hl, hm, _, hcell⟩
    · simp [Value.cells] at hcs
      obtain ⟨rfl, rfl, rfl⟩ := hcs
      exact ⟨[], IsK.nil W, rfl, Nat.le_refl _⟩
    · simp [Value.cells] at hcs
      obtain ⟨rfl, rfl, rfl⟩ := hcs
      refine ⟨(List.range len0).map B, ⟨some x, cap0, by simp, by simp; exact hl, by simp, fun y hy i hi => ?_⟩, by simp, hl⟩
      simp at hy hi
      subst hy
      rw [hcell i (by omega)]
      simp [hi]
  clear hA0 hval0
  refine (walk a0 len0 cap0 ks0 W i0 l0 c0).mono fun e W' ⟨he, bel⟩ => ?_
  subst he
  exact ⟨_, rfl, _, _, _, [], _, [], hW', trodAll_mk1 (shut_bool Try.underlying4 _), (trodAll_cons_mk (Below.trod laidOut (by kernel_rfl) (of_decide_eq_true (by kernel_rfl)) k0 bel lt0) trodAll_mk0), rfl, bel.frame _, fun h => by cases h⟩

theorem over : Rows.lruCountsRow.holds Try.pinned (OpenSpec.ofChange Rows.lruCountsSpec) :=
  OpenClaim.holds_of_wide 6 Try.f6 rfl rfl rfl rfl rfl rfl rfl ⟨rfl, rfl, rfl, rfl, rfl⟩ rfl rfl rfl rfl rfl (by kernel_rfl) Try.func6 (by kernel_rfl)
    (of_decide_eq_true (by kernel_rfl)) (by unfold Func.isWrapper; first | (rw [if_pos (by decide +kernel)]; kernel_rfl) | (rw [if_neg (by decide +kernel)]; exact ⟨rfl, rfl⟩))
    (fun os started H enc _ => lifted os started H enc)

/-- The statement. -/
theorem proved : Rows.LruCountsSaid := over
#print axioms proved
end Go.Proofs.Ytokodmeabchmjaa.lruCounts
