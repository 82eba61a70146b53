/-
  Proved: for every two numbers, DiskArms returns true (it crashes just ahead of the operation that it is armed for). No condition.
-/
import Derived.Test.YtahhokhhgamelaaDShown3
import Derived.WalkKit
import Derived.ProofKit
import Derived.OpenShut
import Derived.ShutString
namespace Go.Proofs.Ytahhokhhgamelaa.diskArms
open Go.ChangeShapes Go.WideShapes Go.ChangeAt Go.RowKit
open Go.ChangeMaps (open_string shut_string)
set_option linter.unusedVariables false      -- a walk need not use every 'w<i>' (that an integer argument fits its kind)

theorem own : ownKnob Try.prog.godebug = none := by kernel_rfl

theorem and65535 (n : Int) : bits .and .i64 n 65535 = n % 65536 := by
  have hm : (BitVec.ofInt 64 65535).toNat = 2 ^ 16 - 1 := by decide
  have key : (BitVec.ofInt 64 n &&& BitVec.ofInt 64 65535).toNat = (n % ((2 ^ 64 : Nat) : Int)).toNat % 2 ^ 16 := by
    rw [BitVec.toNat_and, BitVec.toNat_ofInt, hm, Nat.and_two_pow_sub_one_eq_mod]
  show IntKind.i64.wrap ((BitVec.ofInt 64 n &&& BitVec.ofInt 64 65535).toNat : Nat) = n % 65536
  rw [key, IntKind.wrap_i64]
  omega

/-- One file, without bytes. -/
def F0 : List Ab := [([102], [], [])]
def SR (ops : Int) (down : Bool) (left : Int) : Ds := { room := 10, used := 0, ops := ops, down := down, left := left, keep := [] }
/-- The disk that is armed for its n-th operation, behind j of them. -/
def SA (n j : Nat) : Ds := if j < n then SR (j + 1 : Nat) false ((n : Int) - j) else SR (j + 1 : Nat) true 0

theorem torn0 (ks : List Bool) : torn ks F0 0 = (F0, 0) := by rfl
theorem SA_lt {n j : Nat} (h : j < n) : SA n j = SR (j + 1 : Nat) false ((n : Int) - j) := if_pos h
theorem SA_ge {n j : Nat} (h : ¬ j < n) : SA n j = SR (j + 1 : Nat) true 0 := if_neg h

theorem SA_begin (n j : Nat) : beginA F0 (SA n j) = (F0, SA n (j + 1)) := by
  by_cases h : j + 1 < n
  · rw [SA_lt h, SA_lt (by omega : j < n)]
    unfold beginA SR
    rw [if_neg (by simp only; omega), if_pos (by simp only; omega)]
    simp
    omega
  · rw [SA_ge h]
    by_cases h2 : j < n
    · rw [SA_lt h2]
      unfold beginA SR
      rw [if_neg (by simp only; omega), if_neg (by simp only; omega)]
      unfold crashA
      rw [if_neg (by simp), torn0]
      simp [F0, usedB, sec]
    · rw [SA_ge h2]
      unfold beginA SR
      rw [if_pos rfl]
      simp

theorem size_up (ops left : Int) : sizeA (F0, SR ops false left) [102] = (0, 0) := by rfl
theorem size_dn (ops left : Int) : sizeA (F0, SR ops true left) [102] = (0, 7) := by rfl
theorem SA_ops (n j : Nat) : (SA n j).ops = ((j + 1 : Nat) : Int) := by unfold SA; split <;> rfl

section
variable {B : Nat} {w0 w : World} {p n j : Nat}
theorem da_create (h : Sd B w0 w p [] (SR 0 false 0)) : Calls Try.prog 16 #[.pointer (some ⟨p, 0, none⟩), .string ⟨#[102]⟩] w fun e w' => e = .returned (.int .i64 0) ∧ Sd B w0 w' p F0 (SR 1 false 0) :=
  h.create (by decide) ⟨#[102]⟩ (str1 102) (by rfl)
theorem da_arm (h : Sd B w0 w p F0 (SR 1 false 0)) (hn : 1 ≤ n) (hn2 : n ≤ 20) : Calls Try.prog 38 #[.pointer (some ⟨p, 0, none⟩), .int .i64 (n : Int), .slice none 0 0] w fun e w' => e = .returned (.tuple #[]) ∧ Sd B w0 w' p F0 (SA n 0) :=
  h.arm n (by omega) _ [] (IsK.nil _) (fun h => absurd rfl h) (Nat.zero_le _) (by
    unfold armA
    rw [if_neg (by omega), SA_lt (by omega : 0 < n)]
    simp [SR])
theorem da_up (h : Sd B w0 w p F0 (SA n j)) (hj : j ≤ 100) (hl : j + 1 < n) : Calls Try.prog 24 #[.pointer (some ⟨p, 0, none⟩), .string ⟨#[102]⟩] w fun e w' => e = .returned (.tuple #[.int .i64 0, .int .i64 0]) ∧ Sd B w0 w' p F0 (SA n (j + 1)) :=
  h.size (by rw [SA_ops]; omega) ⟨#[102]⟩ (str1 102) (SA_begin n j) (by rw [SA_lt hl]; exact size_up _ _)
theorem da_dn (h : Sd B w0 w p F0 (SA n j)) (hj : j ≤ 100) (hl : ¬ j + 1 < n) : Calls Try.prog 24 #[.pointer (some ⟨p, 0, none⟩), .string ⟨#[102]⟩] w fun e w' => e = .returned (.tuple #[.int .i64 0, .int .i64 7]) ∧ Sd B w0 w' p F0 (SA n (j + 1)) :=
  h.size (by rw [SA_ops]; omega) ⟨#[102]⟩ (str1 102) (SA_begin n j) (by rw [SA_ge hl]; exact size_dn _ _)
theorem da_down (h : Sd B w0 w p F0 (SA n j)) (b : Bool) (hb : b = !decide (j < n)) : Calls Try.prog 40 #[.pointer (some ⟨p, 0, none⟩)] w fun e w' => e = .returned (.bool b) ∧ w' = w := by
  have e : (SA n j).down = b := by
    rw [hb]
    unfold SA
    split
    · rename_i h; simp [SR, h]
    · rename_i h; simp [SR, h]
  rw [← e]
  exact h.down
theorem da_ops (h : Sd B w0 w p F0 (SA n j)) : Calls Try.prog 41 #[.pointer (some ⟨p, 0, none⟩)] w fun e w' => e = .returned (.int .i64 ((j : Int) + 1)) ∧ w' = w := by
  have := h.ops
  rw [SA_ops] at this
  exact this
theorem da_end (h : Sd B w0 w p F0 (SA n j)) : Calls Try.prog 38 #[.pointer (some ⟨p, 0, none⟩), .int .i64 0, .slice none 0 0] w fun e w' => e = .returned (.tuple #[]) ∧ ∃ b, Sd B w0 w' p F0 (SR ((j : Int) + 1) b 0) := by
  refine (h.arm 0 (by omega) _ [] (IsK.nil _) (fun h => absurd rfl h) (Nat.zero_le _) (l' := F0) (s' := SR ((j : Int) + 1) (SA n j).down 0) ?_).mono ?_
  · unfold armA
    rw [if_pos (by omega)]
    unfold SA
    split <;> rfl
  · rintro e w' ⟨rfl, d⟩
    exact ⟨rfl, _, d⟩
theorem da_restart {b : Bool} {o : Int} (h : Sd B w0 w p F0 (SR o b 0)) : Calls Try.prog 37 #[.pointer (some ⟨p, 0, none⟩)] w fun e w' => e = .returned (.tuple #[]) ∧ Sd B w0 w' p F0 (SR o false 0) := h.restart
theorem da_last {o : Int} (h : Sd B w0 w p F0 (SR o false 0)) (ho : o ≤ 1000) : Calls Try.prog 24 #[.pointer (some ⟨p, 0, none⟩), .string ⟨#[102]⟩] w fun e w' => e = .returned (.tuple #[.int .i64 0, .int .i64 0]) ∧ Sd B w0 w' p F0 (SR (o + 1) false 0) :=
  h.size (by simp only [SR]; omega) ⟨#[102]⟩ (str1 102) (by rfl) (size_up _ _)
end

/-! ### The walk -/
set_option maxRecDepth 100000 in
set_option maxHeartbeats 4000000 in
theorem walk (a0 : Int) (a1 : Int) (w0 : (Lit.int .i64 a0).wf = true) (w1 : (Lit.int .i64 a1).wf = true) (w : World) :
    Calls Try.prog 5 #[.int .i64 a0, .int .i64 a1] w fun e w' => e = .returned (.bool true) ∧ Below w.heap.size w w' := by
  obtain ⟨b0, b1⟩ := bounds_i64 w0
  obtain ⟨b2, b3⟩ := bounds_i64 w1
  clear w0 w1
  have hb0 := and65535 a0
  have hb1 := and65535 a1
  obtain ⟨n, hn⟩ : ∃ n : Nat, (n : Int) = 1 + a0 % 65536 % 20 := ⟨(1 + a0 % 65536 % 20).toNat, by omega⟩
  obtain ⟨m, hm⟩ : ∃ m : Nat, (m : Int) = a1 % 65536 % 31 := ⟨(a1 % 65536 % 31).toNat, by omega⟩
  have hn1 : 1 ≤ n := by omega
  have hn2 : n ≤ 20 := by omega
  have hm1 : m ≤ 30 := by omega
  have hn3 : 1 + a0 % 65536 % 20 = (n : Int) := hn.symm
  have hm3 : a1 % 65536 % 31 = (m : Int) := hm.symm
  have SH := hide (shown_any w)
  clear hn hm
  go_enter Try.func5, Try.ntmps5
  go_wp2_with (go_at_call 12; refine SH.out.mono ?_; rintro e w1 ⟨rfl, b1'⟩; have B1 := hide b1'; clear b1')
  rw [hm3]
  have NW := hide (Sd.new (B := w.heap.size) (w0 := w) 10 (by omega) w1 B1.out B1.out.size)
  clear hb0 hb1 hn3 hm3 b0 b1 b2 b3 SH
  refine NW.out.mono ?_
  rintro e w2 ⟨rfl, d2⟩
  have D2 : Hid (Sd w.heap.size w w2 (w1.heap.size + 1) [] (SR 0 false 0)) := d2
  clear d2 NW
  obtain ⟨p, hp⟩ : ∃ p, p = w1.heap.size + 1 := ⟨_, rfl⟩
  rw [← hp] at D2 ⊢
  clear hp
  go_wp2_with (go_at_call 16; refine (da_create D2.out).mono ?_; rintro e w3 ⟨rfl, d3⟩; have D3 := hide d3; clear d3)
  go_wp2_with (go_at_call 38; refine (da_arm D3.out hn1 hn2).mono ?_; rintro e w4 ⟨rfl, d4⟩; have D4 := hide d4; clear d4)
  go_loopw [7] (fun v wr => ∃ j : Nat, j ≤ m ∧ v = .int .i64 ((j : Int) + 1) ∧ Hid (Sd w.heap.size w wr p F0 (SA n j))) (fun v _ => m + 1 - (intOf v).toNat)
  case atStart => exact ⟨0, Nat.zero_le _, rfl, D4⟩
  case round =>
    obtain ⟨j, hj, rfl, HD⟩ := hrel
    by_cases hlt : j < m
    · have hi : (j : Int) + 1 ≤ (m : Int) := by omega
      by_cases hjn : j + 1 < n
      · have U := hide (da_up HD.out (by omega) hjn)
        have hg : ¬ (n : Int) ≤ (j : Int) + 1 := by omega
        go_wp2_with (first | (go_at_call 24; refine U.out.mono ?_; rintro e w5 ⟨rfl, d5⟩; have D5 := hide d5; clear d5) | (go_at_call 40; refine (da_down D5.out false (by simp [hjn])).mono ?_; rintro e w6 ⟨rfl, rfl⟩) | (go_at_call 41; refine (da_ops D5.out).mono ?_; rintro e w7 ⟨rfl, rfl⟩))
        go_roundw
        case rel => exact ⟨j + 1, by omega, by go_num, D5⟩
        case measure => simp [intOf]; omega
      · have U := hide (da_dn HD.out (by omega) hjn)
        have hg : (n : Int) ≤ (j : Int) + 1 := by omega
        go_wp2_with (first | (go_at_call 24; refine U.out.mono ?_; rintro e w5 ⟨rfl, d5⟩; have D5 := hide d5; clear d5) | (go_at_call 40; refine (da_down D5.out true (by simp [hjn])).mono ?_; rintro e w6 ⟨rfl, rfl⟩) | (go_at_call 41; refine (da_ops D5.out).mono ?_; rintro e w7 ⟨rfl, rfl⟩))
        go_roundw
        case rel => exact ⟨j + 1, by omega, by go_num, D5⟩
        case measure => simp [intOf]; omega
    · have hi : ¬ (j : Int) + 1 ≤ (m : Int) := by omega
      go_wp2_with (go_at_call 38; refine (da_end HD.out).mono ?_; rintro e w5 ⟨rfl, b5, d5⟩; have D5 := hide d5; clear d5)
      go_wp2_with (go_at_call 37; refine (da_restart D5.out).mono ?_; rintro e w6 ⟨rfl, d6⟩; have D6 := hide d6; clear d6)
      go_wp2_with (go_at_call 24; refine (da_last D6.out (by omega)).mono ?_; rintro e w7 ⟨rfl, d7⟩; have D7 := hide d7; clear d7)
      go_ret
      exact ⟨rfl, D7.out.bel⟩

/-! ### THE ROW's STEP: WRITTEN OUT: LEAVE IT -/
set_option maxRecDepth 100000 in
theorem lifted (os : Os) (started : os.Started) (H : Type) (enc : TypeId × Value → H) :
    ReturnsInHanded {} Try.checked os 5 .any (Rows.diskArmsSpec.pre6 enc Try.prog Try.f5 Rows.diskArmsRow.domain false) (Rows.diskArmsSpec.post enc Try.prog Try.f5 false true false false) := by
  refine returnsInHanded_of_change (C := Try.checked) own started (by kernel_rfl) Try.func5
    (ChangeSpec.witness6 (enc := enc) (C := Try.checked) false ⟨#[], #[.int .i64 0, .int .i64 0], []⟩ 8 (by kernel_rfl) (by kernel_rfl) (by kernel_rfl) (by kernel_rfl)) ?_
  intro W base args ds gs before hval0 hW hcnd _
  have hval : ∀ (j : Nat) t v, Try.f5.params[j]? = some t → args[j]? = some v → Value.okWide Try.prog W .any base t v := hval0
  have hW' := hW
  obtain ⟨p, q, hA0, hV, rfl, hfz, hnd⟩ := hW
  have hA : DataW.TrodAll enc Try.prog W 0 (fun _ => true) true Try.f5.params.toList args.toList ds p := hA0
  rw [Try.params5] at hA hval
  obtain ⟨v0, vs0, d0, ds0, p0, q0, hargs, rfl, rfl, h0, r0⟩ := trodAll_cons hA
  obtain ⟨v1, vs1, d1, ds1, p1, q1, rfl, rfl, rfl, h1, r1⟩ := trodAll_cons r0
  obtain ⟨rfl, rfl, rfl⟩ := trodAll_nil r1
  obtain rfl : args = #[v0, v1] := by cases args; simp_all
  obtain ⟨rfl, rfl⟩ := trodVars_none hV
  obtain ⟨a0, rfl, rfl, rfl, w0⟩ := open_int Try.underlying3 (hval 0 3 v0 rfl rfl) h0
  obtain ⟨a1, rfl, rfl, rfl, w1⟩ := open_int Try.underlying3 (hval 1 3 v1 rfl rfl) h1
  clear hA0 hval0
  simp only [List.append_nil] at hW'
  refine (walk a0 a1 w0 w1 W).mono fun e W' ⟨he, hg⟩ => ?_
  subst he
  exact ⟨_, rfl, _, _, _, [], [], [], hW', trodAll_mk1 (shut_bool Try.underlying4 _), (trodAll_cons_mk (shut_int Try.underlying3 w0) (trodAll_cons_mk (shut_int Try.underlying3 w1) trodAll_mk0)), rfl, hg.frame _, fun h => by cases h⟩

theorem over : Rows.diskArmsRow.holds Try.pinned (OpenSpec.ofChange Rows.diskArmsSpec) :=
  OpenClaim.holds_of_wide 5 Try.f5 rfl rfl rfl rfl rfl rfl rfl ⟨rfl, rfl, rfl, rfl, rfl⟩ rfl rfl rfl rfl rfl (by kernel_rfl) Try.func5 (by kernel_rfl)
    (of_decide_eq_true (by kernel_rfl)) (by unfold Func.isWrapper; first | (rw [if_pos (by decide +kernel)]; kernel_rfl) | (rw [if_neg (by decide +kernel)]; exact ⟨rfl, rfl⟩))
    (fun os started H enc _ => lifted os started H enc)

/-- ████ THE STATEMENT ████ -/
theorem proved : Rows.DiskArmsSaid :=
  over
#print axioms proved
end Go.Proofs.Ytahhokhhgamelaa.diskArms
