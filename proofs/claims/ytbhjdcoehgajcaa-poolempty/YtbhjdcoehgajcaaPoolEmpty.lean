/-
  Proved: for every two numbers, PoolEmpty returns true (of a file without bytes nothing can be read but nothing; of one that is not there not even that). No condition.
-/
import Derived.WalkKit
import Derived.ProofKit
import Derived.OpenShut
import Derived.ShutString
import Derived.Test.YtbhjdcoehgajcaaGH
namespace Go.Proofs.Ytbhjdcoehgajcaa.poolEmpty
open Go.ChangeShapes Go.WideShapes Go.ChangeAt Go.RowKit
open Go.ChangeMaps (open_string shut_string)
set_option linter.unusedVariables false

theorem own : ownKnob Try.prog.godebug = none := by kernel_rfl
theorem laidOut : laidOutB Try.prog = true := by kernel_rfl

open Go.Proofs.Ytbhjdcoehgajcaa.L.P in
abbrev sN : ByteArray := ⟨#[110, 111, 110, 101]⟩
theorem sN_ok : sN.size ≤ maxLen := by
  show 4 ≤ maxLen
  unfold maxLen
  omega
open Go.Proofs.Ytbhjdcoehgajcaa.L.P
def CE : List UInt8 → Option (List Int) := Ct (allOf fA 0) (allOf fB 5)
theorem CE_a : CE (⟨#[97]⟩ : ByteArray).data.toList = some [] := rfl
theorem CE_n : CE sN.data.toList = none := by decide

section
variable {w0 w : World} {q d m : Nat} {F : List L.P.Pg → Prop}
theorem pe_new (h : Sd w0.heap.size w0 w d [([97], allOf fA 0, []), ([98], allOf fB 5, [])] (S7 (sec 0 + sec 5) 4)) : Calls Try.prog 11 #[.pointer (some ⟨d, 0, none⟩), .int .i64 2] w fun e w' => ∃ q, e = .returned (.pointer (some ⟨q, 0, none⟩)) ∧ Lg w0 w' q d 2 CE (fun gs => gs = []) 4 :=
  Lg.new h 2 rfl rfl (two_len (by rw [allOf_length]; omega) (by rw [allOf_length]; omega)) (by simp [S7]) (Ct_look _ _)
theorem pe_arg (h : Lg w0 w q d 2 CE F 4) (at_ n : Int) (hat : at_ ≤ 9223372036854775807) (hb : ¬ (at_ = 0 ∧ n = 0)) : Calls Try.prog 13 #[.pointer (some ⟨q, 0, none⟩), .string ⟨#[97]⟩, .int .i64 at_, .int .i64 n] w fun e w' => e = .returned (.tuple #[.slice none 0 0, .int .i64 1]) ∧ Lg w0 w' q d 2 CE F 131 := by
  have hb2 : at_ < 0 ∨ n < 0 ∨ (([] : List Int).length : Int) - at_ < n := by simp; omega
  refine (h.read_arg (by decide) ⟨#[97]⟩ (strP 97) CE_a at_ n hat hb2).mono ?_
  rintro e w' ⟨rfl, fp, o, N, l, s, ord, gs, p, i, a1, a2, r⟩
  exact ⟨rfl, fp, o, N, l, s, ord, gs, p, i, by omega, by omega, r⟩
theorem pe_zero (h : Lg w0 w q d 2 CE F 4) : Calls Try.prog 13 #[.pointer (some ⟨q, 0, none⟩), .string ⟨#[97]⟩, .int .i64 0, .int .i64 0] w fun e w' => ∃ a u, e = .returned (.tuple #[.slice a 0 u, .int .i64 0]) ∧ Lg w0 w' q d 2 CE (fun _ => True) 131 :=
  h.read0 (by decide) ⟨#[97]⟩ (strP 97) CE_a (by decide)
theorem pe_none (h : Lg w0 w q d 2 CE F 131) (at_ n : Int) : Calls Try.prog 13 #[.pointer (some ⟨q, 0, none⟩), .string ⟨#[110, 111, 110, 101]⟩, .int .i64 at_, .int .i64 n] w fun e w' => e = .returned (.tuple #[.slice none 0 0, .int .i64 4]) ∧ Lg w0 w' q d 2 CE F 132 := h.read_none (by decide) sN sN_ok CE_n at_ n
theorem pe_write (h : Lg w0 w q d 2 CE F 132) (at_ : Int) : Calls Try.prog 14 #[.pointer (some ⟨q, 0, none⟩), .string ⟨#[110, 111, 110, 101]⟩, .int .i64 at_, .slice none 0 0] w fun e w' => e = .returned (.int .i64 4) ∧ Lg w0 w' q d 2 CE F 133 := h.write_none (by decide) sN sN_ok CE_n at_ none 0 0
theorem pe_flush (h : Lg w0 w q d 2 CE F 133) : Calls Try.prog 15 #[.pointer (some ⟨q, 0, none⟩), .string ⟨#[110, 111, 110, 101]⟩] w fun e w' => e = .returned (.int .i64 0) ∧ Lg w0 w' q d 2 CE F 135 := h.flush_none (by decide) (by decide) sN CE_n
theorem pe_drop (h : Lg w0 w q d 2 CE F 135) : Calls Try.prog 19 #[.pointer (some ⟨q, 0, none⟩), .string ⟨#[110, 111, 110, 101]⟩] w fun e w' => e = .returned (.tuple #[]) ∧ Lg w0 w' q d 2 CE F 135 := h.drop_none (by decide) sN CE_n
end

/-! ### The walk -/
set_option maxRecDepth 100000 in
set_option maxHeartbeats 2000000 in
theorem walk (a0 : Int) (a1 : Int) (w : World) (w0 : (Lit.int .i64 a0).wf = true) (w1 : (Lit.int .i64 a1).wf = true) :
    Calls Try.prog 8 #[.int .i64 a0, .int .i64 a1] w fun e w' => e = .returned (.bool true) ∧ Below w.heap.size w w' := by
  obtain ⟨b0, b1⟩ := bounds_i64 w0
  have HB := hide b1
  have SH := hide (shown_any w)
  clear w0 w1 b0 b1
  go_enter Try.func8, Try.ntmps8
  go_wp2_with (go_at_call 9; refine SH.out.mono ?_; rintro e w1 ⟨rfl, b1'⟩; have B1 := hide b1'; clear b1')
  refine (made_any w w1 0 5 (by omega) (by omega) B1.out).mono ?_
  rintro e w2 ⟨d, rfl, d2⟩
  have D2 := hide d2
  clear d2 SH
  go_wp2_with fail
  refine (pe_new D2.out).mono ?_
  rintro e w3 ⟨q, rfl, l3⟩
  have L3 := hide l3
  clear l3 D2
  go_wp2_with fail
  by_cases hz : a0 = 0 ∧ a1 = 0
  · obtain ⟨rfl, rfl⟩ := hz
    refine (pe_zero L3.out).mono ?_
    rintro e w4 ⟨va, vu, rfl, l4⟩
    have L4 := hide l4
    clear l4 L3
    go_wp2_with fail
    refine (pe_none L4.out 0 0).mono ?_
    rintro e w5 ⟨rfl, l5⟩
    have L5 := hide l5
    clear l5 L4
    go_wp2_with fail
    refine (pe_write L5.out 0).mono ?_
    rintro e w6 ⟨rfl, l6⟩
    have L6 := hide l6
    clear l6 L5
    go_wp2_with fail
    refine (pe_flush L6.out).mono ?_
    rintro e w7 ⟨rfl, l7⟩
    have L7 := hide l7
    clear l7 L6
    go_wp2_with fail
    refine (pe_drop L7.out).mono ?_
    rintro e w8 ⟨rfl, l8⟩
    have L8 := hide l8
    clear l8 L7
    go_wp2_with fail
    go_ret
    exact ⟨rfl, L8.out.bel⟩
  · have HZ := hide hz
    clear hz
    refine (pe_arg L3.out a0 a1 HB.out HZ.out).mono ?_
    rintro e w4 ⟨rfl, l4⟩
    have L4 := hide l4
    clear l4 L3
    go_wp2_with fail
    refine (pe_none L4.out a0 a1).mono ?_
    rintro e w5 ⟨rfl, l5⟩
    have L5 := hide l5
    clear l5 L4
    go_wp2_with fail
    refine (pe_write L5.out a0).mono ?_
    rintro e w6 ⟨rfl, l6⟩
    have L6 := hide l6
    clear l6 L5
    go_wp2_with fail
    refine (pe_flush L6.out).mono ?_
    rintro e w7 ⟨rfl, l7⟩
    have L7 := hide l7
    clear l7 L6
    go_wp2_with fail
    refine (pe_drop L7.out).mono ?_
    rintro e w8 ⟨rfl, l8⟩
    have L8 := hide l8
    clear l8 L7
    have B8 := hide L8.out.bel
    by_cases h0 : a0 = 0
    · have h1 : ¬ a1 = 0 := fun e => HZ.out ⟨h0, e⟩
      subst h0
      have h2 : (a1 == 0) = false := by simpa using h1
      clear h1
      go_wp2_with (go_at_call 17; refine L8.out.resident0.mono ?_; rintro e w9 ⟨rfl, rfl⟩)
      go_ret
      exact ⟨rfl, B8.out⟩
    · have h2 : (a0 == 0) = false := by simpa using h0
      clear h0
      go_wp2_with (go_at_call 17; refine L8.out.resident0.mono ?_; rintro e w9 ⟨rfl, rfl⟩)
      go_ret
      exact ⟨rfl, B8.out⟩

/-! ### The row's step -/
set_option maxRecDepth 100000 in
theorem lifted (os : Os) (started : os.Started) (H : Type) (enc : TypeId × Value → H) :
    ReturnsInHanded {} Try.checked os 8 .any (Rows.poolEmptySpec.pre6 enc Try.prog Try.f8 Rows.poolEmptyRow.domain false) (Rows.poolEmptySpec.post enc Try.prog Try.f8 false true false false) := by
  refine returnsInHanded_of_change (C := Try.checked) own started (by kernel_rfl) Try.func8
    (ChangeSpec.witness6 (enc := enc) (C := Try.checked) false ⟨#[], #[.int .i64 0, .int .i64 0], []⟩ 8 (by kernel_rfl) (by kernel_rfl) (by kernel_rfl) (by kernel_rfl)) ?_
  intro W base args ds gs before hval0 hW hcnd _
  have hval : ∀ (j : Nat) t v, Try.f8.params[j]? = some t → args[j]? = some v → Value.okWide Try.prog W .any base t v := hval0
  have hW' := hW
  obtain ⟨p, q, hA0, hV, rfl, hfz, hnd⟩ := hW
  have hA : DataW.TrodAll enc Try.prog W 0 (fun _ => true) true Try.f8.params.toList args.toList ds p := hA0
  rw [Try.params8] at hA hval
  obtain ⟨v0, vs0, d0, ds0, p0, q0, hargs, rfl, rfl, h0, r0⟩ := trodAll_cons hA
  obtain ⟨v1, vs1, d1, ds1, p1, q1, rfl, rfl, rfl, h1, r1⟩ := trodAll_cons r0
  obtain ⟨rfl, rfl, rfl⟩ := trodAll_nil r1
  obtain rfl : args = #[v0, v1] := by cases args; simp_all
  obtain ⟨rfl, rfl⟩ := trodVars_none hV
  obtain ⟨a0, rfl, rfl, rfl, w0⟩ := open_int Try.underlying3 (hval 0 3 v0 rfl rfl) h0
  obtain ⟨a1, rfl, rfl, rfl, w1⟩ := open_int Try.underlying3 (hval 1 3 v1 rfl rfl) h1
  clear hA0 hval0
  refine (walk a0 a1 W w0 w1).mono fun e W' ⟨he, bel⟩ => ?_
  subst he
  exact ⟨_, rfl, _, _, _, [], _, [], hW', trodAll_mk1 (shut_bool Try.underlying4 _), (trodAll_cons_mk (shut_int Try.underlying3 w0) (trodAll_cons_mk (shut_int Try.underlying3 w1) trodAll_mk0)), rfl, bel.frame _, fun h => by cases h⟩

theorem over : Rows.poolEmptyRow.holds Try.pinned (OpenSpec.ofChange Rows.poolEmptySpec) :=
  OpenClaim.holds_of_wide 8 Try.f8 rfl rfl rfl rfl rfl rfl rfl ⟨rfl, rfl, rfl, rfl, rfl⟩ rfl rfl rfl rfl rfl (by kernel_rfl) Try.func8 (by kernel_rfl)
    (of_decide_eq_true (by kernel_rfl)) (by unfold Func.isWrapper; first | (rw [if_pos (by decide +kernel)]; kernel_rfl) | (rw [if_neg (by decide +kernel)]; exact ⟨rfl, rfl⟩))
    (fun os started H enc _ => lifted os started H enc)

/-- The statement. -/
theorem proved : Rows.PoolEmptySaid := over
#print axioms proved
end Go.Proofs.Ytbhjdcoehgajcaa.poolEmpty
