/-
  Values combined: runs.Combine, the document's Combine, runs.known. A lemma file: no statement of the seat is proved here.
-/
import Derived.Test.YtbppjbdcgcmjiaaQRows
namespace Go.Proofs.Ytbppjbdcgcmjiaa
open Go.RowKit

/-- The value of two records of one key. -/
def combV (how a b : Int) : Int := if how = 1 then (if a + b < 18446744073709551616 then a + b else 18446744073709551615) else (if a ≤ b then a else b)

theorem u64_small (x : Int) (h0 : 0 ≤ x) (h1 : x < 18446744073709551616) : IntKind.u64.wrap x = x := by
  rw [IntKind.wrap_u64]
  omega

theorem combV_ok (how a b : Int) (ha : 0 ≤ a ∧ a < 18446744073709551616) (hb : 0 ≤ b ∧ b < 18446744073709551616) : 0 ≤ combV how a b ∧ combV how a b < 18446744073709551616 := by
  unfold combV
  split <;> split <;> omega

theorem minU (a b : Int) (ts : Array TypeId) (t : TypeId) (w : World) : (Builtin.min_ ts t #[.int .u64 a, .int .u64 b]).run Try.prog w = .ok (.int .u64 (if a ≤ b then a else b)) w := by
  rw [run_min_int2]
  congr 2
  split <;> split <;> omega

set_option maxRecDepth 100000 in
set_option maxHeartbeats 1000000 in
theorem combine_any (how a b : Int) (ha : 0 ≤ a ∧ a < 18446744073709551616) (hb : 0 ≤ b ∧ b < 18446744073709551616) (w : World) :
    Calls Try.prog 20 #[.int .i64 how, .int .u64 a, .int .u64 b] w fun e w' => e = .returned (.int .u64 (combV how a b)) ∧ w' = w := by
  have hw1 : IntKind.u64.wrap (18446744073709551615 - a) = 18446744073709551615 - a := u64_small _ (by omega) (by omega)
  by_cases hh : how = 1
  · subst hh
    by_cases hs : a + b < 18446744073709551616
    · have HV : Hid (combV 1 a b = a + b) := by show _ = _; simp [combV, hs]
      have hw2 : IntKind.u64.wrap (a + b) = a + b := u64_small _ (by omega) hs
      have hlt : ¬ (18446744073709551615 - a < b) := by omega
      go_enter Try.func20, Try.ntmps20
      go_wp2
      go_ret
      exact ⟨by rw [HV.out]; rfl, rfl⟩
    · have HV : Hid (combV 1 a b = 18446744073709551615) := by show _ = _; simp [combV, hs]
      have hlt : 18446744073709551615 - a < b := by omega
      go_enter Try.func20, Try.ntmps20
      go_wp2
      go_ret
      exact ⟨by rw [HV.out]; rfl, rfl⟩
  · have HV : Hid (combV how a b = if a ≤ b then a else b) := by show _ = _; simp [combV, hh]
    have hm := minU a b
    generalize (if a ≤ b then a else b) = m at hm HV
    go_enter Try.func20, Try.ntmps20
    go_wp2
    go_ret
    exact ⟨by rw [HV.out]; rfl, rfl⟩

set_option maxRecDepth 100000 in
set_option maxHeartbeats 1000000 in
theorem refCombine_any (how a b : Int) (ha : 0 ≤ a ∧ a < 18446744073709551616) (hb : 0 ≤ b ∧ b < 18446744073709551616) (w : World) :
    Calls Try.prog 21 #[.int .i64 how, .int .u64 a, .int .u64 b] w fun e w' => e = .returned (.int .u64 (combV how a b)) ∧ w' = w := by
  by_cases hh : how = 1
  · subst hh
    by_cases hs : a + b < 18446744073709551616
    · have HV : Hid (combV 1 a b = a + b) := by show _ = _; simp [combV, hs]
      have hw2 : IntKind.u64.wrap (a + b) = a + b := u64_small _ (by omega) hs
      have hlt : ¬ (a + b < a) := by omega
      go_enter Try.func21, Try.ntmps21
      go_wp2
      go_ret
      exact ⟨by rw [HV.out]; rfl, rfl⟩
    · have HV : Hid (combV 1 a b = 18446744073709551615) := by show _ = _; simp [combV, hs]
      have hw2 : IntKind.u64.wrap (a + b) = a + b - 18446744073709551616 := by rw [IntKind.wrap_u64]; omega
      have hlt : a + b - 18446744073709551616 < a := by omega
      go_enter Try.func21, Try.ntmps21
      go_wp2
      go_ret
      exact ⟨by rw [HV.out]; rfl, rfl⟩
  · have HV : Hid (combV how a b = if a ≤ b then a else b) := by show _ = _; simp [combV, hh]
    have hm := minU a b
    generalize (if a ≤ b then a else b) = m at hm HV
    go_enter Try.func21, Try.ntmps21
    go_wp2
    go_ret
    exact ⟨by rw [HV.out]; rfl, rfl⟩

/-- Is how one of the three? -/
def mayH (how : Int) : Bool := how == 0 || how == 1 || how == 2

set_option maxRecDepth 100000 in
theorem known_any (how : Int) (w : World) : Calls Try.prog 24 #[.int .i64 how] w fun e w' => e = .returned (.bool (mayH how)) ∧ w' = w := by
  go_enter Try.func24, Try.ntmps24
  go_wp2
  all_goals
    go_ret
    exact ⟨by first | rfl | (subst_vars; rfl), rfl⟩

end Go.Proofs.Ytbppjbdcgcmjiaa
