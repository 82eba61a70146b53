/-
  A row of bytes that is made, and appended to, within one statement whose order is open; Get and the document's Get tell the same. A lemma file: no statement of the seat is proved here.
-/
import Derived.Deep.RegionHeldLaw
import Derived.Test.YtoneaaafdgllbaaRefs
namespace Go.Proofs.Ytoneaaafdgllbaa
open Go.RowKit

/-- 'append(row, b...)' as a step of a region that draws its order: row of the call's own, b whatever. -/
theorem step_appendB {ops : Array Oper} {o : Oper} {a : Act} {K : Act → World → Prop} {Q : Exit → Act → World → Prop} {E : Prop} (w : World) (hgd : o.guard = none) (s x : Operand)
    (ho : o.op = .call { callee := .builtin .append, args := #[s, x], argTypes := #[22, 22] })
    (B g cap : Nat) (bs cs : List Int) (v : Value) (hs : a.eval s = .slice (some ⟨g, 0, none⟩) bs.length cap) (hown : OwnB B w g cap bs) (hx : a.eval x = v) (hv : IsB w v cs)
    (hlen : bs.length + cs.length ≤ 140737488355328) (hB : B ≤ w.heap.size)
    (h : ∀ g' cap' w', OwnB B w' g' cap' (bs ++ cs) → Below B w w' → K (a.put o.dst (.slice (some ⟨g', 0, none⟩) (bs.length + cs.length) cap')) w') :
    if Region.wanted o (yielded ops a.tmps) = true then Oper.wp Try.prog o a w K Q else E := by
  have hw : Region.wanted o (yielded ops a.tmps) = true := by simp [Region.wanted, hgd]
  rw [if_pos hw]
  obtain ⟨i0, hi, hz0, hz1, hz2⟩ := info_parts Try.infoU8
  have hb := hown.base
  obtain ⟨ad, c, rfl, h1, h2, h3, h4⟩ := hv
  cases ad with
  | none =>
    obtain ⟨rfl, rfl⟩ := h2 rfl
    have hrun := run_append_owned_none (P := Try.prog) (w := w) B 22 o.type 5 i0 1 Try.underlying22 hi _ _ _ hown.1
    unfold Oper.wp
    simp only [List.length_nil] at hx
    simp [execOp, ho, resolve, invoke, builtin, hs, hx, hrun, Result.andThen]
    have hk := h g cap w (by simpa using hown) (Below.refl _ _)
    simp only [List.length_nil, Nat.add_zero] at hk
    exact hk
  | some ad =>
    refine wp_append_own w s x 22 ho B 5 i0 (.int .u8 0) 1 1 Try.underlying22 hi hz0 hz1 hz2 rfl (by decide) _ bs.length _ hs hown.1 ad cs.length c (cs.map (Value.int .u8)) hx (by simp) (cells_news (h3 ad rfl)) (ints_oneCell _ _) (by unfold maxLen; omega) (by omega) (by omega) ?_
    intro v' w' hown' hgrow hnil
    have hsh : ∃ g' cap', v' = .slice (some ⟨g', 0, none⟩) (bs.length + cs.length) cap' := by
      rcases hown'.2 with ⟨h0, _⟩ | ⟨g', cap', _, rfl, _⟩
      · simp [h0] at hnil
      · exact ⟨g', cap', rfl⟩
    obtain ⟨g', cap', rfl⟩ := hsh
    refine h g' cap' w' ⟨?_, ?_⟩ ?_
    · simpa using hown'
    · intro y hy
      rcases List.mem_append.1 hy with hy | hy
      · exact hown.2 y hy
      · exact h4 y hy
    · exact (Below.refl _ _).grown hgrow (by omega) (by intro k hk; simp [Value.ownBlock] at hk; omega)

/-- The cells of a new row of two hundred bytes. -/
def row200 : Array Value := madeCells (Value.int .u8 0).cells (200 * 1)

theorem make200 (w : World) : (Instr.makeSlice 22 (.int .i64 0) (.int .i64 200)).run Try.prog w = .ok (.slice (some ⟨w.heap.size, 0, none⟩) 0 200) (w.alloc (.cells row200 5)) := by
  obtain ⟨i0, hi, hz0, hz1, hz2⟩ := info_parts Try.infoU8
  have := run_make (P := Try.prog) w 22 5 i0 (.int .u8 0) Try.underlying22 hi hz0 .i64 .i64 0 200 (by omega) (by omega) (by rw [hz2]; omega) (by omega)
  rw [hz1] at this
  exact this

theorem own200 (w : World) (B : Nat) (hB : B ≤ w.heap.size) : OwnB B (w.alloc (.cells row200 5)) w.heap.size 200 [] :=
  ⟨World.ownsRow_made w row200 200 hB (by unfold maxLen; omega) (size_madeCells _ _), by simp⟩

/-- Get, and the document's Get, tell the same. -/
theorem gets_same (bs : List Int) (hl : bs.length ≤ 140737488355328) (at_ size : Int) : ∃ (m : Int) (ok : Bool),
    (∀ v w, IsB w v bs → Calls Try.prog 14 #[v, .int .i64 at_, .int .i64 size] w fun e w' => e = .returned (.tuple #[.int .u64 m, .bool ok]) ∧ Below w.heap.size w w') ∧
    (∀ v w, IsB w v bs → Calls Try.prog 15 #[v, .int .i64 at_, .int .i64 size] w fun e w' => e = .returned (.tuple #[.int .u64 m, .bool ok]) ∧ Below w.heap.size w w') := by
  by_cases h : at_ < 0 ∨ size < 1 ∨ 8 < size ∨ (bs.length : Int) - size < at_
  · refine ⟨0, false, fun v w hb => (get_no v bs at_ size w hb hl h).mono ?_, fun v w hb => (refGet_no v bs at_ size w hb hl h).mono ?_⟩
    · rintro e w' ⟨rfl, rfl⟩
      exact ⟨rfl, Below.refl _ _⟩
    · rintro e w' ⟨rfl, rfl⟩
      exact ⟨rfl, Below.refl _ _⟩
  · obtain ⟨p, rfl⟩ := Int.eq_ofNat_of_zero_le (show 0 ≤ at_ by omega)
    obtain ⟨s, rfl⟩ := Int.eq_ofNat_of_zero_le (show 0 ≤ size by omega)
    refine ⟨valB 256 ((bs.drop p).take s), true, fun v w hb => get_yes v bs p s w hb hl (by omega) (by omega) (by omega), fun v w hb => (refGet_yes v bs p s w hb hl (by omega) (by omega) (by omega)).mono ?_⟩
    rintro e w' ⟨rfl, rfl⟩
    exact ⟨rfl, Below.refl _ _⟩

theorem not_u64 (n : Int) (h0 : 0 ≤ n) (h1 : n < 18446744073709551616) : 0 ≤ bits .xor .u64 IntKind.u64.max n ∧ bits .xor .u64 IntKind.u64.max n < 18446744073709551616 := by
  obtain ⟨k, rfl⟩ := Int.eq_ofNat_of_zero_le h0
  rw [show IntKind.u64.max = ((18446744073709551615 : Nat) : Int) by decide, bits_xor_u64_nat _ _ (by omega) (by omega)]
  have : 18446744073709551615 ^^^ k < 2 ^ 64 := Nat.xor_lt_two_pow (by omega) (by omega)
  omega

end Go.Proofs.Ytoneaaafdgllbaa
