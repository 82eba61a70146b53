/-
  Proved: for every slice of bytes, BlockReads returns true and leaves the bytes as they were (bytes are blocks, or wrong somewhere, as the document says). No condition.
-/
import Derived.Deep.RegionHeld
import Derived.Test.YtjnmggbkclnbkaaBRef2
import Derived.WalkKit
import Derived.ProofKit
import Derived.OpenShut
import Derived.ShutString
import Derived.ChangeOld
import Derived.Below
namespace Go.Proofs.Ytjnmggbkclnbkaa.blockReads
open Go.ChangeShapes Go.WideShapes Go.ChangeAt Go.RowKit
open Go.ChangeMaps (open_string shut_string)
set_option linter.unusedVariables false

theorem own : ownKnob Try.prog.godebug = none := by kernel_rfl
theorem laidOut : laidOutB Try.prog = true := by kernel_rfl

/-- WHAT THE WALK IS TOLD OF A SLICE OF INTEGERS THAT CAME IN: it is nil; or it leads to a row of 'cap' cells, the numbers 'zs' (the first 'len' are its elements, the rest its spare room), each fitting its kind. -/
def IsRow (k : IntKind) (w : World) (a : Option Addr) (len cap : Nat) (zs : List Int) : Prop :=
  (a = none ∧ len = 0 ∧ cap = 0 ∧ zs = []) ∨
  ∃ x, a = some x ∧ len ≤ cap ∧ cap ≤ maxLen ∧ zs.length = cap ∧ (∀ i, i < zs.length → w.cell? (x.add i) = some (.int k (zs.getD i 0))) ∧ ∀ n ∈ zs, (Lit.int k n).wf = true

theorem isB_of {w : World} {a : Option Addr} {len cap : Nat} {zs : List Int} (h : IsRow .u8 w a len cap zs) : IsB w (.slice a len cap) (zs.take len) ∧ (zs.take len).length = len ∧ len ≤ cap := by
  rcases h with ⟨rfl, rfl, rfl, rfl⟩ | ⟨x, rfl, hl, hm, hz, hc, hw⟩
  · exact ⟨IsB.nil w, rfl, Nat.le_refl _⟩
  · have e : (zs.take len).length = len := by simp; omega
    refine ⟨⟨_, cap, by rw [e], by omega, by simp, fun y hy j hj => ?_, fun z hz => ?_⟩, e, hl⟩
    · simp only [Option.some.injEq] at hy
      subst hy
      rw [hc j (by omega), List.getElem?_take_of_lt (by omega)]
      rfl
    · have := hw z (List.mem_of_mem_take hz)
      exact bounds_u8 this

/-- What is left of a slice that is cut to at most m bytes. -/
theorem cut_to {w : World} {a : Option Addr} {len cap : Nat} {zs : List Int} (h : IsRow .u8 w a len cap zs) (m : Nat) (hm : m ≤ len) : ∃ bs, IsB w (.slice a m cap) bs ∧ bs.length = m := by
  obtain ⟨h1, h2, h3⟩ := isB_of h
  exact ⟨_, h1.take m hm, by simp only [List.length_take, h2]; omega⟩

/-- The same, the length named: as the walk reckons it. -/
theorem cut_min {w : World} {a : Option Addr} {len cap : Nat} {zs : List Int} (h : IsRow .u8 w a len cap zs) (k : Nat) (K : Int) (hK : K = (k : Int)) :
    ∃ (m : Nat) (bs : List Int), (∀ (ts : Array TypeId) (t : TypeId) (w : World), (Builtin.min_ ts t #[.int .i64 (len : Int), .int .i64 K]).run Try.prog w = .ok (.int .i64 (m : Int)) w) ∧ IsB w (.slice a m cap) bs ∧ bs.length = m ∧ m ≤ len ∧ m ≤ k ∧ m ≤ cap := by
  obtain ⟨h1, h2, h3⟩ := isB_of h
  refine ⟨min len k, _, fun ts t w => ?_, h1.take (min len k) (by omega), by simp only [List.length_take, h2]; omega, by omega, by omega, by omega⟩
  rw [run_min_int2, hK]
  congr 2
  split <;> omega


/-! ### The walk -/
set_option maxRecDepth 100000 in
set_option maxHeartbeats 4000000 in
theorem walk (a0 : Option Addr) (len0 cap0 : Nat) (z0 : List Int) (w : World) (w0 : IsRow .u8 w a0 len0 cap0 z0) :
    Calls Try.prog 4 #[.slice a0 len0 cap0] w fun e w' => e = .returned (.bool true) ∧ Below w.heap.size w w' := by
  obtain ⟨p, bs, hm0, hI, hL, hp1, hp2, hlc0⟩ := cut_min w0 3000 3000 rfl
  have hbl : bs.length ≤ 3000 := by omega
  have hp0 : (0 : Int) ≤ (p : Int) := by omega
  have hpc : (p : Int) ≤ (cap0 : Int) := by omega
  have D1 := hide fun v w h => decode_any v bs w h (by omega)
  have D2 := hide fun v w h => refDecode_any v bs w h (by omega)
  have A1 := hide fun v w h => all_any v bs w h (by omega)
  have A2 := hide fun v w h => refAll_any v bs w h (by omega)
  have hal := allB_len bs
  obtain ⟨⟨t, n, er⟩, hD⟩ : ∃ D, decB bs = D := ⟨_, rfl⟩
  obtain ⟨⟨l, at_, ea⟩, hA⟩ : ∃ A, allB bs = A := ⟨_, rfl⟩
  rw [hD] at D1 D2
  rw [hA] at A1 A2 hal
  dsimp only at hal
  obtain ⟨sb, hsb⟩ : ∃ s, s = strOfNums bs := ⟨_, rfl⟩
  obtain ⟨st, hst⟩ : ∃ s, s = strOfNums t := ⟨_, rfl⟩
  have SB := hide hsb
  have ST := hide hst
  have HI := hide hI
  subst hL
  clear w0 hD hA hI hsb hst
  go_enter Try.func4, Try.ntmps4
  go_wp2_with fail
  refine (shown_any _).mono ?_
  rintro e w1 ⟨rfl, B1⟩
  have I1 := hide (HI.out.below B1)
  have HB1 := hide B1
  have c1 := conv_isB I1.out
  rw [← SB.out] at c1
  clear B1
  go_wp2_with fail
  refine (D1.out _ w1 I1.out).mono ?_
  rintro e w2 ⟨v2, rfl, i2, b2, _⟩
  dsimp only at i2 ⊢
  obtain ⟨a2, cap2, rfl, _⟩ := i2.form
  have B2 := hide (below_then HB1.out b2)
  have I2 := hide (I1.out.below b2)
  have J2 := hide i2
  clear i2 b2 hm0 c1
  go_wp2_with fail
  refine (D2.out _ w2 I2.out).mono ?_
  rintro e w3 ⟨v3, rfl, i3, b3, _⟩
  dsimp only at i3 ⊢
  obtain ⟨a3, cap3, rfl, _⟩ := i3.form
  have B3 := hide (below_then B2.out b3)
  have I3 := hide (I2.out.below b3)
  have J3 := hide (J2.out.below b3)
  have K3 := hide i3
  clear i3 b3
  go_wp2_with fail
  refine (A1.out _ w3 I3.out).mono ?_
  rintro e w4 ⟨v4, rfl, i4, b4⟩
  dsimp only at i4 ⊢
  obtain ⟨a4, cap4, rfl⟩ := i4.slice
  have B4 := hide (below_then B3.out b4)
  have I4 := hide (I3.out.below b4)
  have J4 := hide (J3.out.below b4)
  have K4 := hide (K3.out.below b4)
  have L4 := hide i4.isBB
  clear i4 b4
  go_wp2_with fail
  refine (A2.out _ w4 I4.out).mono ?_
  rintro e w5 ⟨v5, rfl, i5, b5⟩
  dsimp only at i5 ⊢
  obtain ⟨a5, cap5, rfl⟩ := i5.slice
  have B5 := hide (below_then B4.out b5)
  have I5 := hide (I4.out.below b5)
  have J5 := hide (J4.out.below b5)
  have K5 := hide (K4.out.below b5)
  have L5 := hide (L4.out.below b5)
  have M5 := hide i5.isBB
  clear i5 b5
  have c5 := conv_isB I5.out
  have d5 := conv_isB J5.out
  have e5 := conv_isB K5.out
  rw [← SB.out] at c5
  rw [← ST.out] at d5 e5
  have SX := hide (same_yes _ _ l w5 L5.out M5.out (by omega))
  clear D1 D2 A1 A2 HB1 I1 B2 I2 J2 B3 I3 J3 K3 B4 I4 J4 K4 L4
  go_wp2_with fail
  refine SX.out.mono ?_
  rintro e w6 ⟨rfl, b6⟩
  have B6 := hide (below_then B5.out b6)
  have c6 := conv_isB (I5.out.below b6)
  rw [← SB.out] at c6
  clear b6 c5 d5 e5
  go_wp2
  go_ret
  exact ⟨rfl, B6.out⟩

/-! ### THE ROW's STEP: WRITTEN OUT: LEAVE IT -/
set_option maxRecDepth 100000 in
theorem lifted (os : Os) (started : os.Started) (H : Type) (enc : TypeId × Value → H) :
    ReturnsInHanded {} Try.checked os 4 .any (Rows.blockReadsSpec.pre6 enc Try.prog Try.f4 Rows.blockReadsRow.domain false) (Rows.blockReadsSpec.post enc Try.prog Try.f4 false true false false) := by
  refine returnsInHanded_of_change (C := Try.checked) own started (by kernel_rfl) Try.func4
    (ChangeSpec.witness6 (enc := enc) (C := Try.checked) false ⟨#[], #[.slice none 0 0], []⟩ 8 (by kernel_rfl) (by kernel_rfl) (by kernel_rfl) (by kernel_rfl)) ?_
  intro W base args ds gs before hval0 hW hcnd _
  have hval : ∀ (j : Nat) t v, Try.f4.params[j]? = some t → args[j]? = some v → Value.okWide Try.prog W .any base t v := hval0
  have hW' := hW
  obtain ⟨p, q, hA0, hV, rfl, hfz, hnd⟩ := hW
  have hA : DataW.TrodAll enc Try.prog W 0 (fun _ => true) true Try.f4.params.toList args.toList ds p := hA0
  rw [Try.params4] at hA hval
  obtain ⟨v0, vs0, d0, ds0, p0, q0, hargs, rfl, rfl, h0, r0⟩ := trodAll_cons hA
  obtain ⟨rfl, rfl, rfl⟩ := trodAll_nil r0
  obtain rfl : args = #[v0] := by cases args; simp_all
  obtain ⟨rfl, rfl⟩ := trodVars_none hV
  obtain ⟨a0, len0, cap0, rfl⟩ := okWide_slice Try.underlying25 (hval 0 25 v0 rfl rfl)
  have k0 := h0
  have lt0 : ∀ x ∈ p0, x.block < W.heap.size := by obtain ⟨m, hm⟩ := k0; exact DataW.trod_lt m _ _ _ hm
  obtain ⟨z0, w0⟩ : ∃ zs, IsRow .u8 W a0 len0 cap0 zs := by
    obtain ⟨fuel, hf⟩ := h0
    rcases open_ints Try.underlying25 Try.underlying5 (by kernel_rfl) hf with ⟨hcs, _⟩ | ⟨x, l, c, zs, hcs, _, hl, hm, hz, _, hcell, hwz⟩
    · simp [Value.cells] at hcs
      obtain ⟨rfl, rfl, rfl⟩ := hcs
      exact ⟨[], .inl ⟨rfl, rfl, rfl, rfl⟩⟩
    · simp [Value.cells] at hcs
      obtain ⟨rfl, rfl, rfl⟩ := hcs
      exact ⟨zs, .inr ⟨_, rfl, hl, hm, by simpa using hz, hcell, hwz⟩⟩
  clear hA0 hval0
  refine (walk a0 len0 cap0 z0 W w0).mono fun e W' ⟨he, bel⟩ => ?_
  subst he
  exact ⟨_, rfl, _, _, _, [], _, [], hW', trodAll_mk1 (shut_bool Try.underlying4 _), (trodAll_cons_mk (Below.trod laidOut (by kernel_rfl) (of_decide_eq_true (by kernel_rfl)) k0 bel lt0) trodAll_mk0), rfl, bel.frame _, fun h => by cases h⟩

theorem over : Rows.blockReadsRow.holds Try.pinned (OpenSpec.ofChange Rows.blockReadsSpec) :=
  OpenClaim.holds_of_wide 4 Try.f4 rfl rfl rfl rfl rfl rfl rfl ⟨rfl, rfl, rfl, rfl, rfl⟩ rfl rfl rfl rfl rfl (by kernel_rfl) Try.func4 (by kernel_rfl)
    (of_decide_eq_true (by kernel_rfl)) (by unfold Func.isWrapper; first | (rw [if_pos (by decide +kernel)]; kernel_rfl) | (rw [if_neg (by decide +kernel)]; exact ⟨rfl, rfl⟩))
    (fun os started H enc _ => lifted os started H enc)

/-- ████ THE STATEMENT ████ -/
theorem proved : Rows.BlockReadsSaid := over
#print axioms proved
end Go.Proofs.Ytjnmggbkclnbkaa.blockReads
