/-
  Proved: for every slice of bytes, BlockBytes returns true and leaves the bytes as they were (bytes that are a block are the block of their text). No condition.
-/
import Derived.Deep.RegionHeld
import Derived.Test.YtjnmggbkclnbkaaBShown
import Derived.WalkKit
import Derived.ProofKit
import Derived.OpenShut
import Derived.ShutString
import Derived.ChangeOld
import Derived.Below
namespace Go.Proofs.Ytjnmggbkclnbkaa.blockBytes
open Go.ChangeShapes Go.WideShapes Go.ChangeAt Go.RowKit
open Go.ChangeMaps (open_string shut_string)
set_option linter.unusedVariables false

theorem own : ownKnob Try.prog.godebug = none := by kernel_rfl
theorem laidOut : laidOutB Try.prog = true := by kernel_rfl

/-- WHAT THE WALK IS TOLD OF A SLICE OF INTEGERS THAT CAME IN: it is nil; or it leads to a row of 'cap' cells, the numbers 'zs' (the first 'len' are its elements, the rest its spare room), each fitting its kind. -/
def IsRow (k : IntKind) (w : World) (a : Option Addr) (len cap : Nat) (zs : List Int) : Prop :=
  (a = none ∧ len = 0 ∧ cap = 0 ∧ zs = []) ∨
  ∃ x, a = some x ∧ len ≤ cap ∧ cap ≤ maxLen ∧ zs.length = cap ∧ (∀ i, i < zs.length → w.cell? (x.add i) = some (.int k (zs.getD i 0))) ∧ ∀ n ∈ zs, (Lit.int k n).wf = true

theorem isB_of {w : World} {a : Option Addr} {len cap : Nat} {zs : List Int} (h : IsRow .u8 w a len cap zs) : IsB w (.slice a len cap) (zs.take len) ∧ (zs.take len).length = len ∧ len ≤ cap := by
  rcases h with ⟨rfl, rfl, rfl, rfl⟩ | ⟨x, rfl, hl, hm, hz, hc, hw⟩
  · exact ⟨IsB.nil w, rfl, Nat.le_refl _⟩
  · have e : (zs.take len).length = len := by simp; omega
    refine ⟨⟨_, cap, by rw [e], by omega, by simp, fun y hy j hj => ?_, fun z hz => ?_⟩, e, hl⟩
    · simp only [Option.some.injEq] at hy
      subst hy
      rw [hc j (by omega), List.getElem?_take_of_lt (by omega)]
      rfl
    · have := hw z (List.mem_of_mem_take hz)
      exact bounds_u8 this

/-- What is left of a slice that is cut to at most m bytes. -/
theorem cut_to {w : World} {a : Option Addr} {len cap : Nat} {zs : List Int} (h : IsRow .u8 w a len cap zs) (m : Nat) (hm : m ≤ len) : ∃ bs, IsB w (.slice a m cap) bs ∧ bs.length = m := by
  obtain ⟨h1, h2, h3⟩ := isB_of h
  exact ⟨_, h1.take m hm, by simp only [List.length_take, h2]; omega⟩

/-- The same, the length named: as the walk reckons it. -/
theorem cut_min {w : World} {a : Option Addr} {len cap : Nat} {zs : List Int} (h : IsRow .u8 w a len cap zs) (k : Nat) (K : Int) (hK : K = (k : Int)) :
    ∃ (m : Nat) (bs : List Int), (∀ (ts : Array TypeId) (t : TypeId) (w : World), (Builtin.min_ ts t #[.int .i64 (len : Int), .int .i64 K]).run Try.prog w = .ok (.int .i64 (m : Int)) w) ∧ IsB w (.slice a m cap) bs ∧ bs.length = m ∧ m ≤ len ∧ m ≤ k ∧ m ≤ cap := by
  obtain ⟨h1, h2, h3⟩ := isB_of h
  refine ⟨min len k, _, fun ts t w => ?_, h1.take (min len k) (by omega), by simp only [List.length_take, h2]; omega, by omega, by omega, by omega⟩
  rw [run_min_int2, hK]
  congr 2
  split <;> omega


/-! ### The walk -/
set_option maxRecDepth 100000 in
set_option maxHeartbeats 2000000 in
theorem walk (a0 : Option Addr) (len0 cap0 : Nat) (z0 : List Int) (w : World) (w0 : IsRow .u8 w a0 len0 cap0 z0) :
    Calls Try.prog 8 #[.slice a0 len0 cap0] w fun e w' => e = .returned (.bool true) ∧ Below w.heap.size w w' := by
  obtain ⟨p, bs, hm0, hI, hL, hp1, hp2, hlc0⟩ := cut_min w0 2000 2000 rfl
  have hbl : bs.length ≤ 2000 := by omega
  have hp0 : (0 : Int) ≤ (p : Int) := by omega
  have hpc : (p : Int) ≤ (cap0 : Int) := by omega
  have hok := decB_ok bs
  have her := decB_err bs
  have hbk := decB_back bs hI.bytes
  have HD := hide fun v w h => decode_any v bs w h (by omega)
  obtain ⟨D, hD⟩ : ∃ D, D = decB bs := ⟨_, rfl⟩
  rw [← hD] at hok her hbk HD
  obtain ⟨t, n, er⟩ := D
  dsimp only at hok her hbk
  have HI := hide hI
  have hx := hI.bytes
  subst hL
  clear w0 hD hI
  by_cases h0 : er = 0
  · subst h0
    obtain ⟨h6, hnl, htn, hn1⟩ := hok rfl
    obtain ⟨hb1, hb2⟩ := hbk rfl
    obtain ⟨xs, hxs⟩ : ∃ xs, xs = blkB t := ⟨_, rfl⟩
    have HX := hide hxs
    have hxe : xs = bs.take n := by rw [hxs]; exact hb1
    have hxl : xs.length = n := by rw [hxe, List.length_take]; omega
    obtain ⟨str, hstr⟩ : ∃ str, str = strOfNums xs := ⟨_, rfl⟩
    have HS := hide hstr
    have HXE := hide hxe
    have HXL := hide hxl
    have hmn : ∀ (ts : Array TypeId) (t : TypeId) (w : World), (Builtin.min_ ts t #[.int .i64 (n : Int), .int .i64 (bs.length : Int)]).run Try.prog w = .ok (.int .i64 (n : Int)) w := fun ts t w => by
      rw [run_min_int2]
      congr 2
      split <;> omega
    clear her hok hbk hxs hxe hxl hstr hx hb1
    go_enter Try.func8, Try.ntmps8
    go_wp2_with fail
    refine (shown_any _).mono ?_
    rintro e w1 ⟨rfl, B1⟩
    have I1 := hide (HI.out.below B1)
    have HB1 := hide B1
    clear B1
    go_wp2_with fail
    refine (HD.out _ w1 I1.out).mono ?_
    rintro e w2 ⟨v2, rfl, i2, b2, _⟩
    dsimp only at i2 ⊢
    obtain ⟨a2, cap2, rfl, _⟩ := i2.form
    have B2 := hide (below_then HB1.out b2)
    have I2 := hide (I1.out.below b2)
    have J2 := hide i2
    clear i2 b2 hm0
    go_wp2_with fail
    refine (encode_go _ t xs w2 J2.out hb2 HX).mono ?_
    rintro e w3 ⟨g3, cap3, rfl, o3, b3⟩
    have B3 := hide (below_then B2.out b3)
    have c3 := conv_isB (w := w3.drew) o3.isB
    have d3 := conv_isB (w := w3.drew) ((I2.out.below b3).take n (by omega))
    have hnd : decide (n ≤ bs.length) = true := by simpa using hnl
    have hn0 : (0 : Int) ≤ (n : Int) := by omega
    rw [← HXE.out] at d3
    rw [← HS.out] at c3 d3
    have hxl := HXL.out
    rw [hxl] at c3 ⊢
    have hnc : (n : Int) ≤ (cap0 : Int) := by omega
    clear o3 b3
    go_wp2
    go_region_held (fun w' => (convert 25 9 (.slice (some ⟨g3, 0, none⟩) n cap3)).run Try.prog w' = .ok (.string str) w' ∧ (convert 25 9 (.slice a0 n cap0)).run Try.prog w' = .ok (.string str) w') (exact ⟨by assumption, by assumption⟩) (fail)
    go_wp2
    go_ret
    exact ⟨rfl, B3.out.drew⟩
  · obtain ⟨rfl, rfl, h23⟩ := her h0
    clear hok hbk hx
    rcases h23 with rfl | rfl
    all_goals
      go_enter Try.func8, Try.ntmps8
      go_wp2_with fail
      refine (shown_any _).mono ?_
      rintro e w1 ⟨rfl, B1⟩
      have I1 := hide (HI.out.below B1)
      have HB1 := hide B1
      clear B1
      go_wp2_with fail
      refine (HD.out _ w1 I1.out).mono ?_
      rintro e w2 ⟨v2, rfl, i2, b2, _⟩
      dsimp only at i2 ⊢
      obtain ⟨a2, cap2, rfl, _⟩ := i2.form
      have B2 := hide (below_then HB1.out b2)
      clear i2 b2 hm0
      go_wp2
      go_ret
      exact ⟨rfl, B2.out⟩

/-! ### THE ROW's STEP: WRITTEN OUT: LEAVE IT -/
set_option maxRecDepth 100000 in
theorem lifted (os : Os) (started : os.Started) (H : Type) (enc : TypeId × Value → H) :
    ReturnsInHanded {} Try.checked os 8 .any (Rows.blockBytesSpec.pre6 enc Try.prog Try.f8 Rows.blockBytesRow.domain false) (Rows.blockBytesSpec.post enc Try.prog Try.f8 false true false false) := by
  refine returnsInHanded_of_change (C := Try.checked) own started (by kernel_rfl) Try.func8
    (ChangeSpec.witness6 (enc := enc) (C := Try.checked) false ⟨#[], #[.slice none 0 0], []⟩ 8 (by kernel_rfl) (by kernel_rfl) (by kernel_rfl) (by kernel_rfl)) ?_
  intro W base args ds gs before hval0 hW hcnd _
  have hval : ∀ (j : Nat) t v, Try.f8.params[j]? = some t → args[j]? = some v → Value.okWide Try.prog W .any base t v := hval0
  have hW' := hW
  obtain ⟨p, q, hA0, hV, rfl, hfz, hnd⟩ := hW
  have hA : DataW.TrodAll enc Try.prog W 0 (fun _ => true) true Try.f8.params.toList args.toList ds p := hA0
  rw [Try.params8] at hA hval
  obtain ⟨v0, vs0, d0, ds0, p0, q0, hargs, rfl, rfl, h0, r0⟩ := trodAll_cons hA
  obtain ⟨rfl, rfl, rfl⟩ := trodAll_nil r0
  obtain rfl : args = #[v0] := by cases args; simp_all
  obtain ⟨rfl, rfl⟩ := trodVars_none hV
  obtain ⟨a0, len0, cap0, rfl⟩ := okWide_slice Try.underlying25 (hval 0 25 v0 rfl rfl)
  have k0 := h0
  have lt0 : ∀ x ∈ p0, x.block < W.heap.size := by obtain ⟨m, hm⟩ := k0; exact DataW.trod_lt m _ _ _ hm
  obtain ⟨z0, w0⟩ : ∃ zs, IsRow .u8 W a0 len0 cap0 zs := by
    obtain ⟨fuel, hf⟩ := h0
    rcases open_ints Try.underlying25 Try.underlying5 (by kernel_rfl) hf with ⟨hcs, _⟩ | ⟨x, l, c, zs, hcs, _, hl, hm, hz, _, hcell, hwz⟩
    · simp [Value.cells] at hcs
      obtain ⟨rfl, rfl, rfl⟩ := hcs
      exact ⟨[], .inl ⟨rfl, rfl, rfl, rfl⟩⟩
    · simp [Value.cells] at hcs
      obtain ⟨rfl, rfl, rfl⟩ := hcs
      exact ⟨zs, .inr ⟨_, rfl, hl, hm, by simpa using hz, hcell, hwz⟩⟩
  clear hA0 hval0
  refine (walk a0 len0 cap0 z0 W w0).mono fun e W' ⟨he, bel⟩ => ?_
  subst he
  exact ⟨_, rfl, _, _, _, [], _, [], hW', trodAll_mk1 (shut_bool Try.underlying4 _), (trodAll_cons_mk (Below.trod laidOut (by kernel_rfl) (of_decide_eq_true (by kernel_rfl)) k0 bel lt0) trodAll_mk0), rfl, bel.frame _, fun h => by cases h⟩

theorem over : Rows.blockBytesRow.holds Try.pinned (OpenSpec.ofChange Rows.blockBytesSpec) :=
  OpenClaim.holds_of_wide 8 Try.f8 rfl rfl rfl rfl rfl rfl rfl ⟨rfl, rfl, rfl, rfl, rfl⟩ rfl rfl rfl rfl rfl (by kernel_rfl) Try.func8 (by kernel_rfl)
    (of_decide_eq_true (by kernel_rfl)) (by unfold Func.isWrapper; first | (rw [if_pos (by decide +kernel)]; kernel_rfl) | (rw [if_neg (by decide +kernel)]; exact ⟨rfl, rfl⟩))
    (fun os started H enc _ => lifted os started H enc)

/-- ████ THE STATEMENT ████ -/
theorem proved : Rows.BlockBytesSaid := over
#print axioms proved
end Go.Proofs.Ytjnmggbkclnbkaa.blockBytes
