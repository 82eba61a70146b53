/-
  Proved: for every slice of bytes, OctetsOne returns true and leaves the bytes as they were (there is one text by digits of each number). No condition.
-/
import Derived.Deep.RegionHeld
import Derived.Test.YtoneaaafdgllbaaRuns
import Derived.WalkKit
import Derived.ProofKit
import Derived.OpenShut
import Derived.ShutString
import Derived.ChangeOld
import Derived.Below
namespace Go.Proofs.Ytoneaaafdgllbaa.octetsOne
open Go.ChangeShapes Go.WideShapes Go.ChangeAt Go.RowKit
open Go.ChangeMaps (open_string shut_string)
set_option linter.unusedVariables false

theorem own : ownKnob Try.prog.godebug = none := by kernel_rfl
theorem laidOut : laidOutB Try.prog = true := by kernel_rfl

/-- WHAT THE WALK IS TOLD OF A SLICE OF INTEGERS THAT CAME IN: it is nil; or it leads to a row of 'cap' cells, the numbers 'zs' (the first 'len' are its elements, the rest its spare room), each fitting its kind. -/
def IsRow (k : IntKind) (w : World) (a : Option Addr) (len cap : Nat) (zs : List Int) : Prop :=
  (a = none ∧ len = 0 ∧ cap = 0 ∧ zs = []) ∨
  ∃ x, a = some x ∧ len ≤ cap ∧ cap ≤ maxLen ∧ zs.length = cap ∧ (∀ i, i < zs.length → w.cell? (x.add i) = some (.int k (zs.getD i 0))) ∧ ∀ n ∈ zs, (Lit.int k n).wf = true

theorem isB_of {w : World} {a : Option Addr} {len cap : Nat} {zs : List Int} (h : IsRow .u8 w a len cap zs) : IsB w (.slice a len cap) (zs.take len) ∧ (zs.take len).length = len ∧ len ≤ cap := by
  rcases h with ⟨rfl, rfl, rfl, rfl⟩ | ⟨x, rfl, hl, hm, hz, hc, hw⟩
  · exact ⟨IsB.nil w, rfl, Nat.le_refl _⟩
  · have e : (zs.take len).length = len := by simp; omega
    refine ⟨⟨_, cap, by rw [e], by omega, by simp, fun y hy j hj => ?_, fun z hz => ?_⟩, e, hl⟩
    · simp only [Option.some.injEq] at hy
      subst hy
      rw [hc j (by omega), List.getElem?_take_of_lt (by omega)]
      rfl
    · have := hw z (List.mem_of_mem_take hz)
      exact bounds_u8 this

/-- What is left of a slice that is cut to at most m bytes. -/
theorem cut_to {w : World} {a : Option Addr} {len cap : Nat} {zs : List Int} (h : IsRow .u8 w a len cap zs) (m : Nat) (hm : m ≤ len) : ∃ bs, IsB w (.slice a m cap) bs ∧ bs.length = m := by
  obtain ⟨h1, h2, h3⟩ := isB_of h
  exact ⟨_, h1.take m hm, by simp only [List.length_take, h2]; omega⟩

/-- The same, the length named: as the walk reckons it. -/
theorem cut_min {w : World} {a : Option Addr} {len cap : Nat} {zs : List Int} (h : IsRow .u8 w a len cap zs) (k : Nat) (K : Int) (hK : K = (k : Int)) :
    ∃ (m : Nat) (bs : List Int), (∀ (ts : Array TypeId) (t : TypeId) (w : World), (Builtin.min_ ts t #[.int .i64 (len : Int), .int .i64 K]).run Try.prog w = .ok (.int .i64 (m : Int)) w) ∧ IsB w (.slice a m cap) bs ∧ bs.length = m ∧ m ≤ len ∧ m ≤ k ∧ m ≤ cap := by
  obtain ⟨h1, h2, h3⟩ := isB_of h
  refine ⟨min len k, _, fun ts t w => ?_, h1.take (min len k) (by omega), by simp only [List.length_take, h2]; omega, by omega, by omega, by omega⟩
  rw [run_min_int2, hK]
  congr 2
  split <;> omega


/-! ### The walk -/
set_option maxHeartbeats 1000000 in
theorem walk (a0 : Option Addr) (len0 cap0 : Nat) (z0 : List Int) (w : World) (w0 : IsRow .u8 w a0 len0 cap0 z0) :
    Calls Try.prog 8 #[.slice a0 len0 cap0] w fun e w' => e = .returned (.bool true) ∧ Below w.heap.size w w' := by
  have hlc := (isB_of w0).2.2
  by_cases h5 : (len0 : Int) ≤ 20
  case' pos =>
    obtain ⟨bs, hI, hL⟩ := cut_to w0 len0 (Nat.le_refl _)
    have hLd : ∀ d : Nat, d ≤ bs.length → decide (d ≤ len0) = true := fun d hd => by simp; omega
  case' neg =>
    obtain ⟨bs, hI, hL⟩ := cut_to w0 20 (by omega)
    have hLd : ∀ d : Nat, d ≤ bs.length → decide ((d : Int) ≤ 20) = true := fun d hd => by simp; omega
  all_goals
    have hbl : bs.length ≤ 20 := by omega
    have hble : bs.length ≤ len0 := by omega
    clear hL
    have HG := hide fun v w h => getVar_any v bs w h (by omega)
    cases hk : (gv bs).2.2 with
    | false =>
      have hz := gv_none bs hk
      rw [hz] at HG
      clear w0 hz hk
      go_enter Try.func8, Try.ntmps8
      go_wp2_with fail
      refine (shown_any _).mono ?_
      rintro e w1 ⟨rfl, B1⟩
      have hI1 := hI.below B1
      go_wp2_with fail
      refine (HG.out _ w1 hI1).mono ?_
      rintro e w2 ⟨rfl, b2⟩
      have B2 := below_then B1 b2
      clear b2 B1 hI1
      go_wp2
      go_ret
      exact ⟨rfl, B2⟩
    | true =>
      have ho := gv_one bs hI.bytes hk
      rw [hk] at HG
      generalize (gv bs).1 = n at ho HG
      generalize (gv bs).2.1 = d at ho HG
      obtain ⟨hn0, hn1, hd1, hd2, hv⟩ := ho
      have PX := hide (putVar_nil n (bs.take d) hv.symm)
      clear w0 hk hv
      go_enter Try.func8, Try.ntmps8
      go_wp2_with fail
      refine (shown_any _).mono ?_
      rintro e w1 ⟨rfl, B1⟩
      have hI1 := hI.below B1
      go_wp2_with fail
      refine (HG.out _ w1 hI1).mono ?_
      rintro e w2 ⟨rfl, b2⟩
      have B2 := below_then B1 b2
      have hI2 := (hI1.below b2).take d (by omega)
      have hbt : (bs.take d).length = d := by simp; omega
      have hdl := hLd d hd2
      have hd0 : decide (0 < d) = true := by simp; omega
      have hdc : (d : Int) ≤ cap0 := by omega
      have c2 := conv_isB (w := w2.drew) hI2
      clear b2 B1 hI1 hLd
      obtain ⟨str, hstr⟩ : ∃ str, str = strOfNums (bs.take d) := ⟨_, rfl⟩
      rw [← hstr] at c2
      have HI2 := hide hI2
      have HB2 := hide B2
      have HS := hide hstr
      have hd0' : (0 : Int) ≤ (d : Int) := by omega
      clear hI2 B2 hstr
      go_wp2
      go_region_held (fun w' => (convert 22 9 (.slice a0 d cap0)).run Try.prog w' = .ok (.string str) w') (first | go_keep | assumption) (first | (go_at_call 19; refine (PX.out _ hn0 hn1).mono ?_; rintro e w3 ⟨g3, cap3, rfl, o3, b3⟩; have b3' := below_undrew b3; have c3 := conv_isB o3.isB; rw [← HS.out, hbt] at c3; have c4 := conv_isB (HI2.out.below b3'); rw [← HS.out] at c4; have B3 := hide (below_then HB2.out b3'); clear o3 b3 b3'))
      go_wp2
      go_ret
      exact ⟨rfl, B3.out⟩

/-! ### THE ROW's STEP: WRITTEN OUT: LEAVE IT -/
set_option maxRecDepth 100000 in
theorem lifted (os : Os) (started : os.Started) (H : Type) (enc : TypeId × Value → H) :
    ReturnsInHanded {} Try.checked os 8 .any (Rows.octetsOneSpec.pre6 enc Try.prog Try.f8 Rows.octetsOneRow.domain false) (Rows.octetsOneSpec.post enc Try.prog Try.f8 false true false false) := by
  refine returnsInHanded_of_change (C := Try.checked) own started (by kernel_rfl) Try.func8
    (ChangeSpec.witness6 (enc := enc) (C := Try.checked) false ⟨#[], #[.slice none 0 0], []⟩ 8 (by kernel_rfl) (by kernel_rfl) (by kernel_rfl) (by kernel_rfl)) ?_
  intro W base args ds gs before hval0 hW hcnd _
  have hval : ∀ (j : Nat) t v, Try.f8.params[j]? = some t → args[j]? = some v → Value.okWide Try.prog W .any base t v := hval0
  have hW' := hW
  obtain ⟨p, q, hA0, hV, rfl, hfz, hnd⟩ := hW
  have hA : DataW.TrodAll enc Try.prog W 0 (fun _ => true) true Try.f8.params.toList args.toList ds p := hA0
  rw [Try.params8] at hA hval
  obtain ⟨v0, vs0, d0, ds0, p0, q0, hargs, rfl, rfl, h0, r0⟩ := trodAll_cons hA
  obtain ⟨rfl, rfl, rfl⟩ := trodAll_nil r0
  obtain rfl : args = #[v0] := by cases args; simp_all
  obtain ⟨rfl, rfl⟩ := trodVars_none hV
  obtain ⟨a0, len0, cap0, rfl⟩ := okWide_slice Try.underlying22 (hval 0 22 v0 rfl rfl)
  have k0 := h0
  have lt0 : ∀ x ∈ p0, x.block < W.heap.size := by obtain ⟨m, hm⟩ := k0; exact DataW.trod_lt m _ _ _ hm
  obtain ⟨z0, w0⟩ : ∃ zs, IsRow .u8 W a0 len0 cap0 zs := by
    obtain ⟨fuel, hf⟩ := h0
    rcases open_ints Try.underlying22 Try.underlying5 (by kernel_rfl) hf with ⟨hcs, _⟩ | ⟨x, l, c, zs, hcs, _, hl, hm, hz, _, hcell, hwz⟩
    · simp [Value.cells] at hcs
      obtain ⟨rfl, rfl, rfl⟩ := hcs
      exact ⟨[], .inl ⟨rfl, rfl, rfl, rfl⟩⟩
    · simp [Value.cells] at hcs
      obtain ⟨rfl, rfl, rfl⟩ := hcs
      exact ⟨zs, .inr ⟨_, rfl, hl, hm, by simpa using hz, hcell, hwz⟩⟩
  clear hA0 hval0
  refine (walk a0 len0 cap0 z0 W w0).mono fun e W' ⟨he, bel⟩ => ?_
  subst he
  exact ⟨_, rfl, _, _, _, [], _, [], hW', trodAll_mk1 (shut_bool Try.underlying4 _), (trodAll_cons_mk (Below.trod laidOut (by kernel_rfl) (of_decide_eq_true (by kernel_rfl)) k0 bel lt0) trodAll_mk0), rfl, bel.frame _, fun h => by cases h⟩

theorem over : Rows.octetsOneRow.holds Try.pinned (OpenSpec.ofChange Rows.octetsOneSpec) :=
  OpenClaim.holds_of_wide 8 Try.f8 rfl rfl rfl rfl rfl rfl rfl ⟨rfl, rfl, rfl, rfl, rfl⟩ rfl rfl rfl rfl rfl (by kernel_rfl) Try.func8 (by kernel_rfl)
    (of_decide_eq_true (by kernel_rfl)) (by unfold Func.isWrapper; first | (rw [if_pos (by decide +kernel)]; kernel_rfl) | (rw [if_neg (by decide +kernel)]; exact ⟨rfl, rfl⟩))
    (fun os started H enc _ => lifted os started H enc)

/-- ████ THE STATEMENT ████ -/
theorem proved : Rows.OctetsOneSaid := over
#print axioms proved
end Go.Proofs.Ytoneaaafdgllbaa.octetsOne
