/-
  Proved: for every number of 64 bits and every slice of bytes, OctetsVarBack returns true and leaves the bytes as they were (what was put by digits is got; a byte less is none). No condition.
-/
import Derived.Test.YtoneaaafdgllbaaNil
import Derived.WalkKit
import Derived.ProofKit
import Derived.OpenShut
import Derived.ShutString
import Derived.ChangeOld
import Derived.Below
namespace Go.Proofs.Ytoneaaafdgllbaa.octetsVarBack
open Go.ChangeShapes Go.WideShapes Go.ChangeAt Go.RowKit
open Go.ChangeMaps (open_string shut_string)
set_option linter.unusedVariables false

theorem own : ownKnob Try.prog.godebug = none := by kernel_rfl
theorem laidOut : laidOutB Try.prog = true := by kernel_rfl

/-- WHAT THE WALK IS TOLD OF A SLICE OF INTEGERS THAT CAME IN: it is nil; or it leads to a row of 'cap' cells, the numbers 'zs' (the first 'len' are its elements, the rest its spare room), each fitting its kind. -/
def IsRow (k : IntKind) (w : World) (a : Option Addr) (len cap : Nat) (zs : List Int) : Prop :=
  (a = none ∧ len = 0 ∧ cap = 0 ∧ zs = []) ∨
  ∃ x, a = some x ∧ len ≤ cap ∧ cap ≤ maxLen ∧ zs.length = cap ∧ (∀ i, i < zs.length → w.cell? (x.add i) = some (.int k (zs.getD i 0))) ∧ ∀ n ∈ zs, (Lit.int k n).wf = true

theorem isB_of {w : World} {a : Option Addr} {len cap : Nat} {zs : List Int} (h : IsRow .u8 w a len cap zs) : IsB w (.slice a len cap) (zs.take len) ∧ (zs.take len).length = len ∧ len ≤ cap := by
  rcases h with ⟨rfl, rfl, rfl, rfl⟩ | ⟨x, rfl, hl, hm, hz, hc, hw⟩
  · exact ⟨IsB.nil w, rfl, Nat.le_refl _⟩
  · have e : (zs.take len).length = len := by simp; omega
    refine ⟨⟨_, cap, by rw [e], by omega, by simp, fun y hy j hj => ?_, fun z hz => ?_⟩, e, hl⟩
    · simp only [Option.some.injEq] at hy
      subst hy
      rw [hc j (by omega), List.getElem?_take_of_lt (by omega)]
      rfl
    · have := hw z (List.mem_of_mem_take hz)
      exact bounds_u8 this

/-- What is left of a slice that is cut to at most m bytes. -/
theorem cut_to {w : World} {a : Option Addr} {len cap : Nat} {zs : List Int} (h : IsRow .u8 w a len cap zs) (m : Nat) (hm : m ≤ len) : ∃ bs, IsB w (.slice a m cap) bs ∧ bs.length = m := by
  obtain ⟨h1, h2, h3⟩ := isB_of h
  exact ⟨_, h1.take m hm, by simp only [List.length_take, h2]; omega⟩

/-- The same, the length named: as the walk reckons it. -/
theorem cut_min {w : World} {a : Option Addr} {len cap : Nat} {zs : List Int} (h : IsRow .u8 w a len cap zs) (k : Nat) (K : Int) (hK : K = (k : Int)) :
    ∃ (m : Nat) (bs : List Int), (∀ (ts : Array TypeId) (t : TypeId) (w : World), (Builtin.min_ ts t #[.int .i64 (len : Int), .int .i64 K]).run Try.prog w = .ok (.int .i64 (m : Int)) w) ∧ IsB w (.slice a m cap) bs ∧ bs.length = m ∧ m ≤ len ∧ m ≤ k ∧ m ≤ cap := by
  obtain ⟨h1, h2, h3⟩ := isB_of h
  refine ⟨min len k, _, fun ts t w => ?_, h1.take (min len k) (by omega), by simp only [List.length_take, h2]; omega, by omega, by omega, by omega⟩
  rw [run_min_int2, hK]
  congr 2
  split <;> omega


/-! ### The walk -/
set_option maxHeartbeats 1000000 in
theorem walk (a0 : Int) (a1 : Option Addr) (len1 cap1 : Nat) (z1 : List Int) (w : World) (w0 : (Lit.int .u64 a0).wf = true) (w1 : IsRow .u8 w a1 len1 cap1 z1) :
    Calls Try.prog 7 #[.int .u64 a0, .slice a1 len1 cap1] w fun e w' => e = .returned (.bool true) ∧ Below w.heap.size w w' := by
  obtain ⟨ha0, ha1⟩ := bounds_u64 w0
  have hlc := (isB_of w1).2.2
  obtain ⟨xs, hxs⟩ : ∃ xs, xs = varB 9 a0 := ⟨_, rfl⟩
  have hlx := varB_length 9 a0
  rw [← hxs] at hlx
  have PX := hide (putVar_nil a0 xs hxs)
  have G1 : ∀ t, Hid (gv (xs ++ t) = (a0, xs.length, true)) := fun t => by rw [hxs]; exact gv_varB a0 ha0 (by omega) t
  have G2 : Hid (gv (xs.take (xs.length - 1)) = (0, 0, false)) := by rw [hxs] at hlx ⊢; exact gv_cut a0 ha0 _ (by omega)
  clear hxs w0
  obtain ⟨hlx1, hlx2⟩ := hlx
  by_cases h5 : (len1 : Int) ≤ 50
  case' pos => obtain ⟨bs, hI, hL⟩ := cut_to w1 len1 (Nat.le_refl _)
  case' neg => obtain ⟨bs, hI, hL⟩ := cut_to w1 50 (by omega)
  all_goals
    have hbl : bs.length ≤ 50 := by omega
    clear w1 hL
    go_enter Try.func7, Try.ntmps7
    go_wp2_with fail
    refine (shown_any _).mono ?_
    rintro e w1 ⟨rfl, B1⟩
    go_wp2_with fail
    refine (PX.out w1 ha0 (by omega)).mono ?_
    rintro e w2 ⟨g2, cap2, rfl, o2, b2⟩
    have B2 := below_then B1 b2
    clear B1 b2
    have hI2 := hI.below B2
    go_wp2_with (first
      | (at_builtin; refine wp_appendB _ rfl (.tmp 30) (.tmp 31) rfl w2.heap.size w2.heap.size 0 [] xs _ rfl (OwnB.empty w2 _ (Nat.le_refl _)) rfl (o2.alloc _).isB (by simp; omega) (by simp) ?_; intro g3 cap3 w3 o3 b3; simp only [List.nil_append] at o3; have b3' := ((Below.refl w2.heap.size w2).alloc (Nat.le_refl _) (.cells #[] 5)).trans b3; have hI3 := hI2.below b3'; have o23 := o2.below b3'; have B3 := below_then B2 b3')
      | (at_builtin; refine wp_appendB w3 rfl (.tmp 32) (.tmp 33) rfl w2.heap.size g3 cap3 xs bs _ rfl o3 rfl hI3 (by omega) b3'.size ?_; intro g4 cap4 w4 o4 b4))
    have i4 := o4.isB
    rw [List.length_append] at i4
    have B4 : Below w.heap.size w w4 := B3.trans (b4.mono B2.size)
    have hV := getVar_any _ _ _ i4 (by simp; omega)
    rw [(G1 bs).out] at hV
    refine hV.mono ?_
    clear hV
    rintro e w5 ⟨rfl, b5⟩
    have B5 := below_then B4 b5
    have o25 := (o2.below (b3'.trans b4)).below b5
    clear o3 hI3 b3 b3' o23 B3 o4 b4 i4 B4 b5 hI hI2 B2 o2
    have hc2 := o25.len_le
    go_wp2_with fail
    have hV := getVar_any (.slice (some ⟨g2, 0, none⟩) (xs.length - 1) cap2) (xs.take (xs.length - 1)) _ (o25.isB.take (xs.length - 1) (by omega)) (by simp; omega)
    rw [G2.out] at hV
    refine hV.mono ?_
    clear hV
    rintro e w6 ⟨rfl, b6⟩
    have B6 := below_then B5 b6
    go_wp2
    go_ret
    exact ⟨rfl, B6⟩

/-! ### THE ROW's STEP: WRITTEN OUT: LEAVE IT -/
set_option maxRecDepth 100000 in
theorem lifted (os : Os) (started : os.Started) (H : Type) (enc : TypeId × Value → H) :
    ReturnsInHanded {} Try.checked os 7 .any (Rows.octetsVarBackSpec.pre6 enc Try.prog Try.f7 Rows.octetsVarBackRow.domain false) (Rows.octetsVarBackSpec.post enc Try.prog Try.f7 false true false false) := by
  refine returnsInHanded_of_change (C := Try.checked) own started (by kernel_rfl) Try.func7
    (ChangeSpec.witness6 (enc := enc) (C := Try.checked) false ⟨#[], #[.int .u64 0, .slice none 0 0], []⟩ 8 (by kernel_rfl) (by kernel_rfl) (by kernel_rfl) (by kernel_rfl)) ?_
  intro W base args ds gs before hval0 hW hcnd _
  have hval : ∀ (j : Nat) t v, Try.f7.params[j]? = some t → args[j]? = some v → Value.okWide Try.prog W .any base t v := hval0
  have hW' := hW
  obtain ⟨p, q, hA0, hV, rfl, hfz, hnd⟩ := hW
  have hA : DataW.TrodAll enc Try.prog W 0 (fun _ => true) true Try.f7.params.toList args.toList ds p := hA0
  rw [Try.params7] at hA hval
  obtain ⟨v0, vs0, d0, ds0, p0, q0, hargs, rfl, rfl, h0, r0⟩ := trodAll_cons hA
  obtain ⟨v1, vs1, d1, ds1, p1, q1, rfl, rfl, rfl, h1, r1⟩ := trodAll_cons r0
  obtain ⟨rfl, rfl, rfl⟩ := trodAll_nil r1
  obtain rfl : args = #[v0, v1] := by cases args; simp_all
  obtain ⟨rfl, rfl⟩ := trodVars_none hV
  obtain ⟨a0, rfl, rfl, rfl, w0⟩ := open_int Try.underlying23 (hval 0 23 v0 rfl rfl) h0
  obtain ⟨a1, len1, cap1, rfl⟩ := okWide_slice Try.underlying22 (hval 1 22 v1 rfl rfl)
  have k1 := h1
  have lt1 : ∀ x ∈ p1, x.block < W.heap.size := by obtain ⟨m, hm⟩ := k1; exact DataW.trod_lt m _ _ _ hm
  obtain ⟨z1, w1⟩ : ∃ zs, IsRow .u8 W a1 len1 cap1 zs := by
    obtain ⟨fuel, hf⟩ := h1
    rcases open_ints Try.underlying22 Try.underlying5 (by kernel_rfl) hf with ⟨hcs, _⟩ | ⟨x, l, c, zs, hcs, _, hl, hm, hz, _, hcell, hwz⟩
    · simp [Value.cells] at hcs
      obtain ⟨rfl, rfl, rfl⟩ := hcs
      exact ⟨[], .inl ⟨rfl, rfl, rfl, rfl⟩⟩
    · simp [Value.cells] at hcs
      obtain ⟨rfl, rfl, rfl⟩ := hcs
      exact ⟨zs, .inr ⟨_, rfl, hl, hm, by simpa using hz, hcell, hwz⟩⟩
  clear hA0 hval0
  refine (walk a0 a1 len1 cap1 z1 W w0 w1).mono fun e W' ⟨he, bel⟩ => ?_
  subst he
  exact ⟨_, rfl, _, _, _, [], _, [], hW', trodAll_mk1 (shut_bool Try.underlying4 _), (trodAll_cons_mk (shut_int Try.underlying23 w0) (trodAll_cons_mk (Below.trod laidOut (by kernel_rfl) (of_decide_eq_true (by kernel_rfl)) k1 bel lt1) trodAll_mk0)), rfl, bel.frame _, fun h => by cases h⟩

theorem over : Rows.octetsVarBackRow.holds Try.pinned (OpenSpec.ofChange Rows.octetsVarBackSpec) :=
  OpenClaim.holds_of_wide 7 Try.f7 rfl rfl rfl rfl rfl rfl rfl ⟨rfl, rfl, rfl, rfl, rfl⟩ rfl rfl rfl rfl rfl (by kernel_rfl) Try.func7 (by kernel_rfl)
    (of_decide_eq_true (by kernel_rfl)) (by unfold Func.isWrapper; first | (rw [if_pos (by decide +kernel)]; kernel_rfl) | (rw [if_neg (by decide +kernel)]; exact ⟨rfl, rfl⟩))
    (fun os started H enc _ => lifted os started H enc)

/-- ████ THE STATEMENT ████ -/
theorem proved : Rows.OctetsVarBackSaid := over
#print axioms proved
end Go.Proofs.Ytoneaaafdgllbaa.octetsVarBack
