/-
  Proved: for all slices of bytes ahead and behind, every number of 64 bits and every size, OctetsBack returns true and leaves the bytes as they were (what was put is got, whatever stands around it). No condition.
-/
import Derived.Deep.RegionHeld
import Derived.Test.YtoneaaafdgllbaaRuns
import Derived.WalkKit
import Derived.ProofKit
import Derived.OpenShut
import Derived.ShutString
import Derived.ChangeOld
import Derived.Below
namespace Go.Proofs.Ytoneaaafdgllbaa.octetsBack
open Go.ChangeShapes Go.WideShapes Go.ChangeAt Go.RowKit
open Go.ChangeMaps (open_string shut_string)
set_option linter.unusedVariables false

theorem own : ownKnob Try.prog.godebug = none := by kernel_rfl
theorem laidOut : laidOutB Try.prog = true := by kernel_rfl

/-- WHAT THE WALK IS TOLD OF A SLICE OF INTEGERS THAT CAME IN: it is nil; or it leads to a row of 'cap' cells, the numbers 'zs' (the first 'len' are its elements, the rest its spare room), each fitting its kind. -/
def IsRow (k : IntKind) (w : World) (a : Option Addr) (len cap : Nat) (zs : List Int) : Prop :=
  (a = none ∧ len = 0 ∧ cap = 0 ∧ zs = []) ∨
  ∃ x, a = some x ∧ len ≤ cap ∧ cap ≤ maxLen ∧ zs.length = cap ∧ (∀ i, i < zs.length → w.cell? (x.add i) = some (.int k (zs.getD i 0))) ∧ ∀ n ∈ zs, (Lit.int k n).wf = true

theorem isB_of {w : World} {a : Option Addr} {len cap : Nat} {zs : List Int} (h : IsRow .u8 w a len cap zs) : IsB w (.slice a len cap) (zs.take len) ∧ (zs.take len).length = len ∧ len ≤ cap := by
  rcases h with ⟨rfl, rfl, rfl, rfl⟩ | ⟨x, rfl, hl, hm, hz, hc, hw⟩
  · exact ⟨IsB.nil w, rfl, Nat.le_refl _⟩
  · have e : (zs.take len).length = len := by simp; omega
    refine ⟨⟨_, cap, by rw [e], by omega, by simp, fun y hy j hj => ?_, fun z hz => ?_⟩, e, hl⟩
    · simp only [Option.some.injEq] at hy
      subst hy
      rw [hc j (by omega), List.getElem?_take_of_lt (by omega)]
      rfl
    · have := hw z (List.mem_of_mem_take hz)
      exact bounds_u8 this

/-- What is left of a slice that is cut to at most m bytes. -/
theorem cut_to {w : World} {a : Option Addr} {len cap : Nat} {zs : List Int} (h : IsRow .u8 w a len cap zs) (m : Nat) (hm : m ≤ len) : ∃ bs, IsB w (.slice a m cap) bs ∧ bs.length = m := by
  obtain ⟨h1, h2, h3⟩ := isB_of h
  exact ⟨_, h1.take m hm, by simp only [List.length_take, h2]; omega⟩

/-- The same, the length named: as the walk reckons it. -/
theorem cut_min {w : World} {a : Option Addr} {len cap : Nat} {zs : List Int} (h : IsRow .u8 w a len cap zs) (k : Nat) (K : Int) (hK : K = (k : Int)) :
    ∃ (m : Nat) (bs : List Int), (∀ (ts : Array TypeId) (t : TypeId) (w : World), (Builtin.min_ ts t #[.int .i64 (len : Int), .int .i64 K]).run Try.prog w = .ok (.int .i64 (m : Int)) w) ∧ IsB w (.slice a m cap) bs ∧ bs.length = m ∧ m ≤ len ∧ m ≤ k ∧ m ≤ cap := by
  obtain ⟨h1, h2, h3⟩ := isB_of h
  refine ⟨min len k, _, fun ts t w => ?_, h1.take (min len k) (by omega), by simp only [List.length_take, h2]; omega, by omega, by omega, by omega⟩
  rw [run_min_int2, hK]
  congr 2
  split <;> omega


/-! ### The walk -/
set_option maxHeartbeats 1000000 in
theorem walk (a0 : Option Addr) (len0 cap0 : Nat) (z0 : List Int) (a1 : Option Addr) (len1 cap1 : Nat) (z1 : List Int) (a2 : Int) (a3 : Int) (w : World) (w0 : IsRow .u8 w a0 len0 cap0 z0) (w1 : IsRow .u8 w a1 len1 cap1 z1) (w2 : (Lit.int .u64 a2).wf = true) (w3 : (Lit.int .i64 a3).wf = true) :
    Calls Try.prog 6 #[.slice a0 len0 cap0, .slice a1 len1 cap1, .int .u64 a2, .int .i64 a3] w fun e w' => e = .returned (.bool true) ∧ Below w.heap.size w w' := by
  obtain ⟨hn0, hn1⟩ := bounds_u64 w2
  obtain ⟨r, hr, hr8⟩ : ∃ r : Nat, bits .and .i64 a3 7 = (r : Int) ∧ r < 8 := ⟨(a3 % 8).toNat, by rw [i64_and7]; omega, by omega⟩
  obtain ⟨p, cs, hm0, hI, hL, hp1, hp2, hlc0⟩ := cut_min w0 50 50 rfl
  obtain ⟨q, bs, hm1, hJ, hM, hq1, hq2, hlc1⟩ := cut_min w1 50 50 rfl
  have hcl : cs.length ≤ 50 := by omega
  have hbl : bs.length ≤ 50 := by omega
  have HL := hide hL
  have HM := hide hM
  clear w0 w1 w2 w3 hL hM
  go_enter Try.func6, Try.ntmps6
  go_wp2_with fail
  refine (shown_any _).mono ?_
  rintro e w1 ⟨rfl, B1⟩
  have hI1 := hI.below B1
  have hJ1 := hJ.below B1
  have hP := put_any _ cs (1 + (r : Int)) a2 w1 hI1 (by omega) hn0 (by omega)
  rw [show (min (1 + (r : Int)) 8).toNat = r + 1 by omega] at hP
  obtain ⟨xs, hxs⟩ : ∃ xs, xs = cs ++ putB (r + 1) a2 := ⟨_, rfl⟩
  rw [← hxs] at hP
  have hxl : xs.length = p + (r + 1) := by rw [hxs, List.length_append, putB_length]; have := HL.out; omega
  have HV0 : ∀ t : List Int, Hid (valB 256 (((xs ++ t).drop p).take (r + 1)) = a2 % 256 ^ (r + 1)) := fun t => by
    show _ = _
    rw [hxs, List.append_assoc, List.drop_left' HL.out, List.take_left' (putB_length _ _)]
    exact valB_putB (r + 1) a2
  have HXL := hide hxl
  have HC : Hid (xs.take p = cs) := by show _ = _; rw [hxs, List.take_left' HL.out]
  clear hxs hxl
  go_wp2_with fail
  refine hP.mono ?_
  clear hP
  rintro e w2 ⟨g2, cap2, rfl, o2, b2⟩
  have B2 := below_then B1 b2
  have hJ2 := hJ1.below b2
  have hs1 := B1.size
  clear B1 hI1 hJ1 b2
  have hx60 : xs.length ≤ 60 := by have := HXL.out; omega
  go_wp2_with (at_builtin; refine wp_appendB w2 rfl (.tmp 30) (.tmp 31) rfl w1.heap.size g2 cap2 xs bs _ rfl o2 rfl hJ2 (by omega) (by have := o2.base; omega) ?_; intro g3 cap3 w3 o3 b3)
  have i3 := o3.isB
  rw [List.length_append] at i3
  have hG := get_yes _ (xs ++ bs) p (r + 1) w3 i3 (by simp; omega) (by omega) (by omega) (by have := HXL.out; simp; omega)
  rw [(HV0 bs).out, show ((r + 1 : Nat) : Int) = 1 + (r : Int) by omega] at hG
  obtain ⟨V, hV⟩ : ∃ V, V = a2 % 256 ^ (r + 1) := ⟨_, rfl⟩
  rw [← hV] at hG
  have HV := hide hV
  clear hV HV0
  refine hG.mono ?_
  clear hG
  rintro e w4 ⟨rfl, b4⟩
  have B3 : Below w.heap.size w w3 := B2.trans (b3.mono hs1)
  have B4 := below_then B3 b4
  have i4 := (i3.below b4).take p (by have := HXL.out; omega)
  rw [List.take_append_of_le_length (by have := HXL.out; omega), HC.out] at i4
  have j4 := hI.below B4
  obtain ⟨str, hstr⟩ : ∃ str, str = strOfNums cs := ⟨_, rfl⟩
  have c4 := conv_isB (w := w4.drew) i4
  have d4 := conv_isB (w := w4.drew) j4
  rw [← hstr] at c4 d4
  have hc3 := o3.len_le
  rw [List.length_append] at hc3
  have hlen : ((xs.length : Int) + (bs.length : Int) == IntKind.i64.wrap (IntKind.i64.wrap ((p : Int) + (1 + (r : Int))) + (q : Int))) = true := by have := HXL.out; have := HM.out; rw [beq_iff_eq, i64_small ((p : Int) + (1 + (r : Int))) (by omega) (by omega), i64_small _ (by omega) (by omega)]; omega
  have hpc : (p : Int) ≤ (cap3 : Int) := by have := HXL.out; omega
  have hp0 : (0 : Int) ≤ (p : Int) := by omega
  have HB := hide B4
  clear i4 j4 hstr o3 b3 b4 i3 B3 B4 B2 o2 hJ2 hI hJ hc3
  by_cases h7 : r < 7
  case' pos => have hmask : bits .and .u64 a2 (IntKind.u64.wrap (IntKind.u64.wrap (2 ^ (8 * (1 + r))) - 1)) = V := by rw [HV.out]; exact mask_u64 r a2 h7 hn0 (by omega)
  case' neg => have hmask : a2 = V := by rw [HV.out, show r = 7 by omega, show (256 : Int) ^ (7 + 1) = 18446744073709551616 by decide]; omega
  all_goals
    go_wp2
    go_region_held (fun w' => (convert 22 9 (.slice (some ⟨g3, 0, none⟩) p cap3)).run Try.prog w' = .ok (.string str) w' ∧ (convert 22 9 (.slice a0 p cap0)).run Try.prog w' = .ok (.string str) w') (exact ⟨by assumption, by assumption⟩) (fail)
    go_wp2
    go_ret
    exact ⟨rfl, HB.out.drew⟩

/-! ### THE ROW's STEP: WRITTEN OUT: LEAVE IT -/
set_option maxRecDepth 100000 in
theorem lifted (os : Os) (started : os.Started) (H : Type) (enc : TypeId × Value → H) :
    ReturnsInHanded {} Try.checked os 6 .any (Rows.octetsBackSpec.pre6 enc Try.prog Try.f6 Rows.octetsBackRow.domain false) (Rows.octetsBackSpec.post enc Try.prog Try.f6 false true false false) := by
  refine returnsInHanded_of_change (C := Try.checked) own started (by kernel_rfl) Try.func6
    (ChangeSpec.witness6 (enc := enc) (C := Try.checked) false ⟨#[], #[.slice none 0 0, .slice none 0 0, .int .u64 0, .int .i64 0], []⟩ 8 (by kernel_rfl) (by kernel_rfl) (by kernel_rfl) (by kernel_rfl)) ?_
  intro W base args ds gs before hval0 hW hcnd _
  have hval : ∀ (j : Nat) t v, Try.f6.params[j]? = some t → args[j]? = some v → Value.okWide Try.prog W .any base t v := hval0
  have hW' := hW
  obtain ⟨p, q, hA0, hV, rfl, hfz, hnd⟩ := hW
  have hA : DataW.TrodAll enc Try.prog W 0 (fun _ => true) true Try.f6.params.toList args.toList ds p := hA0
  rw [Try.params6] at hA hval
  obtain ⟨v0, vs0, d0, ds0, p0, q0, hargs, rfl, rfl, h0, r0⟩ := trodAll_cons hA
  obtain ⟨v1, vs1, d1, ds1, p1, q1, rfl, rfl, rfl, h1, r1⟩ := trodAll_cons r0
  obtain ⟨v2, vs2, d2, ds2, p2, q2, rfl, rfl, rfl, h2, r2⟩ := trodAll_cons r1
  obtain ⟨v3, vs3, d3, ds3, p3, q3, rfl, rfl, rfl, h3, r3⟩ := trodAll_cons r2
  obtain ⟨rfl, rfl, rfl⟩ := trodAll_nil r3
  obtain rfl : args = #[v0, v1, v2, v3] := by cases args; simp_all
  obtain ⟨rfl, rfl⟩ := trodVars_none hV
  obtain ⟨a0, len0, cap0, rfl⟩ := okWide_slice Try.underlying22 (hval 0 22 v0 rfl rfl)
  have k0 := h0
  have lt0 : ∀ x ∈ p0, x.block < W.heap.size := by obtain ⟨m, hm⟩ := k0; exact DataW.trod_lt m _ _ _ hm
  obtain ⟨z0, w0⟩ : ∃ zs, IsRow .u8 W a0 len0 cap0 zs := by
    obtain ⟨fuel, hf⟩ := h0
    rcases open_ints Try.underlying22 Try.underlying5 (by kernel_rfl) hf with ⟨hcs, _⟩ | ⟨x, l, c, zs, hcs, _, hl, hm, hz, _, hcell, hwz⟩
    · simp [Value.cells] at hcs
      obtain ⟨rfl, rfl, rfl⟩ := hcs
      exact ⟨[], .inl ⟨rfl, rfl, rfl, rfl⟩⟩
    · simp [Value.cells] at hcs
      obtain ⟨rfl, rfl, rfl⟩ := hcs
      exact ⟨zs, .inr ⟨_, rfl, hl, hm, by simpa using hz, hcell, hwz⟩⟩
  obtain ⟨a1, len1, cap1, rfl⟩ := okWide_slice Try.underlying22 (hval 1 22 v1 rfl rfl)
  have k1 := h1
  have lt1 : ∀ x ∈ p1, x.block < W.heap.size := by obtain ⟨m, hm⟩ := k1; exact DataW.trod_lt m _ _ _ hm
  obtain ⟨z1, w1⟩ : ∃ zs, IsRow .u8 W a1 len1 cap1 zs := by
    obtain ⟨fuel, hf⟩ := h1
    rcases open_ints Try.underlying22 Try.underlying5 (by kernel_rfl) hf with ⟨hcs, _⟩ | ⟨x, l, c, zs, hcs, _, hl, hm, hz, _, hcell, hwz⟩
    · simp [Value.cells] at hcs
      obtain ⟨rfl, rfl, rfl⟩ := hcs
      exact ⟨[], .inl ⟨rfl, rfl, rfl, rfl⟩⟩
    · simp [Value.cells] at hcs
      obtain ⟨rfl, rfl, rfl⟩ := hcs
      exact ⟨zs, .inr ⟨_, rfl, hl, hm, by simpa using hz, hcell, hwz⟩⟩
  obtain ⟨a2, rfl, rfl, rfl, w2⟩ := open_int Try.underlying23 (hval 2 23 v2 rfl rfl) h2
  obtain ⟨a3, rfl, rfl, rfl, w3⟩ := open_int Try.underlying3 (hval 3 3 v3 rfl rfl) h3
  clear hA0 hval0
  refine (walk a0 len0 cap0 z0 a1 len1 cap1 z1 a2 a3 W w0 w1 w2 w3).mono fun e W' ⟨he, bel⟩ => ?_
  subst he
  exact ⟨_, rfl, _, _, _, [], _, [], hW', trodAll_mk1 (shut_bool Try.underlying4 _), (trodAll_cons_mk (Below.trod laidOut (by kernel_rfl) (of_decide_eq_true (by kernel_rfl)) k0 bel lt0) (trodAll_cons_mk (Below.trod laidOut (by kernel_rfl) (of_decide_eq_true (by kernel_rfl)) k1 bel lt1) (trodAll_cons_mk (shut_int Try.underlying23 w2) (trodAll_cons_mk (shut_int Try.underlying3 w3) trodAll_mk0)))), rfl, bel.frame _, fun h => by cases h⟩

theorem over : Rows.octetsBackRow.holds Try.pinned (OpenSpec.ofChange Rows.octetsBackSpec) :=
  OpenClaim.holds_of_wide 6 Try.f6 rfl rfl rfl rfl rfl rfl rfl ⟨rfl, rfl, rfl, rfl, rfl⟩ rfl rfl rfl rfl rfl (by kernel_rfl) Try.func6 (by kernel_rfl)
    (of_decide_eq_true (by kernel_rfl)) (by unfold Func.isWrapper; first | (rw [if_pos (by decide +kernel)]; kernel_rfl) | (rw [if_neg (by decide +kernel)]; exact ⟨rfl, rfl⟩))
    (fun os started H enc _ => lifted os started H enc)

/-- ████ THE STATEMENT ████ -/
theorem proved : Rows.OctetsBackSaid := over
#print axioms proved
end Go.Proofs.Ytoneaaafdgllbaa.octetsBack
