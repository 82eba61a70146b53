/-
  Proved: for every slice of bytes, size, number of 64 bits and place, OctetsPuts returns true and leaves the bytes as they were (octets.Put and octets.Get tell what the document's tell; what is handed in stays). No condition.
-/
import Derived.Deep.RegionHeld
import Derived.Deep.RegionWith
import Derived.Deep.RegionHeldLaw
import Derived.Test.YtoneaaafdgllbaaSteps
import Derived.WalkKit
import Derived.ProofKit
import Derived.OpenShut
import Derived.ShutString
import Derived.ChangeOld
import Derived.Below
namespace Go.Proofs.Ytoneaaafdgllbaa.octetsPuts
open Go.ChangeShapes Go.WideShapes Go.ChangeAt Go.RowKit
open Go.ChangeMaps (open_string shut_string)
set_option linter.unusedVariables false

theorem own : ownKnob Try.prog.godebug = none := by kernel_rfl
theorem laidOut : laidOutB Try.prog = true := by kernel_rfl

/-- WHAT THE WALK IS TOLD OF A SLICE OF INTEGERS THAT CAME IN: it is nil; or it leads to a row of 'cap' cells, the numbers 'zs' (the first 'len' are its elements, the rest its spare room), each fitting its kind. -/
def IsRow (k : IntKind) (w : World) (a : Option Addr) (len cap : Nat) (zs : List Int) : Prop :=
  (a = none ∧ len = 0 ∧ cap = 0 ∧ zs = []) ∨
  ∃ x, a = some x ∧ len ≤ cap ∧ cap ≤ maxLen ∧ zs.length = cap ∧ (∀ i, i < zs.length → w.cell? (x.add i) = some (.int k (zs.getD i 0))) ∧ ∀ n ∈ zs, (Lit.int k n).wf = true

theorem isB_of {w : World} {a : Option Addr} {len cap : Nat} {zs : List Int} (h : IsRow .u8 w a len cap zs) : IsB w (.slice a len cap) (zs.take len) ∧ (zs.take len).length = len ∧ len ≤ cap := by
  rcases h with ⟨rfl, rfl, rfl, rfl⟩ | ⟨x, rfl, hl, hm, hz, hc, hw⟩
  · exact ⟨IsB.nil w, rfl, Nat.le_refl _⟩
  · have e : (zs.take len).length = len := by simp; omega
    refine ⟨⟨_, cap, by rw [e], by omega, by simp, fun y hy j hj => ?_, fun z hz => ?_⟩, e, hl⟩
    · simp only [Option.some.injEq] at hy
      subst hy
      rw [hc j (by omega), List.getElem?_take_of_lt (by omega)]
      rfl
    · have := hw z (List.mem_of_mem_take hz)
      exact bounds_u8 this

/-- What is left of a slice that is cut to at most m bytes. -/
theorem cut_to {w : World} {a : Option Addr} {len cap : Nat} {zs : List Int} (h : IsRow .u8 w a len cap zs) (m : Nat) (hm : m ≤ len) : ∃ bs, IsB w (.slice a m cap) bs ∧ bs.length = m := by
  obtain ⟨h1, h2, h3⟩ := isB_of h
  exact ⟨_, h1.take m hm, by simp only [List.length_take, h2]; omega⟩

/-- The same, the length named: as the walk reckons it. -/
theorem cut_min {w : World} {a : Option Addr} {len cap : Nat} {zs : List Int} (h : IsRow .u8 w a len cap zs) (k : Nat) (K : Int) (hK : K = (k : Int)) :
    ∃ (m : Nat) (bs : List Int), (∀ (ts : Array TypeId) (t : TypeId) (w : World), (Builtin.min_ ts t #[.int .i64 (len : Int), .int .i64 K]).run Try.prog w = .ok (.int .i64 (m : Int)) w) ∧ IsB w (.slice a m cap) bs ∧ bs.length = m ∧ m ≤ len ∧ m ≤ k ∧ m ≤ cap := by
  obtain ⟨h1, h2, h3⟩ := isB_of h
  refine ⟨min len k, _, fun ts t w => ?_, h1.take (min len k) (by omega), by simp only [List.length_take, h2]; omega, by omega, by omega, by omega⟩
  rw [run_min_int2, hK]
  congr 2
  split <;> omega


/-! ### The walk -/
set_option maxHeartbeats 2000000 in
theorem walk (a0 : Option Addr) (len0 cap0 : Nat) (z0 : List Int) (a1 : Int) (a2 : Int) (a3 : Int) (w : World) (w0 : IsRow .u8 w a0 len0 cap0 z0) (w1 : (Lit.int .i64 a1).wf = true) (w2 : (Lit.int .u64 a2).wf = true) (w3 : (Lit.int .i64 a3).wf = true) :
    Calls Try.prog 3 #[.slice a0 len0 cap0, .int .i64 a1, .int .u64 a2, .int .i64 a3] w fun e w' => e = .returned (.bool true) ∧ Below w.heap.size w w' := by
  obtain ⟨hn0, hn1⟩ := bounds_u64 w2
  obtain ⟨p, bs, hm0, hI, hL, hp1, hp2, hlc0⟩ := cut_min w0 100 100 rfl
  have hbl : bs.length ≤ 100 := by omega
  have HL := hide hL
  clear w0 w1 w2 w3 hL
  have hmk := make200
  obtain ⟨nn, hnn⟩ : ∃ nn, bits .xor .u64 IntKind.u64.max a2 = nn := ⟨_, rfl⟩
  have hnr := not_u64 a2 hn0 (by omega)
  rw [hnn] at hnr
  obtain ⟨hnn0, hnn1⟩ := hnr
  obtain ⟨xs, hxs⟩ : ∃ xs, xs = bs ++ putB (min a1 8).toNat a2 := ⟨_, rfl⟩
  obtain ⟨ys, hys⟩ : ∃ ys, ys = bs ++ putB (min a1 8).toNat nn := ⟨_, rfl⟩
  have PX := hide fun v w h => put_any v bs a1 a2 w h (by omega) hn0 (by omega)
  have PY := hide fun v w h => put_any v bs a1 nn w h (by omega) hnn0 hnn1
  have QX := hide fun v w h => refPut_any v bs a1 a2 w h (by omega) hn0 (by omega)
  have QY := hide fun v w h => refPut_any v bs a1 nn w h (by omega) hnn0 hnn1
  rw [← hxs] at PX QX
  rw [← hys] at PY QY
  obtain ⟨sx, hsx⟩ : ∃ s, s = strOfNums xs := ⟨_, rfl⟩
  obtain ⟨sy, hsy⟩ : ∃ s, s = strOfNums ys := ⟨_, rfl⟩
  obtain ⟨sb, hsb⟩ : ∃ s, s = strOfNums bs := ⟨_, rfl⟩
  have SX := hide hsx
  have SY := hide hsy
  have SB := hide hsb
  obtain ⟨m, ok, hg1, hg2⟩ := gets_same bs (by omega) a3 a1
  have GX := hide hg1
  have GY := hide hg2
  clear hxs hys hsx hsy hsb hg1 hg2
  have hp0 : (0 : Int) ≤ (p : Int) := by omega
  have hpc : (p : Int) ≤ (cap0 : Int) := by omega
  go_enter Try.func3, Try.ntmps3
  go_wp2_with fail
  refine (shown_any _).mono ?_
  rintro e w1 ⟨rfl, B1⟩
  have HB1 := hide B1
  have HI1 := hide (hI.below B1)
  clear B1 hI
  go_wp2
  go_region_held_law (fun _ => True) (trivial) ((refine step_appendB _ ?_ (.tmp 18) (.tmp 23) ?_ w1.heap.size w1.heap.size 200 [] bs (.slice a0 p cap0) ?_ ?_ ?_ ?_ ?_ ?_ ?_; rfl; rfl; rfl; exact own200 w1.drew _ (Nat.le_refl _); rfl; exact HI1.out.below ((Below.refl _ w1).drew.alloc (Nat.le_refl _) _); (simp; omega); simp; intro g2 cap2 w2 o2 b2))
  all_goals
    have o3 : OwnB w1.heap.size w2 g2 cap2 bs := by simpa using o2
    have b3 : Below w1.heap.size w1 w2 := ⟨b2.os, b2.tape, b2.output, Nat.le_trans (by simp) b2.size, fun k hk => (b2.block k hk).trans (Below.heap_alloc w1 _ k hk)⟩
    have B2 := hide (below_then HB1.out b3)
    have c2 := conv_isB o3.isB
    rw [← SB.out] at c2
    have O2 := hide o3
    clear o2 b2 o3 b3 hm0 hmk HI1
    go_wp2_with fail
    refine (PX.out _ w2 O2.out.isB).mono ?_
    rintro e w3 ⟨g3, cap3, rfl, o3, b3⟩
    have B3 := hide (below_then B2.out b3)
    have O23 := hide (O2.out.below b3)
    have O3 := hide o3
    clear o3 b3 c2
    go_wp2_with fail
    refine (PY.out _ w3 O23.out.isB).mono ?_
    rintro e w4 ⟨g4, cap4, rfl, o4, b4⟩
    have B4 := hide (below_then B3.out b4)
    have O24 := hide (O23.out.below b4)
    have O34 := hide (O3.out.below b4)
    have O4 := hide o4
    clear o4 b4
    go_wp2_with fail
    refine (GX.out _ w4 O24.out.isB).mono ?_
    rintro e w5 ⟨rfl, b5⟩
    have B5 := hide (below_then B4.out b5)
    have O25 := hide (O24.out.below b5)
    have O35 := hide (O34.out.below b5)
    have O45 := hide (O4.out.below b5)
    clear b5
    go_wp2_with fail
    refine (GY.out _ w5 O25.out.isB).mono ?_
    rintro e w6 ⟨rfl, b6⟩
    have B6 := hide (below_then B5.out b6)
    have O26 := hide (O25.out.below b6)
    have O36 := hide (O35.out.below b6)
    have O46 := hide (O45.out.below b6)
    clear b6 PX PY GX GY B2 O2 B3 O23 O3 B4 O24 O34 O4 B5 O25 O35 O45
    have c6 := conv_isB (w := w6.drew) O26.out.isB
    have d6 := conv_isB (w := w6.drew) O36.out.isB
    have e6 := conv_isB (w := w6.drew) O46.out.isB
    rw [← SB.out] at c6
    rw [← SX.out] at d6
    rw [← SY.out] at e6
    go_wp2
    go_region_held (fun w' => (convert 22 9 (.slice (some ⟨g2, 0, none⟩) bs.length cap2)).run Try.prog w' = .ok (.string sb) w' ∧ (convert 22 9 (.slice (some ⟨g3, 0, none⟩) xs.length cap3)).run Try.prog w' = .ok (.string sx) w' ∧ (convert 22 9 (.slice (some ⟨g4, 0, none⟩) ys.length cap4)).run Try.prog w' = .ok (.string sy) w') (exact ⟨by assumption, by assumption, by assumption⟩) (first | (go_at_call_of 16 (Value.int .u64 a2); refine (QX.out _ w6.drew O26.out.isB).mono ?_; rintro e w7 ⟨g7, cap7, rfl, o7, b7⟩; have b7' := below_undrew b7; have B7 := hide (below_then B6.out b7'); have O27 := hide (O26.out.below b7'); have O37 := hide (O36.out.below b7'); have O47 := hide (O46.out.below b7'); have O7 := hide o7; have c7 := conv_isB O27.out.isB; have d7 := conv_isB O37.out.isB; have e7 := conv_isB O47.out.isB; have f7 := conv_isB O7.out.isB; rw [← SB.out] at c7; rw [← SX.out] at d7 f7; rw [← SY.out] at e7; clear o7 b7 b7') | (go_at_call_of 16 (Value.int .u64 nn); refine (QY.out _ w7 O27.out.isB).mono ?_; rintro e w8 ⟨g8, cap8, rfl, o8, b8⟩; have B8 := hide (below_then B7.out b8); have c8 := conv_isB (O27.out.below b8).isB; have d8 := conv_isB (O37.out.below b8).isB; have e8 := conv_isB (O47.out.below b8).isB; have f8 := conv_isB (O7.out.below b8).isB; have g8' := conv_isB o8.isB; rw [← SB.out] at c8; rw [← SX.out] at d8 f8; rw [← SY.out] at e8 g8'; clear o8 b8))
    all_goals go_wp2
    all_goals go_ret
    all_goals exact ⟨rfl, B8.out⟩

/-! ### THE ROW's STEP: WRITTEN OUT: LEAVE IT -/
set_option maxRecDepth 100000 in
theorem lifted (os : Os) (started : os.Started) (H : Type) (enc : TypeId × Value → H) :
    ReturnsInHanded {} Try.checked os 3 .any (Rows.octetsPutsSpec.pre6 enc Try.prog Try.f3 Rows.octetsPutsRow.domain false) (Rows.octetsPutsSpec.post enc Try.prog Try.f3 false true false false) := by
  refine returnsInHanded_of_change (C := Try.checked) own started (by kernel_rfl) Try.func3
    (ChangeSpec.witness6 (enc := enc) (C := Try.checked) false ⟨#[], #[.slice none 0 0, .int .i64 0, .int .u64 0, .int .i64 0], []⟩ 8 (by kernel_rfl) (by kernel_rfl) (by kernel_rfl) (by kernel_rfl)) ?_
  intro W base args ds gs before hval0 hW hcnd _
  have hval : ∀ (j : Nat) t v, Try.f3.params[j]? = some t → args[j]? = some v → Value.okWide Try.prog W .any base t v := hval0
  have hW' := hW
  obtain ⟨p, q, hA0, hV, rfl, hfz, hnd⟩ := hW
  have hA : DataW.TrodAll enc Try.prog W 0 (fun _ => true) true Try.f3.params.toList args.toList ds p := hA0
  rw [Try.params3] at hA hval
  obtain ⟨v0, vs0, d0, ds0, p0, q0, hargs, rfl, rfl, h0, r0⟩ := trodAll_cons hA
  obtain ⟨v1, vs1, d1, ds1, p1, q1, rfl, rfl, rfl, h1, r1⟩ := trodAll_cons r0
  obtain ⟨v2, vs2, d2, ds2, p2, q2, rfl, rfl, rfl, h2, r2⟩ := trodAll_cons r1
  obtain ⟨v3, vs3, d3, ds3, p3, q3, rfl, rfl, rfl, h3, r3⟩ := trodAll_cons r2
  obtain ⟨rfl, rfl, rfl⟩ := trodAll_nil r3
  obtain rfl : args = #[v0, v1, v2, v3] := by cases args; simp_all
  obtain ⟨rfl, rfl⟩ := trodVars_none hV
  obtain ⟨a0, len0, cap0, rfl⟩ := okWide_slice Try.underlying22 (hval 0 22 v0 rfl rfl)
  have k0 := h0
  have lt0 : ∀ x ∈ p0, x.block < W.heap.size := by obtain ⟨m, hm⟩ := k0; exact DataW.trod_lt m _ _ _ hm
  obtain ⟨z0, w0⟩ : ∃ zs, IsRow .u8 W a0 len0 cap0 zs := by
    obtain ⟨fuel, hf⟩ := h0
    rcases open_ints Try.underlying22 Try.underlying5 (by kernel_rfl) hf with ⟨hcs, _⟩ | ⟨x, l, c, zs, hcs, _, hl, hm, hz, _, hcell, hwz⟩
    · simp [Value.cells] at hcs
      obtain ⟨rfl, rfl, rfl⟩ := hcs
      exact ⟨[], .inl ⟨rfl, rfl, rfl, rfl⟩⟩
    · simp [Value.cells] at hcs
      obtain ⟨rfl, rfl, rfl⟩ := hcs
      exact ⟨zs, .inr ⟨_, rfl, hl, hm, by simpa using hz, hcell, hwz⟩⟩
  obtain ⟨a1, rfl, rfl, rfl, w1⟩ := open_int Try.underlying3 (hval 1 3 v1 rfl rfl) h1
  obtain ⟨a2, rfl, rfl, rfl, w2⟩ := open_int Try.underlying23 (hval 2 23 v2 rfl rfl) h2
  obtain ⟨a3, rfl, rfl, rfl, w3⟩ := open_int Try.underlying3 (hval 3 3 v3 rfl rfl) h3
  clear hA0 hval0
  refine (walk a0 len0 cap0 z0 a1 a2 a3 W w0 w1 w2 w3).mono fun e W' ⟨he, bel⟩ => ?_
  subst he
  exact ⟨_, rfl, _, _, _, [], _, [], hW', trodAll_mk1 (shut_bool Try.underlying4 _), (trodAll_cons_mk (Below.trod laidOut (by kernel_rfl) (of_decide_eq_true (by kernel_rfl)) k0 bel lt0) (trodAll_cons_mk (shut_int Try.underlying3 w1) (trodAll_cons_mk (shut_int Try.underlying23 w2) (trodAll_cons_mk (shut_int Try.underlying3 w3) trodAll_mk0)))), rfl, bel.frame _, fun h => by cases h⟩

theorem over : Rows.octetsPutsRow.holds Try.pinned (OpenSpec.ofChange Rows.octetsPutsSpec) :=
  OpenClaim.holds_of_wide 3 Try.f3 rfl rfl rfl rfl rfl rfl rfl ⟨rfl, rfl, rfl, rfl, rfl⟩ rfl rfl rfl rfl rfl (by kernel_rfl) Try.func3 (by kernel_rfl)
    (of_decide_eq_true (by kernel_rfl)) (by unfold Func.isWrapper; first | (rw [if_pos (by decide +kernel)]; kernel_rfl) | (rw [if_neg (by decide +kernel)]; exact ⟨rfl, rfl⟩))
    (fun os started H enc _ => lifted os started H enc)

/-- ████ THE STATEMENT ████ -/
theorem proved : Rows.OctetsPutsSaid := over
#print axioms proved
end Go.Proofs.Ytoneaaafdgllbaa.octetsPuts
