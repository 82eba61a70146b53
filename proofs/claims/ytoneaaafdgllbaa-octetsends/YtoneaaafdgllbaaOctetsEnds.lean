/-
  Proved: for every number of 64 bits and every place, OctetsEnds returns true (a number by digits that ends too early, or has more of them than it must, is none). No condition.
-/
import Derived.Test.YtoneaaafdgllbaaNil
import Derived.WalkKit
import Derived.ProofKit
import Derived.OpenShut
import Derived.ShutString
namespace Go.Proofs.Ytoneaaafdgllbaa.octetsEnds
open Go.ChangeShapes Go.WideShapes Go.ChangeAt Go.RowKit
open Go.ChangeMaps (open_string shut_string)
set_option linter.unusedVariables false      -- a walk need not use every 'w<i>' (that an integer argument fits its kind)

theorem own : ownKnob Try.prog.godebug = none := by kernel_rfl


/-! ### The walk -/
set_option maxHeartbeats 1000000 in
theorem walk (a0 : Int) (a1 : Int) (w0 : (Lit.int .u64 a0).wf = true) (w1 : (Lit.int .i64 a1).wf = true) (w : World) :
    Calls Try.prog 11 #[.int .u64 a0, .int .i64 a1] w fun e w' => e = .returned (.bool true) ∧ Below w.heap.size w w' := by
  obtain ⟨ha0, ha1⟩ := bounds_u64 w0
  obtain ⟨hp0, hp1⟩ := bounds_i64 w1
  obtain ⟨xs, hxs⟩ : ∃ xs, xs = varB 9 a0 := ⟨_, rfl⟩
  have hlx := varB_length 9 a0
  rw [← hxs] at hlx
  have PX := hide (putVar_nil a0 xs hxs)
  have G1 : ∀ k, k < xs.length → Hid (gv (xs.take k) = (0, 0, false)) := fun k hk => by rw [hxs] at hk ⊢; exact gv_cut a0 ha0 k hk
  have G2 : ∀ z, 128 ≤ z → Hid (gv (xs.set (xs.length - 1) z ++ [0]) = (0, 0, false)) := fun z hz => by rw [hxs]; exact gv_zero a0 ha0 z hz
  clear hxs w0 w1
  obtain ⟨hlx1, hlx2⟩ := hlx
  obtain ⟨k, hk, hkx⟩ : ∃ k : Nat, (bits .and .i64 a1 65535).tmod xs.length = (k : Int) ∧ k < xs.length := by
    refine ⟨((a1 % 65536).tmod xs.length).toNat, ?_, ?_⟩
    · rw [i64_and65535]
      have := Int.tmod_nonneg (xs.length : Int) (show 0 ≤ a1 % 65536 by omega)
      omega
    · have h1 := Int.tmod_nonneg (xs.length : Int) (show 0 ≤ a1 % 65536 by omega)
      have h2 := Int.tmod_lt_of_pos (a1 % 65536) (show (0 : Int) < xs.length by omega)
      omega
  have hne : ((xs.length : Int) == 0) = false := by rw [beq_eq_false_iff_ne]; omega
  go_enter Try.func11, Try.ntmps11
  go_wp2_with fail
  refine (shown_any _).mono ?_
  rintro e w1 ⟨rfl, B1⟩
  go_wp2_with fail
  refine (PX.out w1 ha0 (by omega)).mono ?_
  rintro e w2 ⟨g2, cap2, rfl, o2, b2⟩
  have B2 := below_then B1 b2
  clear B1 b2
  have hc2 := o2.len_le
  go_wp2_with fail
  have hV := getVar_any (.slice (some ⟨g2, 0, none⟩) k cap2) (xs.take k) _ (o2.isB.take k (by omega)) (by simp; omega)
  rw [(G1 k hkx).out] at hV
  refine hV.mono ?_
  clear hV
  rintro e w3 ⟨rfl, b3⟩
  have B3 := below_then B2 b3
  have o3 := o2.below b3
  clear B2 b3 o2
  go_wp2_with (first
    | (at_builtin; refine wp_appendB _ rfl (.tmp 33) (.tmp 34) rfl w3.heap.size w3.heap.size 0 [] xs _ rfl (OwnB.empty w3 _ (Nat.le_refl _)) rfl (o3.alloc _).isB (by simp; omega) (by simp) ?_; intro g4 cap4 w4 o4 b4; simp only [List.nil_append] at o4; have B4 : Below w.heap.size w w4 := (B3.alloc B3.size (.cells #[] 5)).trans (b4.mono B3.size); obtain ⟨z, hz⟩ : ∃ z, z = xs[xs.length - 1]?.getD 0 := ⟨_, rfl⟩; have hc4 := o4.cellAt (xs.length - 1) (by omega); have hf4 := o4.frozenAt (xs.length - 1); rw [← hz] at hc4; have hzb := o4.2 z (by rw [hz]; simp [show xs.length - 1 < xs.length by omega]); clear hz; have HO : Hid (bits .or .u8 z 128 = z % 128 + 128) := (by have := or_128 z hzb.1; rw [show z % 256 = z by omega] at this; exact this); have o5 := o4.stored (xs.length - 1) (bits .or .u8 z 128) (by rw [HO.out]; omega); have B5 := B4.setCell (p := ⟨g4, xs.length - 1, none⟩) (by have := o4.base; have := B3.size; show w.heap.size ≤ g4; omega) (.int .u8 (bits .or .u8 z 128)))
    | (at_builtin; refine wp_push (w4.setCell ⟨g4, xs.length - 1, none⟩ (.int .u8 (bits .or .u8 z 128))) rfl (.tmp 49) (.tmp 50) rfl w3.heap.size g4 cap4 (xs.set (xs.length - 1) (bits .or .u8 z 128)) 0 (by rw [List.length_set]; rfl) o5 (by rw [show ∀ p v, (w4.setCell p v).heap.size = w4.heap.size by simp [World.setCell]]; rfl) (by omega) (by simp; omega) (by have := o5.base; omega) ?_; intro g6 cap6 w6 o6 b6))
  have i6 := o6.isB
  rw [List.length_append, List.length_set, List.length_singleton] at i6
  have B6 : Below w.heap.size w w6 := B5.trans (b6.mono B3.size)
  have hV := getVar_any _ _ _ i6 (by simp; omega)
  rw [(G2 _ (by rw [HO.out]; omega)).out] at hV
  clear i6 o6 b6 o5 o4 b4 B4 B5
  refine hV.mono ?_
  clear hV
  rintro e w7 ⟨rfl, b7⟩
  have B7 := below_then B6 b7
  clear b7 B6 hc4 hf4
  go_wp2
  go_ret
  exact ⟨rfl, B7⟩

/-! ### THE ROW's STEP: WRITTEN OUT: LEAVE IT -/
set_option maxRecDepth 100000 in
theorem lifted (os : Os) (started : os.Started) (H : Type) (enc : TypeId × Value → H) :
    ReturnsInHanded {} Try.checked os 11 .any (Rows.octetsEndsSpec.pre6 enc Try.prog Try.f11 Rows.octetsEndsRow.domain false) (Rows.octetsEndsSpec.post enc Try.prog Try.f11 false true false false) := by
  refine returnsInHanded_of_change (C := Try.checked) own started (by kernel_rfl) Try.func11
    (ChangeSpec.witness6 (enc := enc) (C := Try.checked) false ⟨#[], #[.int .u64 0, .int .i64 0], []⟩ 8 (by kernel_rfl) (by kernel_rfl) (by kernel_rfl) (by kernel_rfl)) ?_
  intro W base args ds gs before hval0 hW hcnd _
  have hval : ∀ (j : Nat) t v, Try.f11.params[j]? = some t → args[j]? = some v → Value.okWide Try.prog W .any base t v := hval0
  have hW' := hW
  obtain ⟨p, q, hA0, hV, rfl, hfz, hnd⟩ := hW
  have hA : DataW.TrodAll enc Try.prog W 0 (fun _ => true) true Try.f11.params.toList args.toList ds p := hA0
  rw [Try.params11] at hA hval
  obtain ⟨v0, vs0, d0, ds0, p0, q0, hargs, rfl, rfl, h0, r0⟩ := trodAll_cons hA
  obtain ⟨v1, vs1, d1, ds1, p1, q1, rfl, rfl, rfl, h1, r1⟩ := trodAll_cons r0
  obtain ⟨rfl, rfl, rfl⟩ := trodAll_nil r1
  obtain rfl : args = #[v0, v1] := by cases args; simp_all
  obtain ⟨rfl, rfl⟩ := trodVars_none hV
  obtain ⟨a0, rfl, rfl, rfl, w0⟩ := open_int Try.underlying23 (hval 0 23 v0 rfl rfl) h0
  obtain ⟨a1, rfl, rfl, rfl, w1⟩ := open_int Try.underlying3 (hval 1 3 v1 rfl rfl) h1
  clear hA0 hval0
  simp only [List.append_nil] at hW'
  refine (walk a0 a1 w0 w1 W).mono fun e W' ⟨he, hg⟩ => ?_
  subst he
  exact ⟨_, rfl, _, _, _, [], [], [], hW', trodAll_mk1 (shut_bool Try.underlying4 _), (trodAll_cons_mk (shut_int Try.underlying23 w0) (trodAll_cons_mk (shut_int Try.underlying3 w1) trodAll_mk0)), rfl, hg.frame _, fun h => by cases h⟩

theorem over : Rows.octetsEndsRow.holds Try.pinned (OpenSpec.ofChange Rows.octetsEndsSpec) :=
  OpenClaim.holds_of_wide 11 Try.f11 rfl rfl rfl rfl rfl rfl rfl ⟨rfl, rfl, rfl, rfl, rfl⟩ rfl rfl rfl rfl rfl (by kernel_rfl) Try.func11 (by kernel_rfl)
    (of_decide_eq_true (by kernel_rfl)) (by unfold Func.isWrapper; first | (rw [if_pos (by decide +kernel)]; kernel_rfl) | (rw [if_neg (by decide +kernel)]; exact ⟨rfl, rfl⟩))
    (fun os started H enc _ => lifted os started H enc)

/-- ████ THE STATEMENT ████ -/
theorem proved : Rows.OctetsEndsSaid :=
  over
#print axioms proved
end Go.Proofs.Ytoneaaafdgllbaa.octetsEnds
