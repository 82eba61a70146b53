/-
  Proved: for every two slices of slices of bytes, BlockJoins returns true and leaves them as they were (the blocks of two rows of texts are those of the one, and those of the other one behind). No condition.
-/
import Derived.WalkKit
import Derived.ProofKit
import Derived.OpenShut
import Derived.ShutString
import Derived.Deep.RegionHeld
import Derived.Test.YtjnmggbkclnbkaaBRow2
namespace Go.Proofs.Ytjnmggbkclnbkaa.blockJoins
open Go.ChangeShapes Go.WideShapes Go.ChangeAt Go.RowKit
open Go.ChangeMaps (open_string shut_string)
set_option linter.unusedVariables false

theorem own : ownKnob Try.prog.godebug = none := by kernel_rfl
theorem laidOut : laidOutB Try.prog = true := by kernel_rfl

theorem joinR_len (l : List (List Int)) (h : l.length ≤ 20) : (joinR l).1.length ≤ 1006 * 20 := by
  unfold joinR
  split
  · rename_i hk
    have := joinB_length_le l hk
    dsimp only
    omega
  · simp

theorem strOfNums_size (l : List Int) : (strOfNums l).size = l.length := by
  unfold strOfNums
  simp [ByteArray.size]

theorem joins_facts (a c : List (List Int)) : ((joinR a).2 = 0 ∧ (joinR c).2 = 0 ∧ (joinR (a ++ c)).2 = 0 ∧ (joinR (a ++ c)).1 = (joinR a).1 ++ (joinR c).1) ∨ ((joinR a).2 = 0 ∧ (joinR c).2 = 1 ∧ (joinR (a ++ c)).2 = 1 ∧ (joinR (a ++ c)).1 = []) ∨ ((joinR a).2 = 1 ∧ (joinR (a ++ c)).2 = 1 ∧ (joinR (a ++ c)).1 = []) := by
  unfold joinR
  rw [okL_append]
  cases h1 : okL a <;> cases h2 : okL c <;> simp [joinB_append]


/-! ### The walk -/
set_option maxRecDepth 100000 in
set_option maxHeartbeats 4000000 in
theorem walk (a0 : Option Addr) (len0 cap0 : Nat) (bs0 : List (List Int)) (a1 : Option Addr) (len1 cap1 : Nat) (bs1 : List (List Int)) (w : World) (i0 : IsBB w (.slice a0 len0 cap0) bs0) (l0 : bs0.length = len0) (c0 : len0 ≤ cap0) (m0 : cap0 ≤ maxLen) (i1 : IsBB w (.slice a1 len1 cap1) bs1) (l1 : bs1.length = len1) (c1 : len1 ≤ cap1) (m1 : cap1 ≤ maxLen) :
    Calls Try.prog 9 #[.slice a0 len0 cap0, .slice a1 len1 cap1] w fun e w' => e = .returned (.bool true) ∧ Below w.heap.size w w' := by
  subst l0 l1
  obtain ⟨xa, has⟩ : ∃ xa, xa = fewT bs0 := ⟨_, rfl⟩
  obtain ⟨xc, hcs⟩ : ∃ xc, xc = fewT bs1 := ⟨_, rfl⟩
  have hal : xa.length ≤ 20 := by rw [has]; exact fewT_len _
  have hcl : xc.length ≤ 20 := by rw [hcs]; exact fewT_len _
  have hae : ∀ t ∈ xa, t.length ≤ 70368744177664 := fun t ht => by rw [has] at ht; have := fewT_each _ t ht; omega
  have hce : ∀ t ∈ xc, t.length ≤ 70368744177664 := fun t ht => by rw [hcs] at ht; have := fewT_each _ t ht; omega
  have hae2 : ∀ t ∈ xa ++ xc, t.length ≤ 70368744177664 := fun t ht => by
    rcases List.mem_append.1 ht with h | h
    · exact hae t h
    · exact hce t h
  have JA := hide fun v w h => join_any v xa w h (by omega) hae
  have JC := hide fun v w h => join_any v xc w h (by omega) hce
  have JZ := hide fun v w h => join_any v (xa ++ xc) w h (by simp; omega) hae2
  have hfac := joins_facts xa xc
  have hjal : (joinR xa).1.length ≤ 1006 * 20 := joinR_len xa hal
  have hjcl : (joinR xc).1.length ≤ 1006 * 20 := joinR_len xc hcl
  generalize joinR xa = RA at JA hfac hjal
  generalize joinR xc = RC at JC hfac hjcl
  generalize joinR (xa ++ xc) = RZ at JZ hfac
  obtain ⟨ja, ea⟩ := RA
  obtain ⟨jc, ec⟩ := RC
  obtain ⟨jz, ez⟩ := RZ
  dsimp only at hfac hjal hjcl
  have HFAC := hide hfac
  have FA := hide fun w h => few_any (.slice a0 bs0.length cap0) bs0 w h
  have FC := hide fun w h => few_any (.slice a1 bs1.length cap1) bs1 w h
  rw [← has] at FA
  rw [← hcs] at FC
  have HI := hide i0
  have HJ := hide i1
  clear i0 i1 has hcs hae hce hae2 hfac
  go_enter Try.func9, Try.ntmps9
  go_wp2_with fail
  refine (shown_any _).mono ?_
  rintro e w1 ⟨rfl, B1⟩
  have I1 := hide (HI.out.below B1)
  have J1 := hide (HJ.out.below B1)
  have HB1 := hide B1
  clear B1
  go_wp2_with fail
  refine (FA.out w1 I1.out (by unfold maxLen at m0; omega)).mono ?_
  rintro e w2 ⟨v2, rfl, r2, b2, f2⟩
  obtain ⟨a2, cap2, rfl⟩ := r2.slice
  have B2 := hide (below_then HB1.out b2)
  have J2 := hide (J1.out.below b2)
  have R2 := hide r2
  clear b2 f2 r2
  go_wp2_with fail
  refine (FC.out w2 J2.out (by unfold maxLen at m1; omega)).mono ?_
  rintro e w3 ⟨v3, rfl, r3, b3, f3⟩
  obtain ⟨a3, cap3, rfl⟩ := r3.slice
  have B3 := hide (below_then B2.out b3)
  have R23 := hide (R2.out.below b3)
  have R3 := hide r3
  clear b3 f3 r3
  go_wp2_with fail
  refine (JA.out _ w3 R23.out.isBB).mono ?_
  rintro e w4 ⟨v4, rfl, r4, b4, _⟩
  dsimp only at r4 ⊢
  obtain ⟨a4, cap4, rfl, _⟩ := r4.isB.form
  have B4 := hide (below_then B3.out b4)
  have R24 := hide (R23.out.below b4)
  have R34 := hide (R3.out.below b4)
  have X4 := hide r4
  clear r4 b4
  go_wp2_with fail
  refine (JC.out _ w4 R34.out.isBB).mono ?_
  rintro e w5 ⟨v5, rfl, r5, b5, _⟩
  dsimp only at r5 ⊢
  obtain ⟨a5, cap5, rfl, _⟩ := r5.isB.form
  have B5 := hide (below_then B4.out b5)
  have R25 := hide (R24.out.below b5)
  have R35 := hide (R34.out.below b5)
  have X5 := hide (X4.out.kept (Kept.of_below (fp := []) b5) (by simp))
  have Y5 := hide r5
  have ba := (Below.refl _ w5).alloc (Nat.le_refl _) (.cells #[] 25)
  have BA := hide ba
  have E5 := hide (RowT.empty w5)
  have F5 : Hid (∀ x ∈ Ytjnmggbkclnbkaa.own (.slice (some ⟨w5.heap.size, 0, none⟩) 0 0), w5.heap.size ≤ x) := by simp [Hid, Value.ownBlock]
  clear r5 b5 ba
  go_wp2_with (at_builtin; first | (refine wp_appendT w5 _ rfl _ _ rfl (.slice (some ⟨w5.heap.size, 0, none⟩) 0 0) (.slice a2 xa.length cap2) [] xa rfl E5.out rfl R25.out.isBB BA.out F5.out (by simp; omega) ?_; intro v6 w6 r6 k6 n6; rw [List.nil_append] at r6; have k6' := BA.out.trans (k6.below (by simp) F5.out); have f6 : ∀ x ∈ Ytjnmggbkclnbkaa.own v6, w5.heap.size ≤ x := (fun x hx => by rcases n6 x hx with h | h; exact F5.out x h; simp at h; omega)) | (refine wp_appendT w5 _ rfl _ _ rfl v6 (.slice a3 xc.length cap3) xa xc rfl r6 rfl R35.out.isBB k6' f6 (by omega) ?_; intro v7 w7 r7 k7 n7))
  have B67 := k6'.trans (k7.below k6'.size f6)
  have B7 := hide (below_then B5.out B67)
  refine (JZ.out _ w7 r7.isBB).mono ?_
  rintro e w8 ⟨v8, rfl, r8, b8, _⟩
  dsimp only at r8 ⊢
  obtain ⟨a8, cap8, rfl, _⟩ := r8.isB.form
  have B8 := hide (below_then B7.out b8)
  have x8 := conv_isB ((X5.out.isB.below B67).below b8)
  have y8 := conv_isB ((Y5.out.isB.below B67).below b8)
  have z8 := conv_isB r8.isB
  clear E5 BA F5 R25 R35 X5 Y5 B67 b8 r8 r7 k7 n7 r6 k6 n6 k6' f6
  rcases HFAC.out with ⟨rfl, rfl, rfl, hjz⟩ | ⟨rfl, rfl, rfl, rfl⟩ | ⟨rfl, rfl, rfl⟩
  · rw [hjz, strOfNums_append, ← hjz] at z8
    obtain ⟨sx, hsx⟩ : ∃ s, s = strOfNums ja := ⟨_, rfl⟩
    obtain ⟨sy, hsy⟩ : ∃ s, s = strOfNums jc := ⟨_, rfl⟩
    rw [← hsx, ← hsy] at z8
    rw [← hsx] at x8
    rw [← hsy] at y8
    have hx9 : sx.size ≤ 1006 * 20 := by rw [hsx, strOfNums_size]; exact hjal
    have hy9 : sy.size ≤ 1006 * 20 := by rw [hsy, strOfNums_size]; exact hjcl
    clear hjz hsx hsy
    go_wp2
    go_ret
    exact ⟨rfl, B8.out⟩
  · go_wp2
    go_ret
    exact ⟨rfl, B8.out⟩
  · go_wp2
    go_ret
    exact ⟨rfl, B8.out⟩

/-! ### The row's step -/
set_option maxRecDepth 100000 in
theorem lifted (os : Os) (started : os.Started) (H : Type) (enc : TypeId × Value → H) :
    ReturnsInHanded {} Try.checked os 9 .any (Rows.blockJoinsSpec.pre6 enc Try.prog Try.f9 Rows.blockJoinsRow.domain false) (Rows.blockJoinsSpec.post enc Try.prog Try.f9 false true false false) := by
  refine returnsInHanded_of_change (C := Try.checked) own started (by kernel_rfl) Try.func9
    (ChangeSpec.witness6 (enc := enc) (C := Try.checked) false ⟨#[], #[.slice none 0 0, .slice none 0 0], []⟩ 8 (by kernel_rfl) (by kernel_rfl) (by kernel_rfl) (by kernel_rfl)) ?_
  intro W base args ds gs before hval0 hW hcnd _
  have hval : ∀ (j : Nat) t v, Try.f9.params[j]? = some t → args[j]? = some v → Value.okWide Try.prog W .any base t v := hval0
  have hW' := hW
  obtain ⟨p, q, hA0, hV, rfl, hfz, hnd⟩ := hW
  have hA : DataW.TrodAll enc Try.prog W 0 (fun _ => true) true Try.f9.params.toList args.toList ds p := hA0
  rw [Try.params9] at hA hval
  obtain ⟨v0, vs0, d0, ds0, p0, q0, hargs, rfl, rfl, h0, r0⟩ := trodAll_cons hA
  obtain ⟨v1, vs1, d1, ds1, p1, q1, rfl, rfl, rfl, h1, r1⟩ := trodAll_cons r0
  obtain ⟨rfl, rfl, rfl⟩ := trodAll_nil r1
  obtain rfl : args = #[v0, v1] := by cases args; simp_all
  obtain ⟨rfl, rfl⟩ := trodVars_none hV
  obtain ⟨a0, len0, cap0, rfl⟩ := okWide_slice Try.underlying22 (hval 0 22 v0 rfl rfl)
  have k0 := h0
  have lt0 : ∀ x ∈ p0, x.block < W.heap.size := by obtain ⟨m, hm⟩ := k0; exact DataW.trod_lt m _ _ _ hm
  obtain ⟨bs0, i0, l0, c0, m0⟩ : ∃ bs, IsBB W (.slice a0 len0 cap0) bs ∧ bs.length = len0 ∧ len0 ≤ cap0 ∧ cap0 ≤ maxLen := by
    obtain ⟨fuel, hf⟩ := h0
    rcases open_byterows hf with hcs | ⟨x, l, c, bs, hcs, e1, e2, e3, e4⟩
    · simp [Value.cells] at hcs
      obtain ⟨rfl, rfl, rfl⟩ := hcs
      exact ⟨[], IsBB.nil W, rfl, Nat.le_refl _, Nat.zero_le _⟩
    · simp [Value.cells] at hcs
      obtain ⟨rfl, rfl, rfl⟩ := hcs
      exact ⟨bs, e4, e1, e2, e3⟩
  obtain ⟨a1, len1, cap1, rfl⟩ := okWide_slice Try.underlying22 (hval 1 22 v1 rfl rfl)
  have k1 := h1
  have lt1 : ∀ x ∈ p1, x.block < W.heap.size := by obtain ⟨m, hm⟩ := k1; exact DataW.trod_lt m _ _ _ hm
  obtain ⟨bs1, i1, l1, c1, m1⟩ : ∃ bs, IsBB W (.slice a1 len1 cap1) bs ∧ bs.length = len1 ∧ len1 ≤ cap1 ∧ cap1 ≤ maxLen := by
    obtain ⟨fuel, hf⟩ := h1
    rcases open_byterows hf with hcs | ⟨x, l, c, bs, hcs, e1, e2, e3, e4⟩
    · simp [Value.cells] at hcs
      obtain ⟨rfl, rfl, rfl⟩ := hcs
      exact ⟨[], IsBB.nil W, rfl, Nat.le_refl _, Nat.zero_le _⟩
    · simp [Value.cells] at hcs
      obtain ⟨rfl, rfl, rfl⟩ := hcs
      exact ⟨bs, e4, e1, e2, e3⟩
  clear hA0 hval0
  refine (walk a0 len0 cap0 bs0 a1 len1 cap1 bs1 W i0 l0 c0 m0 i1 l1 c1 m1).mono fun e W' ⟨he, bel⟩ => ?_
  subst he
  exact ⟨_, rfl, _, _, _, [], _, [], hW', trodAll_mk1 (shut_bool Try.underlying4 _), (trodAll_cons_mk (Below.trod laidOut (by kernel_rfl) (of_decide_eq_true (by kernel_rfl)) k0 bel lt0) (trodAll_cons_mk (Below.trod laidOut (by kernel_rfl) (of_decide_eq_true (by kernel_rfl)) k1 bel lt1) trodAll_mk0)), rfl, bel.frame _, fun h => by cases h⟩

theorem over : Rows.blockJoinsRow.holds Try.pinned (OpenSpec.ofChange Rows.blockJoinsSpec) :=
  OpenClaim.holds_of_wide 9 Try.f9 rfl rfl rfl rfl rfl rfl rfl ⟨rfl, rfl, rfl, rfl, rfl⟩ rfl rfl rfl rfl rfl (by kernel_rfl) Try.func9 (by kernel_rfl)
    (of_decide_eq_true (by kernel_rfl)) (by unfold Func.isWrapper; first | (rw [if_pos (by decide +kernel)]; kernel_rfl) | (rw [if_neg (by decide +kernel)]; exact ⟨rfl, rfl⟩))
    (fun os started H enc _ => lifted os started H enc)

/-- The statement. -/
theorem proved : Rows.BlockJoinsSaid := over
#print axioms proved
end Go.Proofs.Ytjnmggbkclnbkaa.blockJoins
