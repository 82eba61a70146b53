/-
  Proved: for every slice of slices of bytes, BlockBack returns true and leaves them as they were (what was told is read as it was). No condition.
-/
import Derived.WalkKit
import Derived.ProofKit
import Derived.OpenShut
import Derived.ShutString
import Derived.Deep.RegionHeld
import Derived.Test.YtjnmggbkclnbkaaBRow3
namespace Go.Proofs.Ytjnmggbkclnbkaa.blockBack
open Go.ChangeShapes Go.WideShapes Go.ChangeAt Go.RowKit
open Go.ChangeMaps (open_string shut_string)
set_option linter.unusedVariables false

theorem own : ownKnob Try.prog.godebug = none := by kernel_rfl
theorem laidOut : laidOutB Try.prog = true := by kernel_rfl


/-! ### The walk -/
set_option maxRecDepth 100000 in
set_option maxHeartbeats 4000000 in
theorem walk (a0 : Option Addr) (len0 cap0 : Nat) (bs0 : List (List Int)) (w : World) (i0 : IsBB w (.slice a0 len0 cap0) bs0) (l0 : bs0.length = len0) (c0 : len0 ≤ cap0) (m0 : cap0 ≤ maxLen) :
    Calls Try.prog 5 #[.slice a0 len0 cap0] w fun e w' => e = .returned (.bool true) ∧ Below w.heap.size w w' := by
  subst l0
  obtain ⟨xa, hxa⟩ : ∃ xa, xa = fewT bs0 := ⟨_, rfl⟩
  have hal : xa.length ≤ 20 := by rw [hxa]; exact fewT_len _
  have hab : ∀ t ∈ xa, ∀ z ∈ t, 0 ≤ z ∧ z ≤ 255 := by rw [hxa]; exact fewT_bytes _ i0.bytes
  have hae : ∀ t ∈ xa, t.length ≤ 1010 := fun t ht => by rw [hxa] at ht; exact fewT_each _ t ht
  have FA := hide fun w h => few_any (.slice a0 bs0.length cap0) bs0 w h
  rw [← hxa] at FA
  have HI := hide i0
  have HAB := hide hab
  have HAE := hide hae
  clear i0 hxa hab hae
  go_enter Try.func5, Try.ntmps5
  go_wp2_with fail
  refine (shown_any _).mono ?_
  rintro e w1 ⟨rfl, B1⟩
  have I1 := hide (HI.out.below B1)
  have HB1 := hide B1
  clear B1
  go_wp2_with fail
  refine (FA.out w1 I1.out (by unfold maxLen at m0; omega)).mono ?_
  rintro e w2 ⟨v2, rfl, r2, b2, f2⟩
  obtain ⟨a2, cap2, rfl⟩ := r2.slice
  have B2 := hide (below_then HB1.out b2)
  have R2 := hide r2
  have F2 : Hid (∀ x ∈ Ytjnmggbkclnbkaa.own (.slice a2 xa.length cap2), w.heap.size ≤ x) := fun x hx => Nat.le_trans HB1.out.size (f2 x hx)
  clear b2 f2 r2
  go_wp2
  go_loopw [4, 5] (fun s i wr => ∃ k : Nat, k ≤ xa.length ∧ i = .int .i64 k ∧ s = .int .i64 (sizeT k xa : Nat) ∧ Hid (RowT wr (.slice a2 xa.length cap2) (cutT k xa)) ∧ Hid (Below w.heap.size w wr)) (fun _ i _ => xa.length - (intOf i).toNat)
  case atStart => exact ⟨0, Nat.zero_le _, rfl, by rw [sizeT_zero]; rfl, by show RowT _ _ _; rw [cutT_zero]; exact R2.out, B2⟩
  case round =>
    obtain ⟨k, hk, rfl, rfl, HR, HB⟩ := hrel
    by_cases hlt : k < xa.length
    · have hcl := cutT_length k xa
      have hr := HR.out
      rw [← hcl] at hr
      obtain ⟨g, hga⟩ : ∃ g, a2 = some ⟨g, 0, none⟩ := by
        rcases HR.out.form with ⟨h, _⟩ | ⟨g, c, h⟩
        · simp only [Value.slice.injEq] at h
          omega
        · simp only [Value.slice.injEq] at h
          exact ⟨g, h.1⟩
      subst hga
      obtain ⟨hxc, hfz, ta, tc, hcell, ht, hd⟩ := hr.at k (by omega)
      have hat := cutT_at k xa hlt
      have hst := cutT_step k xa hlt
      have hsz := sizeT_step k xa hlt
      have htl : (xa[k]?.getD []).length ≤ 1010 := HAE.out _ (by simp [hlt])
      rw [hat] at hcell ht hd
      obtain ⟨t, hte⟩ : ∃ t, t = xa[k]?.getD [] := ⟨_, rfl⟩
      rw [← hte] at hcell ht hd hst hsz htl
      have hm := min_len t.length 1000 1000 rfl
      obtain ⟨m, hmm⟩ : ∃ m, m = min t.length 1000 := ⟨_, rfl⟩
      rw [← hmm] at hm hsz
      obtain ⟨_, _, he, htc, _⟩ := id ht
      simp only [Value.slice.injEq, true_and] at he
      obtain ⟨rfl, rfl⟩ := he
      have hmc : (m : Int) ≤ tc := by omega
      have hmt : m ≤ t.length := by omega
      have hm0 : (0 : Int) ≤ (m : Int) := by omega
      have hts : t.take 1000 = t.take m := by
        rw [hmm]
        by_cases h : t.length ≤ 1000
        · rw [Nat.min_eq_left h, List.take_of_length_le (Nat.le_refl _), List.take_of_length_le h]
        · rw [Nat.min_eq_right (by omega)]
      have hml : (t.take m).length = m := by simp; omega
      have rS := hr.stored k (by omega) (.slice ta m tc) (t.take m) (ht.take m hmt) (fun hne x hx => hd (fun e => hne (by rw [e]; simp)) x (by rw [own_len ta _ m _ tc]; exact hx))
      rw [← hts, hst, hcl] at rS
      have bS : Below w.heap.size w (wr.setCell ⟨g, k, none⟩ (.slice ta m tc)) := HB.out.setCell (p := ⟨g, k, none⟩) (F2.out g (by simp [Value.ownBlock])) _
      have cS : (wr.setCell ⟨g, k, none⟩ (.slice ta m tc)).cell? ⟨g, k, none⟩ = some (.slice ta m tc) := World.cell?_setCell_same' _ _ _ (by rw [hcell]; rfl)
      have RS := hide rS
      have BS := hide bS
      have HSZ := hide hsz
      have hsl := sizeT_le k xa
      clear hr hat hst hsz ht hd hte hts rS bS hml hmm hcl
      go_wp2
      go_region_with (fail)
      all_goals
        go_wp2
        go_roundw
        case rel => exact ⟨k + 1, by omega, by go_num, by rw [HSZ.out]; go_num, RS.out.below ⟨rfl, rfl, rfl, Nat.le_refl _, fun _ _ => rfl⟩, BS.out.drew⟩
        case measure => simp [intOf]; omega
    · have hkl : k = xa.length := by omega
      subst hkl
      obtain ⟨xc, hxc⟩ : ∃ xc, xc = cutT xa.length xa := ⟨_, rfl⟩
      have hxe : xc = xa.map (fun t => t.take 1000) := by rw [hxc, cutT_all]
      have hxl : xa.length = xc.length := by rw [hxc, cutT_length]
      have hok : okL xc = true := by rw [hxe]; exact okL_cut xa
      have hxb : ∀ t ∈ xc, ∀ z ∈ t, 0 ≤ z ∧ z ≤ 255 := by rw [hxe]; exact cut_bytes xa HAB.out
      have hjr : joinR xc = (joinB xc, 0) := by rw [joinR, if_pos hok]
      have hall := allB_join xc hok hxb
      have hsz : (joinB xc).length = sizeT xa.length xa := by rw [hxe, joinB_size]
      have hsl := sizeT_le xa.length xa
      have hte : ∀ t ∈ xc, t.length ≤ 70368744177664 := fun t ht => by
        rw [hxe] at ht
        obtain ⟨s, _, rfl⟩ := List.mem_map.1 ht
        simp
        omega
      have JA := hide fun v w h => join_any v xc w h (by omega) hte
      rw [hjr] at JA
      obtain ⟨js, hjs⟩ : ∃ js, js = joinB xc := ⟨_, rfl⟩
      rw [← hjs] at JA hall hsz
      have AL := hide fun v w h => all_any v js w h (by omega)
      rw [hall] at AL
      rw [← hxc] at HR
      obtain ⟨sz, hsze⟩ : ∃ sz, sz = sizeT xa.length xa := ⟨_, rfl⟩
      rw [← hsze] at hsz ⊢
      have HSZ := hide hsz
      have HXL := hide hxl
      clear hxc hxe hok hxb hjr hall hte hjs hsze hsl hxl hsz
      go_wp2_with fail
      refine (JA.out _ wr HR.out.isBB).mono ?_
      rintro e w4 ⟨v4, rfl, r4, b4, _⟩
      dsimp only at r4 ⊢
      obtain ⟨a4, cap4, rfl, _⟩ := r4.isB.form
      have B4 := hide (below_then HB.out b4)
      have R4 := hide (HR.out.below b4)
      have J4 := hide r4.isB
      clear r4 b4
      go_wp2_with fail
      refine (AL.out _ w4 J4.out).mono ?_
      rintro e w5 ⟨v5, rfl, r5, b5⟩
      dsimp only at r5 ⊢
      obtain ⟨a5, cap5, rfl⟩ := r5.slice
      have B5 := hide (below_then B4.out b5)
      have R5 := hide r5
      have R45 := hide (R4.out.below b5)
      clear r5 b5
      have SX := hide (same_yes _ _ xc w5 R45.out.isBB R5.out.isBB (by have := HXL.out; omega))
      go_wp2_with fail
      refine SX.out.mono ?_
      rintro e w6 ⟨rfl, b6⟩
      have B6 := hide (below_then B5.out b6)
      clear b6
      have hsz := HSZ.out
      go_wp2
      go_ret
      exact ⟨rfl, B6.out⟩

/-! ### The row's step -/
set_option maxRecDepth 100000 in
theorem lifted (os : Os) (started : os.Started) (H : Type) (enc : TypeId × Value → H) :
    ReturnsInHanded {} Try.checked os 5 .any (Rows.blockBackSpec.pre6 enc Try.prog Try.f5 Rows.blockBackRow.domain false) (Rows.blockBackSpec.post enc Try.prog Try.f5 false true false false) := by
  refine returnsInHanded_of_change (C := Try.checked) own started (by kernel_rfl) Try.func5
    (ChangeSpec.witness6 (enc := enc) (C := Try.checked) false ⟨#[], #[.slice none 0 0], []⟩ 8 (by kernel_rfl) (by kernel_rfl) (by kernel_rfl) (by kernel_rfl)) ?_
  intro W base args ds gs before hval0 hW hcnd _
  have hval : ∀ (j : Nat) t v, Try.f5.params[j]? = some t → args[j]? = some v → Value.okWide Try.prog W .any base t v := hval0
  have hW' := hW
  obtain ⟨p, q, hA0, hV, rfl, hfz, hnd⟩ := hW
  have hA : DataW.TrodAll enc Try.prog W 0 (fun _ => true) true Try.f5.params.toList args.toList ds p := hA0
  rw [Try.params5] at hA hval
  obtain ⟨v0, vs0, d0, ds0, p0, q0, hargs, rfl, rfl, h0, r0⟩ := trodAll_cons hA
  obtain ⟨rfl, rfl, rfl⟩ := trodAll_nil r0
  obtain rfl : args = #[v0] := by cases args; simp_all
  obtain ⟨rfl, rfl⟩ := trodVars_none hV
  obtain ⟨a0, len0, cap0, rfl⟩ := okWide_slice Try.underlying22 (hval 0 22 v0 rfl rfl)
  have k0 := h0
  have lt0 : ∀ x ∈ p0, x.block < W.heap.size := by obtain ⟨m, hm⟩ := k0; exact DataW.trod_lt m _ _ _ hm
  obtain ⟨bs0, i0, l0, c0, m0⟩ : ∃ bs, IsBB W (.slice a0 len0 cap0) bs ∧ bs.length = len0 ∧ len0 ≤ cap0 ∧ cap0 ≤ maxLen := by
    obtain ⟨fuel, hf⟩ := h0
    rcases open_byterows hf with hcs | ⟨x, l, c, bs, hcs, e1, e2, e3, e4⟩
    · simp [Value.cells] at hcs
      obtain ⟨rfl, rfl, rfl⟩ := hcs
      exact ⟨[], IsBB.nil W, rfl, Nat.le_refl _, Nat.zero_le _⟩
    · simp [Value.cells] at hcs
      obtain ⟨rfl, rfl, rfl⟩ := hcs
      exact ⟨bs, e4, e1, e2, e3⟩
  clear hA0 hval0
  refine (walk a0 len0 cap0 bs0 W i0 l0 c0 m0).mono fun e W' ⟨he, bel⟩ => ?_
  subst he
  exact ⟨_, rfl, _, _, _, [], _, [], hW', trodAll_mk1 (shut_bool Try.underlying4 _), (trodAll_cons_mk (Below.trod laidOut (by kernel_rfl) (of_decide_eq_true (by kernel_rfl)) k0 bel lt0) trodAll_mk0), rfl, bel.frame _, fun h => by cases h⟩

theorem over : Rows.blockBackRow.holds Try.pinned (OpenSpec.ofChange Rows.blockBackSpec) :=
  OpenClaim.holds_of_wide 5 Try.f5 rfl rfl rfl rfl rfl rfl rfl ⟨rfl, rfl, rfl, rfl, rfl⟩ rfl rfl rfl rfl rfl (by kernel_rfl) Try.func5 (by kernel_rfl)
    (of_decide_eq_true (by kernel_rfl)) (by unfold Func.isWrapper; first | (rw [if_pos (by decide +kernel)]; kernel_rfl) | (rw [if_neg (by decide +kernel)]; exact ⟨rfl, rfl⟩))
    (fun os started H enc _ => lifted os started H enc)

/-- The statement. -/
theorem proved : Rows.BlockBackSaid := over
#print axioms proved
end Go.Proofs.Ytjnmggbkclnbkaa.blockBack
