/-
  Proved: for every slice of slices of bytes, BlockTells returns true and leaves them as they were (blocks are what the document says; what was handed in stays). No condition.
-/
import Derived.WalkKit
import Derived.ProofKit
import Derived.OpenShut
import Derived.ShutString
import Derived.Deep.RegionHeld
import Derived.Test.YtjnmggbkclnbkaaBRow2
namespace Go.Proofs.Ytjnmggbkclnbkaa.blockTells
open Go.ChangeShapes Go.WideShapes Go.ChangeAt Go.RowKit
open Go.ChangeMaps (open_string shut_string)
set_option linter.unusedVariables false

theorem own : ownKnob Try.prog.godebug = none := by kernel_rfl
theorem laidOut : laidOutB Try.prog = true := by kernel_rfl

theorem fewT_few (l : List (List Int)) : fewT (fewT l) = fewT l := by
  unfold fewT
  rw [List.take_of_length_le (l := List.map _ _) (by simp; omega), List.map_map]
  apply List.map_congr_left
  intro t _
  rw [Function.comp, List.take_take, Nat.min_self]


/-! ### The walk -/
set_option maxRecDepth 100000 in
set_option maxHeartbeats 4000000 in
theorem walk (a0 : Option Addr) (len0 cap0 : Nat) (bs0 : List (List Int)) (w : World) (i0 : IsBB w (.slice a0 len0 cap0) bs0) (l0 : bs0.length = len0) (c0 : len0 ≤ cap0) (m0 : cap0 ≤ maxLen) :
    Calls Try.prog 3 #[.slice a0 len0 cap0] w fun e w' => e = .returned (.bool true) ∧ Below w.heap.size w w' := by
  subst l0
  obtain ⟨xa, hxa⟩ : ∃ xa, xa = fewT bs0 := ⟨_, rfl⟩
  have hal : xa.length ≤ 20 := by rw [hxa]; exact fewT_len _
  have hae : ∀ t ∈ xa, t.length ≤ 1010 := fun t ht => by rw [hxa] at ht; exact fewT_each _ t ht
  have hff : fewT xa = xa := by rw [hxa]; exact fewT_few _
  have FA := hide fun w h => few_any (.slice a0 bs0.length cap0) bs0 w h
  have FC := hide fun v w h => few_any v xa w h (by omega)
  have JA := hide fun v w h => join_any v xa w h (by omega) (fun t ht => by have := hae t ht; omega)
  have JR := hide fun v w h => refJoin_any v xa w h (by omega)
  rw [← hxa] at FA
  rw [hff] at FC
  have HI := hide i0
  have HAE := hide hae
  clear i0 hxa hae hff
  go_enter Try.func3, Try.ntmps3
  go_wp2_with fail
  refine (shown_any _).mono ?_
  rintro e w1 ⟨rfl, B1⟩
  have I1 := hide (HI.out.below B1)
  have HB1 := hide B1
  clear B1
  go_wp2_with fail
  refine (FA.out w1 I1.out (by unfold maxLen at m0; omega)).mono ?_
  rintro e w2 ⟨v2, rfl, r2, b2, f2⟩
  obtain ⟨a2, cap2, rfl⟩ := r2.slice
  have B2 := hide (below_then HB1.out b2)
  have R2 := hide r2
  clear b2 f2 r2
  go_wp2_with fail
  refine (FC.out _ w2 R2.out.isBB).mono ?_
  rintro e w3 ⟨v3, rfl, r3, b3, f3⟩
  obtain ⟨a3, cap3, rfl⟩ := r3.slice
  have B3 := hide (below_then B2.out b3)
  have R23 := hide (R2.out.below b3)
  have R3 := hide r3
  clear b3 f3 r3
  go_wp2
  go_loopw [5, 6, 7] (fun i _ _ wr => ∃ k : Nat, k ≤ xa.length ∧ i = .int .i64 k ∧ Hid (Below w3.heap.size w3 wr)) (fun i _ _ _ => xa.length - (intOf i).toNat)
  case atStart => exact ⟨0, Nat.zero_le _, rfl, Below.refl _ _⟩
  case round =>
    obtain ⟨k, hk, rfl, HB⟩ := hrel
    by_cases hlt : k < xa.length
    · obtain ⟨b, off, cap', he, _, hc⟩ := (R23.out.below HB.out).isBB.opened (by omega)
      simp only [Value.slice.injEq, true_and] at he
      obtain ⟨rfl, rfl⟩ := he
      obtain ⟨ta, tc, hcell, ht⟩ := hc k hlt
      have htl : (xa[k]?.getD []).length ≤ 1010 := HAE.out _ (by simp [hlt])
      obtain ⟨t, hte⟩ : ∃ t, t = xa[k]?.getD [] := ⟨_, rfl⟩
      rw [← hte] at hcell ht htl
      have HT := hide ht
      clear hc ht hte
      by_cases h1000 : t.length ≤ 1000
      · obtain ⟨xs, hxs⟩ : ∃ xs, xs = blkB t := ⟨_, rfl⟩
        have HX := hide hxs
        clear hxs
        have hbk := World.block_lt_of_cell? wr _ hcell
        go_wp2_with fail
        refine (encode_go _ t xs wr HT.out h1000 HX).mono ?_
        rintro e w4 ⟨g4, cap4, rfl, o4, b4⟩
        have T4 := hide (HT.out.below b4)
        have B4 := hide (below_then HB.out b4)
        have O4 := hide o4
        have hcell4 : w4.cell? ⟨b, off + k, none⟩ = some (.slice ta t.length tc) := (World.cell?_of_block (w := wr) (b4.block _ hbk)).trans hcell
        clear o4 b4
        obtain ⟨sx, hsx⟩ : ∃ sx, sx = strOfNums xs := ⟨_, rfl⟩
        have SX := hide hsx
        have c4 := conv_isB (w := w4.drew) O4.out.isB
        rw [← hsx] at c4
        have hcell5 : w4.drew.cell? ⟨b, off + k, none⟩ = some (.slice ta t.length tc) := hcell4
        have hd : decide ((t.length : Int) ≤ 1000) = true := by simp; omega
        have PX := hide fun w h => refEncode_go (.slice ta t.length tc) t xs w h h1000 HX
        have hbk4 := World.block_lt_of_cell? w4 _ hcell4
        have CE : Hid (∀ w', Below w4.heap.size w4 w' → w'.cell? ⟨b, off + k, none⟩ = some (.slice ta t.length tc)) := fun w' hb => (World.cell?_of_block (w := w4) (hb.block _ hbk4)).trans hcell4
        clear hsx hcell hbk hcell4 hbk4
        go_wp2
        have hund : undef = Value.tuple #[] := rfl
        first | (go_region_held (fun w' => w'.cell? ⟨b, off + k, none⟩ = some (.slice ta t.length tc) ∧ (convert 25 9 (.slice (some ⟨g4, 0, none⟩) xs.length cap4)).run Try.prog w' = .ok (.string sx) w') (exact ⟨by assumption, by assumption⟩) (first | (go_at_call 13; refine (PX.out w4.drew T4.out).mono ?_; rintro e w5 ⟨g5, cap5, rfl, o5, b5⟩; have b5' := undrew_below b5; have B5 := hide (below_then B4.out b5'); have c5 := conv_isB (O4.out.below b5').isB; have d5 := conv_isB o5.isB; have x5 := CE.out _ b5'; rw [← SX.out] at c5 d5; clear o5 b5 b5'))) | fail
        all_goals
          rw [← hund]
          clear hund
          go_wp2
          go_roundw
          case rel => exact ⟨k + 1, by omega, by go_num, B5.out⟩
          case measure => simp [intOf]; omega
      · have hd : decide ((t.length : Int) ≤ 1000) = false := by simp; omega
        go_wp2_with fail
        refine (encode_no _ t wr HT.out (by omega) (by omega)).mono ?_
        rintro e w4 ⟨rfl, rfl⟩
        have hcell5 : w4.drew.cell? ⟨b, off + k, none⟩ = some (.slice ta t.length tc) := hcell
        go_wp2
        go_quiet (fail)
        all_goals
          go_wp2
          go_roundw
          case rel => exact ⟨k + 1, by omega, by go_num, ⟨HB.out.os, HB.out.tape, HB.out.output, HB.out.size, HB.out.block⟩⟩
          case measure => simp [intOf]; omega
    · go_wp2_with fail
      refine (JA.out _ wr (R23.out.below HB.out).isBB).mono ?_
      rintro e w4 ⟨v4, rfl, r4, b4, _⟩
      dsimp only at r4 ⊢
      obtain ⟨a4, cap4, rfl, _⟩ := r4.isB.form
      have B4 := hide (below_then HB.out b4)
      have R4 := hide r4.isB
      clear r4 b4
      go_wp2_with fail
      refine (JR.out _ w4 (R23.out.below B4.out).isBB).mono ?_
      rintro e w5 ⟨v5, rfl, r5, b5⟩
      dsimp only at r5 ⊢
      obtain ⟨a5, cap5, rfl, _⟩ := r5.isB.form
      have B5 := hide (below_then B4.out b5)
      have R5 := hide r5.isB
      have R45 := hide (R4.out.below b5)
      clear r5 b5
      obtain ⟨sj, hsj⟩ : ∃ sj, sj = strOfNums (joinR xa).1 := ⟨_, rfl⟩
      have c5 := conv_isB R5.out
      have d5 := conv_isB R45.out
      rw [← hsj] at c5 d5
      have SX := hide (same_yes _ _ xa w5 (R23.out.below B5.out).isBB (R3.out.below B5.out).isBB (by omega))
      have hj : (okL xa = true ∧ (joinR xa).2 = 0) ∨ (okL xa = false ∧ (joinR xa).2 = 1) := by
        unfold joinR
        cases okL xa <;> simp
      obtain ⟨n, hn⟩ : ∃ n, n = (joinR xa).1.length := ⟨_, rfl⟩
      rw [← hn] at c5 d5 ⊢
      generalize (joinR xa).2 = er at hj ⊢
      generalize okL xa = ok at hj ⊢
      clear hsj hn R4 R5 R45 JA JR
      rcases hj with ⟨rfl, rfl⟩ | ⟨rfl, rfl⟩
      all_goals
        go_wp2_with fail
        refine SX.out.mono ?_
        rintro e w6 ⟨rfl, b6⟩
        have B6 := hide (below_then B3.out (below_then B5.out b6))
        clear b6 c5 d5
        go_wp2
        go_ret
        exact ⟨rfl, B6.out⟩

/-! ### The row's step -/
set_option maxRecDepth 100000 in
theorem lifted (os : Os) (started : os.Started) (H : Type) (enc : TypeId × Value → H) :
    ReturnsInHanded {} Try.checked os 3 .any (Rows.blockTellsSpec.pre6 enc Try.prog Try.f3 Rows.blockTellsRow.domain false) (Rows.blockTellsSpec.post enc Try.prog Try.f3 false true false false) := by
  refine returnsInHanded_of_change (C := Try.checked) own started (by kernel_rfl) Try.func3
    (ChangeSpec.witness6 (enc := enc) (C := Try.checked) false ⟨#[], #[.slice none 0 0], []⟩ 8 (by kernel_rfl) (by kernel_rfl) (by kernel_rfl) (by kernel_rfl)) ?_
  intro W base args ds gs before hval0 hW hcnd _
  have hval : ∀ (j : Nat) t v, Try.f3.params[j]? = some t → args[j]? = some v → Value.okWide Try.prog W .any base t v := hval0
  have hW' := hW
  obtain ⟨p, q, hA0, hV, rfl, hfz, hnd⟩ := hW
  have hA : DataW.TrodAll enc Try.prog W 0 (fun _ => true) true Try.f3.params.toList args.toList ds p := hA0
  rw [Try.params3] at hA hval
  obtain ⟨v0, vs0, d0, ds0, p0, q0, hargs, rfl, rfl, h0, r0⟩ := trodAll_cons hA
  obtain ⟨rfl, rfl, rfl⟩ := trodAll_nil r0
  obtain rfl : args = #[v0] := by cases args; simp_all
  obtain ⟨rfl, rfl⟩ := trodVars_none hV
  obtain ⟨a0, len0, cap0, rfl⟩ := okWide_slice Try.underlying22 (hval 0 22 v0 rfl rfl)
  have k0 := h0
  have lt0 : ∀ x ∈ p0, x.block < W.heap.size := by obtain ⟨m, hm⟩ := k0; exact DataW.trod_lt m _ _ _ hm
  obtain ⟨bs0, i0, l0, c0, m0⟩ : ∃ bs, IsBB W (.slice a0 len0 cap0) bs ∧ bs.length = len0 ∧ len0 ≤ cap0 ∧ cap0 ≤ maxLen := by
    obtain ⟨fuel, hf⟩ := h0
    rcases open_byterows hf with hcs | ⟨x, l, c, bs, hcs, e1, e2, e3, e4⟩
    · simp [Value.cells] at hcs
      obtain ⟨rfl, rfl, rfl⟩ := hcs
      exact ⟨[], IsBB.nil W, rfl, Nat.le_refl _, Nat.zero_le _⟩
    · simp [Value.cells] at hcs
      obtain ⟨rfl, rfl, rfl⟩ := hcs
      exact ⟨bs, e4, e1, e2, e3⟩
  clear hA0 hval0
  refine (walk a0 len0 cap0 bs0 W i0 l0 c0 m0).mono fun e W' ⟨he, bel⟩ => ?_
  subst he
  exact ⟨_, rfl, _, _, _, [], _, [], hW', trodAll_mk1 (shut_bool Try.underlying4 _), (trodAll_cons_mk (Below.trod laidOut (by kernel_rfl) (of_decide_eq_true (by kernel_rfl)) k0 bel lt0) trodAll_mk0), rfl, bel.frame _, fun h => by cases h⟩

theorem over : Rows.blockTellsRow.holds Try.pinned (OpenSpec.ofChange Rows.blockTellsSpec) :=
  OpenClaim.holds_of_wide 3 Try.f3 rfl rfl rfl rfl rfl rfl rfl ⟨rfl, rfl, rfl, rfl, rfl⟩ rfl rfl rfl rfl rfl (by kernel_rfl) Try.func3 (by kernel_rfl)
    (of_decide_eq_true (by kernel_rfl)) (by unfold Func.isWrapper; first | (rw [if_pos (by decide +kernel)]; kernel_rfl) | (rw [if_neg (by decide +kernel)]; exact ⟨rfl, rfl⟩))
    (fun os started H enc _ => lifted os started H enc)

/-- The statement. -/
theorem proved : Rows.BlockTellsSaid := over
#print axioms proved
end Go.Proofs.Ytjnmggbkclnbkaa.blockTells
