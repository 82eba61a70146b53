/-
  Proved: for every graph, EdgesBack returns true and leaves the graph as it was (what was told is read as it was, and told so again). No condition.
-/
import Derived.Deep.RegionHeld
import Derived.Deep.RegionHeldLaw
import Derived.Test.YtjkdnibfppjolaaAlike
namespace Go.Proofs.Ytjkdnibfppjolaa.edgesBack
open Go.ChangeShapes Go.WideShapes Go.ChangeAt Go.RowKit
open Go.ChangeMaps (open_string shut_string)
set_option linter.unusedVariables false

theorem own : ownKnob Try.prog.godebug = none := by kernel_rfl
theorem laidOut : laidOutB Try.prog = true := by kernel_rfl


/-! ### The walk -/
set_option maxRecDepth 100000 in
set_option maxHeartbeats 4000000 in
theorem walk (n0 : Int) (a0 : Option Addr) (len0 cap0 : Nat) (es0 : List Ed) (w : World) (w0 : (Lit.int .i64 n0).wf = true) (i0 : IsE w (.slice a0 len0 cap0) es0) (l0 : es0.length = len0) (m0 : len0 ≤ maxLen) :
    Calls Try.prog 5 #[.agg #[.int .i64 n0, .slice a0 len0 cap0]] w fun e w' => e = .returned (.bool true) ∧ Below w.heap.size w w' := by
  obtain ⟨hn0, hn1⟩ := bounds_i64 w0
  subst l0
  unfold maxLen at m0
  go_enter Try.func5, Try.ntmps5
  go_wp2_with fail
  refine (shown_any _).mono ?_
  rintro e w1 ⟨rfl, b1⟩
  have B1 := below_after (Below.refl _ w) b1
  have s1 : w1.heap[w.heap.size]? = some (.cells #[.int .i64 n0, .slice a0 es0.length cap0] 24 (0, 0)) := block_then (heap_alloc_new w _) b1
  have hs1 := (Array.getElem?_eq_some_iff.1 s1).1
  obtain ⟨c10, c11, f1⟩ := cells2 s1
  have hF := few_any n0 _ es0 w1 (i0.below B1)
  have S1 := hide s1
  have HB1 := hide B1
  clear b1 s1 B1
  go_wp2_with fail
  refine hF.mono ?_
  clear hF
  rintro e w2 ⟨ga, gcap, rfl, go2, b2⟩
  have s2 := block_then S1.out b2
  obtain ⟨c20, c21, f2⟩ := cells2 s2
  obtain ⟨fs, hfs⟩ : ∃ fs, fs = es0.take 40 := ⟨_, rfl⟩
  have hfl : fs.length ≤ 40 := by rw [hfs]; exact List.length_take_le _ _
  rw [← hfs] at go2 ⊢
  have S3b := hide (boxed (u0 := .int .i64 n0) (u1 := .slice (some ga) fs.length gcap) s2 (by decide) go2)
  have HB3 := hide (below_box (below_then HB1.out b2) (Nat.le_refl w.heap.size) (.int .i64 n0) (.slice (some ga) fs.length gcap))
  clear c10 c11 f1 s2 b2 go2 hfs
  go_wp2_with fail
  generalize ((w2.setCell ⟨w.heap.size, 0, none⟩ (.int .i64 n0)).setCell ⟨w.heap.size, 1, none⟩ (.slice (some ga) fs.length gcap)) = w3 at S3b HB3 ⊢
  obtain ⟨s3, o3⟩ := S3b.out
  obtain ⟨c30, c31, f3⟩ := cells2 s3
  have S3 := hide s3
  have O3 := hide o3
  clear s3 o3 S3b c20 c21 f2 S1 HB1
  cases hr : rightB n0 fs with
  | false =>
    have hR := fun w4 hI => right_any n0 (by omega) (.slice (some ga) fs.length gcap) fs w4 hI (by omega)
    rw [hr] at hR
    have HR := hide hR
    clear hR
    refine (encode_no n0 (by omega) _ fs w3 O3.out.isE (by omega) hr).mono ?_
    rintro e w4 ⟨rfl, b4⟩
    have HB4 := hide (below_then HB3.out b4)
    obtain ⟨c40, c41, f4⟩ := cells2 (block_then S3.out b4)
    have I4 := hide (O3.out.isE.below b4)
    clear b4 c30 c31 f3
    go_wp2_with fail
    refine (HR.out _ I4.out).mono ?_
    rintro e w5 ⟨rfl, b5⟩
    go_wp2
    go_ret
    exact ⟨rfl, below_then HB4.out b5⟩
  | true =>
    have EN := hide fun v w hI => encode_go n0 v fs w hI hr
    refine (EN.out _ w3 O3.out.isE).mono ?_
    rintro e w4 ⟨g4, cap4, rfl, o4, b4⟩
    have hgl := graphB_length n0 fs
    have hdr := dec_right n0 fs O3.out.2 hr
    have hgl2 : ((graphB n0 fs).length : Int) = 4 + 12 * (fs.length : Int) := by rw [hgl]; omega
    obtain ⟨bs, hbs⟩ : ∃ bs, bs = graphB n0 fs := ⟨_, rfl⟩
    rw [← hbs] at o4 hgl hgl2 hdr EN ⊢
    have hbl : bs.length ≤ 484 := by omega
    have HB4 := hide (below_then HB3.out b4)
    have D4 := decode_any _ _ w4 o4.isB (by omega)
    rw [hdr] at D4
    have HD4 := hide D4
    have O4 := hide o4
    have S4 := hide (block_then S3.out b4)
    have I4 := hide (O3.out.isE.below b4)
    have HGL := hide hgl2
    clear b4 hbs hgl hdr D4 o4 hr hgl2 c30 c31 f3
    go_wp2_with fail
    refine HD4.out.mono ?_
    rintro e w5 ⟨v5, rfl, i5, b5⟩
    obtain ⟨a5, cap5, rfl, _⟩ := i5.form
    have O5 := hide (O4.out.below b5)
    have S5 := hide (block_then S4.out b5)
    have I5 := hide (I4.out.below b5)
    have J5 := hide i5
    have HB5 := hide (below_then HB4.out b5)
    clear i5 b5 O4 S4 I4 HD4 HB4
    have b6 : Below w5.heap.size w5 (w5.alloc (.cells #[.int .i64 n0, .slice a5 fs.length cap5] 24)) := (Below.refl _ w5).alloc (Nat.le_refl _) _
    have hE := EN.out _ _ (J5.out.below b6)
    have HE := hide hE
    have B6 := hide b6
    clear hE b6 EN
    go_wp2_with fail
    refine HE.out.mono ?_
    rintro e w7 ⟨g7, cap7, rfl, o7, b7⟩
    have b57 := below_after (Below.refl _ w5) b7
    have O57 := hide (O5.out.below b57)
    obtain ⟨c70, c71, f7⟩ := cells2 (block_then S5.out b57)
    have q7 : w7.heap[w5.heap.size]? = some (.cells #[.int .i64 n0, .slice a5 fs.length cap5] 24 (0, 0)) := block_then (heap_alloc_new w5 _) b7
    obtain ⟨d70, d71, k7⟩ := cells2 q7
    have I7 := hide (I5.out.below b57)
    have J7 := hide (J5.out.below b57)
    have O7 := hide o7
    have HB7 := hide (below_then HB5.out b57)
    clear o7 b7 b57 q7 O5 S5 I5 J5 HB5 HE
    go_wp2_with fail
    have hA := alike_any _ _ _ _ _ I7.out J7.out (by omega)
    rw [decide_eq_true (rfl : fs = fs)] at hA
    refine hA.mono ?_
    clear hA
    rintro e w8 ⟨rfl, b8⟩
    have x1 := conv_isB (O7.out.below b8).isB
    have x2 := conv_isB (O57.out.below b8).isB
    obtain ⟨str, hstr⟩ : ∃ str, str = strOfNums bs := ⟨_, rfl⟩
    rw [← hstr] at x1 x2
    have hq1 := (b8.cell (p := ⟨w.heap.size, 1, none⟩) (World.block_lt_of_cell? w7 _ c71)).trans c71
    have hlen : ((bs.length : Int) == 4 + 12 * (fs.length : Int)) = true := by rw [beq_iff_eq]; exact HGL.out
    have HB8 := hide (below_then HB7.out b8)
    clear b8 hstr c70 c71 f7 d70 d71 k7
    go_wp2
    go_ret
    exact ⟨rfl, HB8.out⟩

/-! ### The row's step -/
set_option maxRecDepth 100000 in
theorem lifted (os : Os) (started : os.Started) (H : Type) (enc : TypeId × Value → H) :
    ReturnsInHanded {} Try.checked os 5 .any (Rows.edgesBackSpec.pre6 enc Try.prog Try.f5 Rows.edgesBackRow.domain false) (Rows.edgesBackSpec.post enc Try.prog Try.f5 false true false false) := by
  refine returnsInHanded_of_change (C := Try.checked) own started (by kernel_rfl) Try.func5
    (ChangeSpec.witness6 (enc := enc) (C := Try.checked) false ⟨#[], #[.agg #[.int .i64 0, .slice none 0 0]], []⟩ 8 (by kernel_rfl) (by kernel_rfl) (by kernel_rfl) (by kernel_rfl)) ?_
  intro W base args ds gs before hval0 hW hcnd _
  have hval : ∀ (j : Nat) t v, Try.f5.params[j]? = some t → args[j]? = some v → Value.okWide Try.prog W .any base t v := hval0
  have hW' := hW
  obtain ⟨p, q, hA0, hV, rfl, hfz, hnd⟩ := hW
  have hA : DataW.TrodAll enc Try.prog W 0 (fun _ => true) true Try.f5.params.toList args.toList ds p := hA0
  rw [Try.params5] at hA hval
  obtain ⟨v0, vs0, d0, ds0, p0, q0, hargs, rfl, rfl, h0, r0⟩ := trodAll_cons hA
  obtain ⟨rfl, rfl, rfl⟩ := trodAll_nil r0
  obtain rfl : args = #[v0] := by cases args; simp_all
  obtain ⟨rfl, rfl⟩ := trodVars_none hV
  have k0 := h0
  have lt0 : ∀ x ∈ p0, x.block < W.heap.size := by obtain ⟨m, hm⟩ := k0; exact DataW.trod_lt m _ _ _ hm
  obtain ⟨n0, a0, len0, cap0, es0, rfl, w0, i0, l0, m0⟩ := graphIn (hval 0 24 v0 rfl rfl) h0
  clear hA0 hval0
  refine (walk n0 a0 len0 cap0 es0 W w0 i0 l0 m0).mono fun e W' ⟨he, bel⟩ => ?_
  subst he
  exact ⟨_, rfl, _, _, _, [], _, [], hW', trodAll_mk1 (shut_bool Try.underlying4 _), (trodAll_cons_mk (Below.trod laidOut (by kernel_rfl) (of_decide_eq_true (by kernel_rfl)) k0 bel lt0) trodAll_mk0), rfl, bel.frame _, fun h => by cases h⟩

theorem over : Rows.edgesBackRow.holds Try.pinned (OpenSpec.ofChange Rows.edgesBackSpec) :=
  OpenClaim.holds_of_wide 5 Try.f5 rfl rfl rfl rfl rfl rfl rfl ⟨rfl, rfl, rfl, rfl, rfl⟩ rfl rfl rfl rfl rfl (by kernel_rfl) Try.func5 (by kernel_rfl)
    (of_decide_eq_true (by kernel_rfl)) (by unfold Func.isWrapper; first | (rw [if_pos (by decide +kernel)]; kernel_rfl) | (rw [if_neg (by decide +kernel)]; exact ⟨rfl, rfl⟩))
    (fun os started H enc _ => lifted os started H enc)

/-- The statement. -/
theorem proved : Rows.EdgesBackSaid := over
#print axioms proved
end Go.Proofs.Ytjkdnibfppjolaa.edgesBack
