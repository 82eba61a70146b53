/-
  Proved: for every graph, EdgesTell returns true and leaves the graph as it was (graphs are right, and bytes, as the document says; what was handed in stays). No condition.
-/
import Derived.Deep.RegionHeld
import Derived.Deep.RegionHeldLaw
import Derived.Test.YtjkdnibfppjolaaRefEnc
namespace Go.Proofs.Ytjkdnibfppjolaa.edgesTell
open Go.ChangeShapes Go.WideShapes Go.ChangeAt Go.RowKit
open Go.ChangeMaps (open_string shut_string)
set_option linter.unusedVariables false

theorem own : ownKnob Try.prog.godebug = none := by kernel_rfl
theorem laidOut : laidOutB Try.prog = true := by kernel_rfl


/-! ### The walk -/
set_option maxRecDepth 100000 in
set_option maxHeartbeats 4000000 in
theorem walk (n0 : Int) (a0 : Option Addr) (len0 cap0 : Nat) (es0 : List Ed) (w : World) (w0 : (Lit.int .i64 n0).wf = true) (i0 : IsE w (.slice a0 len0 cap0) es0) (l0 : es0.length = len0) (m0 : len0 ≤ maxLen) :
    Calls Try.prog 3 #[.agg #[.int .i64 n0, .slice a0 len0 cap0]] w fun e w' => e = .returned (.bool true) ∧ Below w.heap.size w w' := by
  obtain ⟨hn0, hn1⟩ := bounds_i64 w0
  subst l0
  unfold maxLen at m0
  go_enter Try.func3, Try.ntmps3
  go_wp2_with fail
  refine (shown_any _).mono ?_
  rintro e w1 ⟨rfl, b1⟩
  have B1 := below_after (Below.refl _ w) b1
  have s1 : w1.heap[w.heap.size]? = some (.cells #[.int .i64 n0, .slice a0 es0.length cap0] 24 (0, 0)) := block_then (heap_alloc_new w _) b1
  have hs1 := (Array.getElem?_eq_some_iff.1 s1).1
  obtain ⟨c10, c11, f1⟩ := cells2 s1
  have hF := few_any n0 _ es0 w1 (i0.below B1)
  have S1 := hide s1
  have HB1 := hide B1
  clear b1 s1 B1
  go_wp2_with fail
  refine hF.mono ?_
  clear hF
  rintro e w2 ⟨ga, gcap, rfl, go2, b2⟩
  have s2 := block_then S1.out b2
  obtain ⟨c20, c21, f2⟩ := cells2 s2
  obtain ⟨fs, hfs⟩ : ∃ fs, fs = es0.take 40 := ⟨_, rfl⟩
  have hfl : fs.length ≤ 40 := by rw [hfs]; exact List.length_take_le _ _
  rw [← hfs] at go2 ⊢
  have S3b := hide (boxed (u0 := .int .i64 n0) (u1 := .slice (some ga) fs.length gcap) s2 (by decide) go2)
  have HB3 := hide (below_box (below_then HB1.out b2) (Nat.le_refl w.heap.size) (.int .i64 n0) (.slice (some ga) fs.length gcap))
  clear c10 c11 f1 s2 b2 go2 hfs
  go_wp2_with fail
  generalize ((w2.setCell ⟨w.heap.size, 0, none⟩ (.int .i64 n0)).setCell ⟨w.heap.size, 1, none⟩ (.slice (some ga) fs.length gcap)) = w3 at S3b HB3 ⊢
  obtain ⟨s3, o3⟩ := S3b.out
  obtain ⟨c30, c31, f3⟩ := cells2 s3
  have S3 := hide s3
  have O3 := hide o3
  clear s3 o3 S3b c20 c21 f2 S1 HB1
  have hF := few_any n0 _ fs w3 O3.out.isE
  rw [List.take_of_length_le hfl] at hF
  refine hF.mono ?_
  clear hF
  rintro e w4 ⟨wa, wcap, rfl, wo4, b4⟩
  have b4' := b4.alloc b4.size (.cells #[.int .i64 n0, .slice (some wa) fs.length wcap] 24)
  have I4 := hide (O3.out.isE.below b4')
  have J4 := hide (wo4.isE.below ((Below.refl _ w4).alloc (Nat.le_refl _) (.cells #[.int .i64 n0, .slice (some wa) fs.length wcap] 24)))
  have S4 := hide (block_then S3.out b4')
  have q4 := heap_alloc_new w4 (.cells #[.int .i64 n0, .slice (some wa) fs.length wcap] 24)
  have Q4 := hide q4
  have HB4 := hide (below_then HB3.out b4')
  obtain ⟨c40, c41, f4⟩ := cells2 S4.out
  have hok := O3.out.2
  have HOK := hide hok
  clear b4 b4' wo4 q4 c30 c31 f3 hok O3 HB3 S3
  have RR := hide fun v w hI => rright_any n0 (by omega) v fs w hI (by omega)
  have R1 := hide fun v w hI => right_any n0 (by omega) v fs w hI (by omega)
  have FQ : ∀ w', Below (w4.alloc (.cells #[.int .i64 n0, .slice (some wa) fs.length wcap] 24)).heap.size (w4.alloc (.cells #[.int .i64 n0, .slice (some wa) fs.length wcap] 24)) w' →
      (w'.cell? ⟨w.heap.size, 0, none⟩ = some (.int .i64 n0) ∧ w'.cell? ⟨w.heap.size, 1, none⟩ = some (.slice (some ga) fs.length gcap)) ∧ w'.cell? ⟨w4.heap.size, 1, none⟩ = some (.slice (some wa) fs.length wcap) := fun w' hb => by
    obtain ⟨e0, e1, _⟩ := cells2 (block_then S4.out hb)
    obtain ⟨_, d1, _⟩ := cells2 (block_then Q4.out hb)
    exact ⟨⟨e0, e1⟩, d1⟩
  have HFQ := hide FQ
  clear FQ
  cases hr : rightB n0 fs with
  | false =>
    rw [hr] at RR R1
    go_wp2_with fail
    refine (encode_no n0 (by omega) _ fs _ I4.out (by omega) hr).mono ?_
    rintro e w5 ⟨rfl, b5⟩
    obtain ⟨⟨c50, c51⟩, c52⟩ := HFQ.out _ b5
    have B5 := hide b5
    clear c40 c41 f4 b5
    go_wp2_with fail
    refine (RR.out _ _ (I4.out.below B5.out)).mono ?_
    rintro e w6 ⟨rfl, b6⟩
    have B6 := hide (below_then B5.out b6)
    obtain ⟨⟨c60, c61⟩, c62⟩ := HFQ.out _ B6.out
    clear c50 c51 c52 b6
    go_wp2_with fail
    refine (R1.out _ _ (I4.out.below B6.out)).mono ?_
    rintro e w7 ⟨rfl, b7⟩
    have B7 := hide (below_then B6.out b7)
    obtain ⟨⟨c70, c71⟩, c72⟩ := HFQ.out _ B7.out
    clear c60 c61 c62 b7
    go_wp2_with fail
    have hA := alike_any _ _ _ _ _ (I4.out.below B7.out) (J4.out.below B7.out) (by omega)
    rw [decide_eq_true (rfl : fs = fs)] at hA
    refine hA.mono ?_
    clear hA
    rintro e w8 ⟨rfl, b8⟩
    have B8 := hide (below_then B7.out b8)
    clear b8 c70 c71 c72
    go_wp2
    go_ret
    exact ⟨rfl, below_then HB4.out B8.out⟩
  | true =>
    rw [hr] at RR R1
    obtain ⟨hr0, hr1, hr2, _⟩ := rightB_parts hr
    go_wp2_with fail
    refine (encode_go n0 _ fs _ I4.out hr).mono ?_
    rintro e w5 ⟨g5, cap5, rfl, o5, b5⟩
    have EN := hide fun v w hI => rencode_any n0 v fs w hI hr0 hr1 hr2
    obtain ⟨bs, hbs⟩ : ∃ bs, bs = graphB n0 fs := ⟨_, rfl⟩
    rw [← hbs] at o5 EN ⊢
    obtain ⟨⟨c50, c51⟩, c52⟩ := HFQ.out _ b5
    have B5 := hide b5
    have O5 := hide o5
    obtain ⟨str, hstr⟩ : ∃ str, str = strOfNums bs := ⟨_, rfl⟩
    have HSTR := hide hstr
    clear c40 c41 f4 b5 hr o5 hbs hstr
    go_wp2_with fail
    refine (RR.out _ _ (I4.out.below B5.out)).mono ?_
    rintro e w6 ⟨rfl, b6⟩
    have O6 := hide (O5.out.below b6)
    have B6 := hide (below_then B5.out b6)
    obtain ⟨⟨c60, c61⟩, c62⟩ := HFQ.out _ B6.out
    clear c50 c51 c52 b6
    go_wp2_with fail
    refine (R1.out _ _ (I4.out.below B6.out)).mono ?_
    rintro e w7 ⟨rfl, b7⟩
    have O7 := hide (O6.out.below b7)
    have B7 := hide (below_then B6.out b7)
    obtain ⟨⟨c70, c71⟩, c72⟩ := HFQ.out _ B7.out
    clear c60 c61 c62 b7
    go_wp2_with fail
    have hA := alike_any _ _ _ _ _ (I4.out.below B7.out) (J4.out.below B7.out) (by omega)
    rw [decide_eq_true (rfl : fs = fs)] at hA
    refine hA.mono ?_
    clear hA
    rintro e w8 ⟨rfl, b8⟩
    have O8 := hide (O7.out.below b8)
    have B8 := hide (below_then B7.out b8)
    obtain ⟨⟨c80, c81⟩, c82⟩ := HFQ.out _ B8.out
    have x8 := conv_isB (w := w8.drew) O8.out.isB
    rw [← HSTR.out] at x8
    clear b8 c70 c71 c72 O5 O6 O7
    go_wp2
    go_region_held (fun w' => (convert 27 9 (.slice (some ⟨g5, 0, none⟩) bs.length cap5)).run Try.prog w' = .ok (.string str) w' ∧ w'.cell? ⟨w.heap.size, 0, none⟩ = some (.int .i64 n0) ∧ w'.cell? ⟨w.heap.size, 1, none⟩ = some (.slice (some ga) fs.length gcap)) (first | exact ⟨x8, c80, c81⟩ | exact ⟨x9, c90, c91⟩) (first | (go_at_call 17; refine (EN.out _ _ ((I4.out.below B8.out).below (Below.refl _ _).drew)).mono ?_; rintro e w9 ⟨g9, cap9, rfl, o9, b9⟩; have b9' := below_undrew b9; have x9 := conv_isB (O8.out.below b9').isB; rw [← HSTR.out] at x9; have y9 := conv_isB o9.isB; rw [← HSTR.out] at y9; obtain ⟨⟨c90, c91⟩, _⟩ := HFQ.out _ (below_then B8.out b9'); have B9 := hide (below_then B8.out b9'); clear o9 b9 b9'))
    all_goals go_wp2
    all_goals go_ret
    all_goals exact ⟨rfl, below_then HB4.out B9.out⟩

/-! ### The row's step -/
set_option maxRecDepth 100000 in
theorem lifted (os : Os) (started : os.Started) (H : Type) (enc : TypeId × Value → H) :
    ReturnsInHanded {} Try.checked os 3 .any (Rows.edgesTellSpec.pre6 enc Try.prog Try.f3 Rows.edgesTellRow.domain false) (Rows.edgesTellSpec.post enc Try.prog Try.f3 false true false false) := by
  refine returnsInHanded_of_change (C := Try.checked) own started (by kernel_rfl) Try.func3
    (ChangeSpec.witness6 (enc := enc) (C := Try.checked) false ⟨#[], #[.agg #[.int .i64 0, .slice none 0 0]], []⟩ 8 (by kernel_rfl) (by kernel_rfl) (by kernel_rfl) (by kernel_rfl)) ?_
  intro W base args ds gs before hval0 hW hcnd _
  have hval : ∀ (j : Nat) t v, Try.f3.params[j]? = some t → args[j]? = some v → Value.okWide Try.prog W .any base t v := hval0
  have hW' := hW
  obtain ⟨p, q, hA0, hV, rfl, hfz, hnd⟩ := hW
  have hA : DataW.TrodAll enc Try.prog W 0 (fun _ => true) true Try.f3.params.toList args.toList ds p := hA0
  rw [Try.params3] at hA hval
  obtain ⟨v0, vs0, d0, ds0, p0, q0, hargs, rfl, rfl, h0, r0⟩ := trodAll_cons hA
  obtain ⟨rfl, rfl, rfl⟩ := trodAll_nil r0
  obtain rfl : args = #[v0] := by cases args; simp_all
  obtain ⟨rfl, rfl⟩ := trodVars_none hV
  have k0 := h0
  have lt0 : ∀ x ∈ p0, x.block < W.heap.size := by obtain ⟨m, hm⟩ := k0; exact DataW.trod_lt m _ _ _ hm
  obtain ⟨n0, a0, len0, cap0, es0, rfl, w0, i0, l0, m0⟩ := graphIn (hval 0 24 v0 rfl rfl) h0
  clear hA0 hval0
  refine (walk n0 a0 len0 cap0 es0 W w0 i0 l0 m0).mono fun e W' ⟨he, bel⟩ => ?_
  subst he
  exact ⟨_, rfl, _, _, _, [], _, [], hW', trodAll_mk1 (shut_bool Try.underlying4 _), (trodAll_cons_mk (Below.trod laidOut (by kernel_rfl) (of_decide_eq_true (by kernel_rfl)) k0 bel lt0) trodAll_mk0), rfl, bel.frame _, fun h => by cases h⟩

theorem over : Rows.edgesTellRow.holds Try.pinned (OpenSpec.ofChange Rows.edgesTellSpec) :=
  OpenClaim.holds_of_wide 3 Try.f3 rfl rfl rfl rfl rfl rfl rfl ⟨rfl, rfl, rfl, rfl, rfl⟩ rfl rfl rfl rfl rfl (by kernel_rfl) Try.func3 (by kernel_rfl)
    (of_decide_eq_true (by kernel_rfl)) (by unfold Func.isWrapper; first | (rw [if_pos (by decide +kernel)]; kernel_rfl) | (rw [if_neg (by decide +kernel)]; exact ⟨rfl, rfl⟩))
    (fun os started H enc _ => lifted os started H enc)

/-- The statement. -/
theorem proved : Rows.EdgesTellSaid := over
#print axioms proved
end Go.Proofs.Ytjkdnibfppjolaa.edgesTell
