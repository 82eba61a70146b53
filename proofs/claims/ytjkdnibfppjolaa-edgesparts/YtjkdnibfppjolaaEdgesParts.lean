/-
  Proved: for all two graphs, EdgesParts returns true and leaves them as they were (edges of two graphs, one behind the other, are read as both). No condition.
-/
import Derived.Deep.RegionHeld
import Derived.Deep.RegionHeldLaw
import Derived.Test.YtjkdnibfppjolaaSteps2
namespace Go.Proofs.Ytjkdnibfppjolaa.edgesParts
open Go.ChangeShapes Go.WideShapes Go.ChangeAt Go.RowKit
open Go.ChangeMaps (open_string shut_string)
set_option linter.unusedVariables false

theorem own : ownKnob Try.prog.godebug = none := by kernel_rfl
theorem laidOut : laidOutB Try.prog = true := by kernel_rfl

theorem wrong_mono {n N : Int} (hN : n ≤ N) (x : Ed) (h : ¬ 0 ≤ wrongE n x) : ¬ 0 ≤ wrongE N x := by
  unfold wrongE at *
  split at h
  · omega
  · rw [if_neg (by omega)]
    split at h
    · omega
    · rw [if_neg (by omega)]
      omega
theorem right_mono {n N : Int} {es : List Ed} (h : rightB n es = true) (h0 : n ≤ N) (h1 : N ≤ 1048576) : rightB N es = true := by
  obtain ⟨a, b, c, d⟩ := rightB_parts h
  have e : (es.any fun x => decide (0 ≤ wrongE N x)) = false := by
    rw [List.any_eq_false] at d ⊢
    intro x hx
    have := d x hx
    simp only [decide_eq_true_eq] at this ⊢
    exact wrong_mono h0 x this
  simp [rightB, e, c, h1]
  omega
theorem right_both {N : Int} {es fs : List Ed} (h : rightB N es = true) (k : rightB N fs = true) (hl : es.length + fs.length ≤ 1048576) : rightB N (es ++ fs) = true := by
  obtain ⟨a, b, c, d⟩ := rightB_parts h
  obtain ⟨a', b', c', d'⟩ := rightB_parts k
  have e : ((es ++ fs).any fun x => decide (0 ≤ wrongE N x)) = false := by rw [List.any_append, d, d']; rfl
  simp [rightB, e, a, b]
  omega
theorem graph_both (N : Int) (es fs : List Ed) : graphB N es ++ (graphB N fs).drop 4 = graphB N (es ++ fs) := by
  have : (graphB N fs).drop 4 = edgesB fs := by
    unfold graphB
    exact List.drop_left' (putB_length 4 N)
  rw [this, graphB, graphB, edgesB_append, List.append_assoc]
/-- 'b[4:]'. -/
theorem slice4 {w : World} {g n c : Nat} {bs : List Int} (h : IsB w (.slice (some ⟨g, 0, none⟩) n c) bs) (h4 : 4 ≤ n) :
    ∃ A : Option Addr, (if c = 4 then some (⟨g, 0, none⟩ : Addr) else some ⟨g, 4, none⟩) = A ∧ (bs.drop 4).length = n - 4 ∧ IsB w (.slice A (n - 4) (c - 4)) (bs.drop 4) := by
  have hn : bs.length = n := by
    obtain ⟨a, cap, he, h1⟩ := h.form
    simp only [Value.slice.injEq] at he
    exact he.2.1.symm
  have hnc : n ≤ c := by
    obtain ⟨a, cap, he, h1⟩ := h.form
    simp only [Value.slice.injEq] at he
    omega
  have hm := h.mid 4 (n - 4) (by omega)
  rw [List.take_of_length_le (by rw [List.length_drop]; omega)] at hm
  by_cases hc : c = 4
  · have h0 : bs.drop 4 = [] := by apply List.eq_nil_of_length_eq_zero; rw [List.length_drop]; omega
    rw [if_pos hc]
    refine ⟨_, rfl, by rw [List.length_drop]; omega, ?_⟩
    rw [h0]
    exact ⟨_, _, by rw [show n - 4 = 0 by omega]; rfl, by simp, by simp, by simp, by simp⟩
  · rw [if_neg hc]
    refine ⟨_, rfl, by rw [List.length_drop]; omega, ?_⟩
    simpa using hm

/-! ### The walk -/
set_option maxRecDepth 100000 in
set_option maxHeartbeats 4000000 in
theorem walk (n0 : Int) (a0 : Option Addr) (len0 cap0 : Nat) (es0 : List Ed) (n1 : Int) (a1 : Option Addr) (len1 cap1 : Nat) (es1 : List Ed) (w : World) (w0 : (Lit.int .i64 n0).wf = true) (i0 : IsE w (.slice a0 len0 cap0) es0) (l0 : es0.length = len0) (m0 : len0 ≤ maxLen) (w1 : (Lit.int .i64 n1).wf = true) (i1 : IsE w (.slice a1 len1 cap1) es1) (l1 : es1.length = len1) (m1 : len1 ≤ maxLen) :
    Calls Try.prog 8 #[.agg #[.int .i64 n0, .slice a0 len0 cap0], .agg #[.int .i64 n1, .slice a1 len1 cap1]] w fun e w' => e = .returned (.bool true) ∧ Below w.heap.size w w' := by
  obtain ⟨hn0, hn1⟩ := bounds_i64 w0
  obtain ⟨hk0, hk1⟩ := bounds_i64 w1
  subst l0
  subst l1
  unfold maxLen at m0 m1
  clear w0 w1
  go_enter Try.func8, Try.ntmps8
  go_wp2_with fail
  refine (shown_any _).mono ?_
  rintro e w1 ⟨rfl, b1⟩
  have g0 : ((w.alloc (.cells #[.int .i64 n0, .slice a0 es0.length cap0] 24)).alloc (.cells #[.int .i64 n1, .slice a1 es1.length cap1] 24)).heap[w.heap.size]? = some (.cells #[.int .i64 n0, .slice a0 es0.length cap0] 24 (0, 0)) := (Below.heap_alloc _ _ _ (by simp)).trans (heap_alloc_new w _)
  have h0 : ((w.alloc (.cells #[.int .i64 n0, .slice a0 es0.length cap0] 24)).alloc (.cells #[.int .i64 n1, .slice a1 es1.length cap1] 24)).heap[w.heap.size + 1]? = some (.cells #[.int .i64 n1, .slice a1 es1.length cap1] 24 (0, 0)) := by
    have := heap_alloc_new (w.alloc (.cells #[.int .i64 n0, .slice a0 es0.length cap0] 24)) (.cells #[.int .i64 n1, .slice a1 es1.length cap1] 24)
    simpa using this
  have B1 : Below w.heap.size w w1 := below_then (((Below.refl _ w).alloc (Nat.le_refl _) _).alloc (by simp) _) b1
  have G1 := hide (block_then g0 b1)
  have H1 := hide (block_then h0 b1)
  obtain ⟨c10, c11, f1⟩ := cells2 G1.out
  have hF := few_any n0 _ es0 w1 (i0.below B1)
  have HB1 := hide B1
  clear b1 g0 h0 B1
  go_wp2_with fail
  refine hF.mono ?_
  clear hF
  rintro e w2 ⟨ga, gcap, rfl, go2, b2⟩
  have s2 := block_then G1.out b2
  have t2 := block_then H1.out b2
  obtain ⟨c20, c21, f2⟩ := cells2 s2
  obtain ⟨fs, hfs⟩ : ∃ fs, fs = es0.take 40 := ⟨_, rfl⟩
  have hfl : fs.length ≤ 40 := by rw [hfs]; exact List.length_take_le _ _
  rw [← hfs] at go2 ⊢
  have S3b := hide (boxed (u0 := .int .i64 n0) (u1 := .slice (some ga) fs.length gcap) s2 (by decide) go2)
  have T3 : Hid (((w2.setCell ⟨w.heap.size, 0, none⟩ (.int .i64 n0)).setCell ⟨w.heap.size, 1, none⟩ (.slice (some ga) fs.length gcap)).heap[w.heap.size + 1]? = some (.cells #[.int .i64 n1, .slice a1 es1.length cap1] 24 (0, 0))) := (heap_setCell_other _ ⟨w.heap.size, 1, none⟩ _ _ (by simp)).trans ((heap_setCell_other _ ⟨w.heap.size, 0, none⟩ _ _ (by simp)).trans t2)
  have HB3 := hide (below_box (below_then HB1.out b2) (Nat.le_refl w.heap.size) (.int .i64 n0) (.slice (some ga) fs.length gcap))
  clear c10 c11 f1 s2 t2 b2 go2 hfs G1 H1 HB1
  obtain ⟨d20, d21, k2⟩ := cells2 T3.out
  go_wp2_with fail
  generalize ((w2.setCell ⟨w.heap.size, 0, none⟩ (.int .i64 n0)).setCell ⟨w.heap.size, 1, none⟩ (.slice (some ga) fs.length gcap)) = w3 at S3b T3 HB3 d20 d21 k2 ⊢
  obtain ⟨s3, o3⟩ := S3b.out
  have S3 := hide s3
  have O3 := hide o3
  have hF := few_any n1 _ es1 w3 (i1.below HB3.out)
  clear s3 o3 S3b c20 c21 f2
  refine hF.mono ?_
  clear hF
  rintro e w4 ⟨ha, hcap, rfl, ho4, b4⟩
  have s4 := block_then S3.out b4
  have t4 := block_then T3.out b4
  obtain ⟨d40, d41, k4⟩ := cells2 t4
  obtain ⟨hs, hhs⟩ : ∃ hs, hs = es1.take 40 := ⟨_, rfl⟩
  have hhl : hs.length ≤ 40 := by rw [hhs]; exact List.length_take_le _ _
  rw [← hhs] at ho4 ⊢
  have T5b := hide (boxed (u0 := .int .i64 n1) (u1 := .slice (some ha) hs.length hcap) t4 (by decide) ho4)
  have U5b := hide (boxed (u0 := .int .i64 n1) (u1 := .slice (some ha) hs.length hcap) t4 (by decide) (O3.out.below b4))
  have S5 : Hid (((w4.setCell ⟨w.heap.size + 1, 0, none⟩ (.int .i64 n1)).setCell ⟨w.heap.size + 1, 1, none⟩ (.slice (some ha) hs.length hcap)).heap[w.heap.size]? = some (.cells #[.int .i64 n0, .slice (some ga) fs.length gcap] 24 (0, 0))) := (heap_setCell_other _ ⟨w.heap.size + 1, 1, none⟩ _ _ (by simp)).trans ((heap_setCell_other _ ⟨w.heap.size + 1, 0, none⟩ _ _ (by simp)).trans s4)
  have HB5 := hide (below_box (below_then HB3.out b4) (Nat.le_succ w.heap.size) (.int .i64 n1) (.slice (some ha) hs.length hcap))
  obtain ⟨c50, c51, f5⟩ := cells2 S5.out
  clear s4 t4 b4 ho4 hhs S3 T3 O3 HB3 d20 d21 k2
  go_wp2_with fail
  generalize ((w4.setCell ⟨w.heap.size + 1, 0, none⟩ (.int .i64 n1)).setCell ⟨w.heap.size + 1, 1, none⟩ (.slice (some ha) hs.length hcap)) = w5 at T5b U5b S5 HB5 c50 c51 f5 ⊢
  have T5 := hide T5b.out.1
  have OH5 := hide T5b.out.2
  have OG5 := hide U5b.out.2
  obtain ⟨d50, d51, k5⟩ := cells2 T5.out
  clear T5b U5b d40 d41 k4
  have R0 := hide fun v w hI => right_any n0 (by omega) v fs w hI (by omega)
  have R1 := hide fun v w hI => right_any n1 (by omega) v hs w hI (by omega)
  cases hr0 : rightB n0 fs with
  | false =>
    rw [hr0] at R0
    refine (R0.out _ _ OG5.out.isE).mono ?_
    rintro e w6 ⟨rfl, b6⟩
    go_wp2
    go_ret
    exact ⟨rfl, below_then HB5.out b6⟩
  | true =>
    rw [hr0] at R0
    refine (R0.out _ _ OG5.out.isE).mono ?_
    rintro e w6 ⟨rfl, b6⟩
    obtain ⟨d60, d61, k6⟩ := cells2 (block_then T5.out b6)
    have B6 := hide b6
    clear b6 d50 d51 k5 c50 c51 f5
    go_wp2_with fail
    cases hr1 : rightB n1 hs with
    | false =>
      rw [hr1] at R1
      refine (R1.out _ _ (OH5.out.isE.below B6.out)).mono ?_
      rintro e w7 ⟨rfl, b7⟩
      go_wp2
      go_ret
      exact ⟨rfl, below_then HB5.out (below_then B6.out b7)⟩
    | true =>
      rw [hr1] at R1
      refine (R1.out _ _ (OH5.out.isE.below B6.out)).mono ?_
      rintro e w7 ⟨rfl, b7⟩
      have B7 := hide (below_then B6.out b7)
      obtain ⟨c70, c71, f7⟩ := cells2 (block_then S5.out B7.out)
      obtain ⟨d70, d71, k7⟩ := cells2 (block_then T5.out B7.out)
      obtain ⟨N, hN⟩ : ∃ N, max n0 n1 = N := ⟨_, rfl⟩
      have p0 := rightB_parts hr0
      have p1 := rightB_parts hr1
      have hrg := right_mono hr0 (show n0 ≤ N by omega) (by omega)
      have hrh := right_mono hr1 (show n1 ≤ N by omega) (by omega)
      have hrb := right_both hrg hrh (by omega)
      have hdb := dec_right N (fs ++ hs) (fun e he => by rcases List.mem_append.1 he with he | he; exact OG5.out.2 e he; exact OH5.out.2 e he) hrb
      have hgb := graph_both N fs hs
      rw [← hgb] at hdb
      have EG := hide fun v w hI => encode_go N v fs w hI hrg
      have EH := hide fun v w hI => encode_go N v hs w hI hrh
      have hgl := graphB_length N fs
      have hhl2 := graphB_length N hs
      obtain ⟨bg, hbg⟩ : ∃ b, b = graphB N fs := ⟨_, rfl⟩
      obtain ⟨bh, hbh⟩ : ∃ b, b = graphB N hs := ⟨_, rfl⟩
      rw [← hbg] at EG hdb hgl
      rw [← hbh] at EH hdb hhl2
      obtain ⟨ks, hks⟩ : ∃ ks, ks = fs ++ hs := ⟨_, rfl⟩
      rw [← hks] at hdb
      have HDB := hide hdb
      have HKS := hide hks
      have hkl : ks.length ≤ 80 := by rw [hks, List.length_append]; omega
      have hgl1 : bg.length ≤ 484 := by omega
      have hhl1 : bh.length ≤ 484 := by omega
      have hhl4 : 4 ≤ bh.length := by omega
      clear b7 hr0 hr1 p0 p1 hrg hrh hrb hdb hgb hbg hbh d60 d61 k6 hgl hhl2 hks
      go_wp2_with fail
      refine (EG.out _ _ (OG5.out.isE.below B7.out)).mono ?_
      rintro e w8 ⟨g8, cap8, rfl, o8, b8⟩
      have B8 := hide (below_then B7.out b8)
      obtain ⟨d80, d81, k8⟩ := cells2 (block_then T5.out B8.out)
      have O8 := hide o8
      clear o8 b8 c70 c71 f7 d70 d71 k7 hN
      go_wp2_with fail
      refine (EH.out _ _ (OH5.out.isE.below B8.out)).mono ?_
      rintro e w9 ⟨g9, cap9, rfl, o9, b9⟩
      have B9 := hide (below_then B8.out b9)
      have O89 := hide (O8.out.below b9)
      have O9 := hide o9
      have hcap9 := o9.len_le
      obtain ⟨A, hA, hAl, hAI⟩ := slice4 o9.isB hhl4
      have HAI := hide hAI
      have HAL := hide hAl
      clear o9 b9 d80 d81 k8 hAI hAl
      have z1 : Below w9.heap.size w9 ((w9.alloc (.cells #[.int .i64 0, .slice none 0 0] 24)).alloc (.cells #[] 5)).drew := (((Below.refl _ w9).alloc (Nat.le_refl _) _).alloc (by simp) _).drew
      have z2 : Below w9.heap.size w9 ((w9.alloc (.cells #[] 5)).alloc (.cells #[.int .i64 0, .slice none 0 0] 24)).drew := (((Below.refl _ w9).alloc (Nat.le_refl _) _).alloc (by simp) _).drew
      have z3 : Below w9.heap.size w9 (w9.alloc (.cells #[] 5)).drew := ((Below.refl _ w9).alloc (Nat.le_refl _) _).drew
      have o1 := OwnB.empty (w9.alloc (.cells #[.int .i64 0, .slice none 0 0] 24)) w9.heap.size (by simp)
      rw [World.size_alloc] at o1
      have OV1 : Hid (OwnB w9.heap.size ((w9.alloc (.cells #[.int .i64 0, .slice none 0 0] 24)).alloc (.cells #[] 5)).drew (w9.heap.size + 1) 0 []) := o1
      have OV3 : Hid (OwnB w9.heap.size (w9.alloc (.cells #[] 5)).drew w9.heap.size 0 []) := OwnB.empty w9 w9.heap.size (Nat.le_refl _)
      have OV2 : Hid (OwnB w9.heap.size ((w9.alloc (.cells #[] 5)).alloc (.cells #[.int .i64 0, .slice none 0 0] 24)).drew w9.heap.size 0 []) := (OwnB.empty w9 w9.heap.size (Nat.le_refl _)).alloc (.cells #[.int .i64 0, .slice none 0 0] 24)
      have q1 : Hid ((((w9.alloc (.cells #[.int .i64 0, .slice none 0 0] 24)).alloc (.cells #[] 5)).drew).heap[w9.heap.size]? = some (.cells #[.int .i64 0, .slice none 0 0] 24 (0, 0))) := (Below.heap_alloc _ _ _ (by simp)).trans (heap_alloc_new w9 _)
      have q2' : ((w9.alloc (.cells #[] 5)).alloc (.cells #[.int .i64 0, .slice none 0 0] 24)).heap[w9.heap.size + 1]? = some (.cells #[.int .i64 0, .slice none 0 0] 24 (0, 0)) := by
        have := heap_alloc_new (w9.alloc (.cells #[] 5)) (.cells #[.int .i64 0, .slice none 0 0] 24)
        simpa using this
      have q2 : Hid ((((w9.alloc (.cells #[] 5)).alloc (.cells #[.int .i64 0, .slice none 0 0] 24)).drew).heap[w9.heap.size + 1]? = some (.cells #[.int .i64 0, .slice none 0 0] 24 (0, 0))) := q2'
      clear q2'
      have Z1 := hide z1
      have Z2 := hide z2
      have Z3 := hide z3
      have XB := hide fun w' (hb : Below w9.heap.size w9 w') => (O89.out.isB.below hb)
      have XA := hide fun w' (hb : Below w9.heap.size w9 w') => (HAI.out.below hb)
      have DB := hide fun g cap w' (hb : IsB w' (.slice (some ⟨g, 0, none⟩) (bg.length + (bh.drop 4).length) cap) (bg ++ bh.drop 4)) => decode_any _ _ w' hb (by simp; omega)
      rw [HDB.out] at DB
      clear z1 z2 z3 o1
      obtain ⟨bt, hbt⟩ : ∃ b, b = bh.drop 4 := ⟨_, rfl⟩
      rw [← hbt] at HAL XA DB
      have hbtl : bt.length ≤ 480 := by rw [HAL.out]; omega
      rw [← HAL.out] at XA
      have hal2 : bh.length - 4 = bt.length := HAL.out.symm
      clear hbt HDB HAI
      have AL0 := fun v u w hI hJ => alike_any v u ks (fs ++ hs) w hI hJ (by omega)
      rw [decide_eq_true HKS.out] at AL0
      have AL := hide AL0
      clear AL0
      go_wp2
      go_region_held_law (fun _ => True) (trivial) (first
        | (refine step_appendO _ ?_ (.tmp 61) (.tmp 62) ?_ w9.heap.size (w9.heap.size + 1) 0 [] bg (.slice (some ⟨g8, 0, none⟩) bg.length cap8) ?_ ?_ ?_ ?_ ?_ ?_ ?_; rfl; rfl; rfl; exact OV1.out; rfl; exact XB.out _ Z1.out; (simp; omega); exact Z1.out.size; intro g10 cap10 w10 o10 b10 k10; have O10 := hide o10; have PG := hide ((k10 w9.heap.size (by simp; omega) (by omega)).trans q1.out); have B10 := hide (Z1.out.trans b10); clear o10 b10 k10)
        | (refine step_appendO _ ?_ (.tmp 61) (.tmp 62) ?_ w9.heap.size w9.heap.size 0 [] bg (.slice (some ⟨g8, 0, none⟩) bg.length cap8) ?_ ?_ ?_ ?_ ?_ ?_ ?_; rfl; rfl; rfl; exact OV2.out; rfl; exact XB.out _ Z2.out; (simp; omega); exact Z2.out.size; intro g10 cap10 w10 o10 b10 k10; have O10 := hide o10; have PG := hide ((k10 (w9.heap.size + 1) (by simp) (by omega)).trans q2.out); have B10 := hide (Z2.out.trans b10); clear o10 b10 k10)
        | (refine step_appendO _ ?_ (.tmp 61) (.tmp 62) ?_ w9.heap.size w9.heap.size 0 [] bg (.slice (some ⟨g8, 0, none⟩) bg.length cap8) ?_ ?_ ?_ ?_ ?_ ?_ ?_; rfl; rfl; rfl; exact OV3.out; rfl; exact XB.out _ Z3.out; (simp; omega); exact Z3.out.size; intro g10 cap10 w10 o10 b10 k10; have O10 := hide o10; have B10 := hide (Z3.out.trans b10); clear o10 b10 k10)
        | (refine step_appendO _ ?_ (.tmp 63) (.tmp 65) ?_ w9.heap.size g10 cap10 ([] ++ bg) bt (.slice A bt.length (cap9 - 4)) ?_ ?_ ?_ ?_ ?_ ?_ ?_; rfl; rfl; (first | rfl | simp [Act.eval, Act.put]); exact O10.out; (first | rfl | simp [Act.eval, Act.put, hal2]); exact XA.out _ B10.out; (simp; omega); exact B10.out.size; intro g11 cap11 w11 o11 b11 k11; rw [List.nil_append] at o11; have i11 := o11.isB; rw [List.length_append] at i11; have I11 := hide i11; have O11 := hide o11; clear i11; have PG := hide ((k11 _ (Array.getElem?_eq_some_iff.1 PG.out).1 (O10.out.block_ne PG.out (by decide))).trans PG.out); have B11 := hide (B10.out.trans b11); clear o11 b11 k11)
        | (refine step_appendO _ ?_ (.tmp 63) (.tmp 65) ?_ w9.heap.size g10 cap10 ([] ++ bg) bt (.slice A bt.length (cap9 - 4)) ?_ ?_ ?_ ?_ ?_ ?_ ?_; rfl; rfl; (first | rfl | simp [Act.eval, Act.put]); exact O10.out.alloc (.cells #[.int .i64 0, .slice none 0 0] 24); (first | rfl | simp [Act.eval, Act.put, hal2]); exact XA.out _ (B10.out.alloc B10.out.size (.cells #[.int .i64 0, .slice none 0 0] 24)); (simp; omega); exact (B10.out.alloc B10.out.size (.cells #[.int .i64 0, .slice none 0 0] 24)).size; intro g11 cap11 w11 o11 b11 k11; rw [List.nil_append] at o11; have i11 := o11.isB; rw [List.length_append] at i11; have I11 := hide i11; have O11 := hide o11; clear i11; have PG := hide ((k11 w10.heap.size (by simp) ((O10.out.alloc (.cells #[.int .i64 0, .slice none 0 0] 24)).block_ne (heap_alloc_new w10 (.cells #[.int .i64 0, .slice none 0 0] 24)) (by decide))).trans (heap_alloc_new w10 (.cells #[.int .i64 0, .slice none 0 0] 24))); have B11 := hide ((B10.out.alloc B10.out.size (.cells #[.int .i64 0, .slice none 0 0] 24)).trans b11); clear o11 b11 k11)
        | (refine step_appendO _ ?_ (.tmp 63) (.tmp 65) ?_ w9.heap.size g10 cap10 ([] ++ bg) bt (.slice A bt.length (cap9 - 4)) ?_ ?_ ?_ ?_ ?_ ?_ ?_; rfl; rfl; (first | rfl | simp [Act.eval, Act.put]); exact O10.out; (first | rfl | simp [Act.eval, Act.put, hal2]); exact XA.out _ B10.out; (simp; omega); exact B10.out.size; intro g11 cap11 w11 o11 b11 k11; rw [List.nil_append] at o11; have i11 := o11.isB; rw [List.length_append] at i11; have I11 := hide i11; have O11 := hide o11; clear i11; have B11 := hide (B10.out.trans b11); clear o11 b11 k11)
        | (go_at_call 18; refine (DB.out _ _ _ I11.out).mono ?_; rintro e w12 ⟨v12, rfl, i12, b12⟩; obtain ⟨a12, cap12, rfl, _⟩ := i12.form; have PG2 := hide (block_then PG.out b12); obtain ⟨p0, p1, pf⟩ := cells2 PG2.out; have B12 := hide (B11.out.trans (b12.mono B11.out.size)); have I12 := hide i12; clear i12 b12)
        | (go_at_call 18; refine (DB.out _ _ _ (I11.out.below ((Below.refl _ w11).alloc (Nat.le_refl _) (.cells #[.int .i64 0, .slice none 0 0] 24)))).mono ?_; rintro e w12 ⟨v12, rfl, i12, b12⟩; obtain ⟨a12, cap12, rfl, _⟩ := i12.form; have PG2 := hide (block_then (heap_alloc_new w11 (.cells #[.int .i64 0, .slice none 0 0] 24)) b12); obtain ⟨p0, p1, pf⟩ := cells2 PG2.out; have B12 := hide (B11.out.trans (((Below.refl _ w11).alloc (Nat.le_refl _) (.cells #[.int .i64 0, .slice none 0 0] 24)).trans (b12.mono (by simp)) |>.mono B11.out.size)); have I12 := hide i12; clear i12 b12)
        | (go_at_call 18; refine (DB.out _ _ _ I11.out).mono ?_; rintro e w12 ⟨v12, rfl, i12, b12⟩; obtain ⟨a12, cap12, rfl, _⟩ := i12.form; have B12 := hide (B11.out.trans (b12.mono B11.out.size)); have I12 := hide i12; clear i12 b12))
      · skip
        have BW : Below w9.heap.size w9 (w12.alloc (.cells #[.int .i64 N, (.slice a12 ks.length cap12)] 24)) := B12.out.alloc B12.out.size _
        have QW : (w12.alloc (.cells #[.int .i64 N, (.slice a12 ks.length cap12)] 24)).heap[w12.heap.size]? = some (.cells #[.int .i64 N, (.slice a12 ks.length cap12)] 24 (0, 0)) := heap_alloc_new w12 _
        have IW : IsE (w12.alloc (.cells #[.int .i64 N, (.slice a12 ks.length cap12)] 24)) (.slice a12 ks.length cap12) ks := I12.out.below ((Below.refl _ w12).alloc (Nat.le_refl _) _)
        generalize hWX : (w12.alloc (.cells #[.int .i64 N, (.slice a12 ks.length cap12)] 24)) = W at BW QW IW ⊢
        clear hWX 
        have QW' := hide QW
        have IW' := hide IW
        have BW' := hide BW
        have f1 : ∀ w', Below W.heap.size W w' → w'.cell? ⟨w12.heap.size, 0, none⟩ = some (.int .i64 N) ∧ w'.cell? ⟨w12.heap.size, 1, none⟩ = some (.slice a12 ks.length cap12) ∧ w'.cell? ⟨w.heap.size, 1, none⟩ = some (.slice (some ga) fs.length gcap) ∧ w'.cell? ⟨w.heap.size + 1, 1, none⟩ = some (.slice (some ha) hs.length hcap) := fun w' hb => by
          obtain ⟨x0, x1, _⟩ := cells2 (block_then QW'.out hb)
          have hb9 := below_then B9.out (BW'.out.trans (hb.mono BW'.out.size))
          obtain ⟨_, y1, _⟩ := cells2 (block_then S5.out hb9)
          obtain ⟨_, z1, _⟩ := cells2 (block_then T5.out hb9)
          exact ⟨x0, x1, y1, z1⟩
        have F1 := hide f1
        have hb5 := below_then B9.out BW'.out
        have IG := hide fun w' (hb : Below W.heap.size W w') => OG5.out.isE.below (below_then hb5 hb)
        have IH := hide fun w' (hb : Below W.heap.size W w') => OH5.out.isE.below (below_then hb5 hb)
        have HB5' := hide hb5
        clear BW QW IW f1 hb5
        have OE := OwnV.empty W W.heap.size (Nat.le_refl _)
        have OE1 : Hid (OwnV W.heap.size (W.alloc (.cells #[] 39)).drew (.slice (some ⟨W.heap.size, 0, none⟩) 0 0) []) := OE
        have b1 : Below W.heap.size W (W.alloc (.cells #[] 39)).drew := ((Below.refl _ W).alloc (Nat.le_refl _) _).drew
        have BE := hide b1
        clear OE b1
        go_wp2
        go_region_held_law (fun w' => w'.cell? ⟨w12.heap.size, 0, none⟩ = some (.int .i64 N) ∧ w'.cell? ⟨w12.heap.size, 1, none⟩ = some (.slice a12 ks.length cap12) ∧ w'.cell? ⟨w.heap.size, 1, none⟩ = some (.slice (some ga) fs.length gcap) ∧ w'.cell? ⟨w.heap.size + 1, 1, none⟩ = some (.slice (some ha) hs.length hcap)) (first | exact F1.out _ (Below.refl _ _).drew | exact F1.out _ BE.out | exact F1.out _ BF.out | exact F1.out _ BH.out | exact F1.out _ BI.out) (first
          | (refine step_appendW _ ?_ (.tmp 89) (.tmp 91) ?_ W.heap.size (.slice (some ⟨W.heap.size, 0, none⟩) 0 0) (.slice (some ga) fs.length gcap) [] fs ?_ ?_ ?_ ?_ ?_ ?_ ?_; rfl; rfl; rfl; exact OE1.out; rfl; exact IG.out _ BE.out; (simp; omega); exact BE.out.size; intro a13 cap13 w13 o13 g13 n13; rw [List.nil_append, List.length_nil, Nat.zero_add] at o13; have OF := hide o13; have BF := hide (BE.out.grown g13 BE.out.size (by intro k hk; simp [Value.ownBlock] at hk; omega)); clear o13 g13 n13)
          | (refine step_appendW _ ?_ (.tmp 92) (.tmp 94) ?_ W.heap.size (.slice a13 fs.length cap13) (.slice (some ha) hs.length hcap) fs hs ?_ ?_ ?_ ?_ ?_ ?_ ?_; rfl; rfl; (first | rfl | simp [Act.eval, Act.put]); exact OF.out; rfl; exact IH.out _ BF.out; omega; exact BF.out.size; intro a14 cap14 w14 o14 g14 n14; have OH := hide o14; have BH := hide (BF.out.grown g14 BF.out.size (by intro k hk; have := OF.out.base k hk; omega)); clear o14 g14 n14)
          | (go_at_call 16; refine (AL.out _ _ _ (IW'.out.below BH.out) OH.out.isE).mono ?_; rintro e w15 ⟨rfl, b15⟩; have BI := hide (below_then BH.out b15); clear b15))
        all_goals go_wp2
        all_goals go_ret
        all_goals exact ⟨rfl, below_then HB5.out (below_then HB5'.out BI.out)⟩
      · skip
        have BW : Below w9.heap.size w9 ((w12.setCell ⟨w11.heap.size, 0, none⟩ (.int .i64 N)).setCell ⟨w11.heap.size, 1, none⟩ (.slice a12 ks.length cap12)) := below_box B12.out (by first | exact Nat.le_refl _ | exact Nat.le_succ _ | exact B10.out.size | exact B11.out.size) _ _
        have h1 := heap_setCell_same w12 (w11.heap.size) 0 _ _ (.int .i64 N) PG2.out
        have h2 := heap_setCell_same (w12.setCell ⟨w11.heap.size, 0, none⟩ (.int .i64 N)) (w11.heap.size) 1 _ _ (.slice a12 ks.length cap12) h1
        simp only [List.setIfInBounds_toArray, List.set_cons_zero, List.set_cons_succ] at h1 h2
        have QW : ((w12.setCell ⟨w11.heap.size, 0, none⟩ (.int .i64 N)).setCell ⟨w11.heap.size, 1, none⟩ (.slice a12 ks.length cap12)).heap[w11.heap.size]? = some (.cells #[.int .i64 N, (.slice a12 ks.length cap12)] 24 (0, 0)) := h2
        have IW : IsE ((w12.setCell ⟨w11.heap.size, 0, none⟩ (.int .i64 N)).setCell ⟨w11.heap.size, 1, none⟩ (.slice a12 ks.length cap12)) (.slice a12 ks.length cap12) ks := (I12.out.boxed _ PG2.out).boxed _ h1
        clear h1 h2
        generalize hWX : ((w12.setCell ⟨w11.heap.size, 0, none⟩ (.int .i64 N)).setCell ⟨w11.heap.size, 1, none⟩ (.slice a12 ks.length cap12)) = W at BW QW IW ⊢
        clear hWX p0 p1 pf 
        have QW' := hide QW
        have IW' := hide IW
        have BW' := hide BW
        have f1 : ∀ w', Below W.heap.size W w' → w'.cell? ⟨w11.heap.size, 0, none⟩ = some (.int .i64 N) ∧ w'.cell? ⟨w11.heap.size, 1, none⟩ = some (.slice a12 ks.length cap12) ∧ w'.cell? ⟨w.heap.size, 1, none⟩ = some (.slice (some ga) fs.length gcap) ∧ w'.cell? ⟨w.heap.size + 1, 1, none⟩ = some (.slice (some ha) hs.length hcap) := fun w' hb => by
          obtain ⟨x0, x1, _⟩ := cells2 (block_then QW'.out hb)
          have hb9 := below_then B9.out (BW'.out.trans (hb.mono BW'.out.size))
          obtain ⟨_, y1, _⟩ := cells2 (block_then S5.out hb9)
          obtain ⟨_, z1, _⟩ := cells2 (block_then T5.out hb9)
          exact ⟨x0, x1, y1, z1⟩
        have F1 := hide f1
        have hb5 := below_then B9.out BW'.out
        have IG := hide fun w' (hb : Below W.heap.size W w') => OG5.out.isE.below (below_then hb5 hb)
        have IH := hide fun w' (hb : Below W.heap.size W w') => OH5.out.isE.below (below_then hb5 hb)
        have HB5' := hide hb5
        clear BW QW IW f1 hb5
        have OE := OwnV.empty W W.heap.size (Nat.le_refl _)
        have OE1 : Hid (OwnV W.heap.size (W.alloc (.cells #[] 39)).drew (.slice (some ⟨W.heap.size, 0, none⟩) 0 0) []) := OE
        have b1 : Below W.heap.size W (W.alloc (.cells #[] 39)).drew := ((Below.refl _ W).alloc (Nat.le_refl _) _).drew
        have BE := hide b1
        clear OE b1
        go_wp2
        go_region_held_law (fun w' => w'.cell? ⟨w11.heap.size, 0, none⟩ = some (.int .i64 N) ∧ w'.cell? ⟨w11.heap.size, 1, none⟩ = some (.slice a12 ks.length cap12) ∧ w'.cell? ⟨w.heap.size, 1, none⟩ = some (.slice (some ga) fs.length gcap) ∧ w'.cell? ⟨w.heap.size + 1, 1, none⟩ = some (.slice (some ha) hs.length hcap)) (first | exact F1.out _ (Below.refl _ _).drew | exact F1.out _ BE.out | exact F1.out _ BF.out | exact F1.out _ BH.out | exact F1.out _ BI.out) (first
          | (refine step_appendW _ ?_ (.tmp 89) (.tmp 91) ?_ W.heap.size (.slice (some ⟨W.heap.size, 0, none⟩) 0 0) (.slice (some ga) fs.length gcap) [] fs ?_ ?_ ?_ ?_ ?_ ?_ ?_; rfl; rfl; rfl; exact OE1.out; rfl; exact IG.out _ BE.out; (simp; omega); exact BE.out.size; intro a13 cap13 w13 o13 g13 n13; rw [List.nil_append, List.length_nil, Nat.zero_add] at o13; have OF := hide o13; have BF := hide (BE.out.grown g13 BE.out.size (by intro k hk; simp [Value.ownBlock] at hk; omega)); clear o13 g13 n13)
          | (refine step_appendW _ ?_ (.tmp 92) (.tmp 94) ?_ W.heap.size (.slice a13 fs.length cap13) (.slice (some ha) hs.length hcap) fs hs ?_ ?_ ?_ ?_ ?_ ?_ ?_; rfl; rfl; (first | rfl | simp [Act.eval, Act.put]); exact OF.out; rfl; exact IH.out _ BF.out; omega; exact BF.out.size; intro a14 cap14 w14 o14 g14 n14; have OH := hide o14; have BH := hide (BF.out.grown g14 BF.out.size (by intro k hk; have := OF.out.base k hk; omega)); clear o14 g14 n14)
          | (go_at_call 16; refine (AL.out _ _ _ (IW'.out.below BH.out) OH.out.isE).mono ?_; rintro e w15 ⟨rfl, b15⟩; have BI := hide (below_then BH.out b15); clear b15))
        all_goals go_wp2
        all_goals go_ret
        all_goals exact ⟨rfl, below_then HB5.out (below_then HB5'.out BI.out)⟩
      · skip
        have BW : Below w9.heap.size w9 ((w12.setCell ⟨w10.heap.size, 0, none⟩ (.int .i64 N)).setCell ⟨w10.heap.size, 1, none⟩ (.slice a12 ks.length cap12)) := below_box B12.out (by first | exact Nat.le_refl _ | exact Nat.le_succ _ | exact B10.out.size | exact B11.out.size) _ _
        have h1 := heap_setCell_same w12 (w10.heap.size) 0 _ _ (.int .i64 N) PG2.out
        have h2 := heap_setCell_same (w12.setCell ⟨w10.heap.size, 0, none⟩ (.int .i64 N)) (w10.heap.size) 1 _ _ (.slice a12 ks.length cap12) h1
        simp only [List.setIfInBounds_toArray, List.set_cons_zero, List.set_cons_succ] at h1 h2
        have QW : ((w12.setCell ⟨w10.heap.size, 0, none⟩ (.int .i64 N)).setCell ⟨w10.heap.size, 1, none⟩ (.slice a12 ks.length cap12)).heap[w10.heap.size]? = some (.cells #[.int .i64 N, (.slice a12 ks.length cap12)] 24 (0, 0)) := h2
        have IW : IsE ((w12.setCell ⟨w10.heap.size, 0, none⟩ (.int .i64 N)).setCell ⟨w10.heap.size, 1, none⟩ (.slice a12 ks.length cap12)) (.slice a12 ks.length cap12) ks := (I12.out.boxed _ PG2.out).boxed _ h1
        clear h1 h2
        generalize hWX : ((w12.setCell ⟨w10.heap.size, 0, none⟩ (.int .i64 N)).setCell ⟨w10.heap.size, 1, none⟩ (.slice a12 ks.length cap12)) = W at BW QW IW ⊢
        clear hWX p0 p1 pf 
        have QW' := hide QW
        have IW' := hide IW
        have BW' := hide BW
        have f1 : ∀ w', Below W.heap.size W w' → w'.cell? ⟨w10.heap.size, 0, none⟩ = some (.int .i64 N) ∧ w'.cell? ⟨w10.heap.size, 1, none⟩ = some (.slice a12 ks.length cap12) ∧ w'.cell? ⟨w.heap.size, 1, none⟩ = some (.slice (some ga) fs.length gcap) ∧ w'.cell? ⟨w.heap.size + 1, 1, none⟩ = some (.slice (some ha) hs.length hcap) := fun w' hb => by
          obtain ⟨x0, x1, _⟩ := cells2 (block_then QW'.out hb)
          have hb9 := below_then B9.out (BW'.out.trans (hb.mono BW'.out.size))
          obtain ⟨_, y1, _⟩ := cells2 (block_then S5.out hb9)
          obtain ⟨_, z1, _⟩ := cells2 (block_then T5.out hb9)
          exact ⟨x0, x1, y1, z1⟩
        have F1 := hide f1
        have hb5 := below_then B9.out BW'.out
        have IG := hide fun w' (hb : Below W.heap.size W w') => OG5.out.isE.below (below_then hb5 hb)
        have IH := hide fun w' (hb : Below W.heap.size W w') => OH5.out.isE.below (below_then hb5 hb)
        have HB5' := hide hb5
        clear BW QW IW f1 hb5
        have OE := OwnV.empty W W.heap.size (Nat.le_refl _)
        have OE1 : Hid (OwnV W.heap.size (W.alloc (.cells #[] 39)).drew (.slice (some ⟨W.heap.size, 0, none⟩) 0 0) []) := OE
        have b1 : Below W.heap.size W (W.alloc (.cells #[] 39)).drew := ((Below.refl _ W).alloc (Nat.le_refl _) _).drew
        have BE := hide b1
        clear OE b1
        go_wp2
        go_region_held_law (fun w' => w'.cell? ⟨w10.heap.size, 0, none⟩ = some (.int .i64 N) ∧ w'.cell? ⟨w10.heap.size, 1, none⟩ = some (.slice a12 ks.length cap12) ∧ w'.cell? ⟨w.heap.size, 1, none⟩ = some (.slice (some ga) fs.length gcap) ∧ w'.cell? ⟨w.heap.size + 1, 1, none⟩ = some (.slice (some ha) hs.length hcap)) (first | exact F1.out _ (Below.refl _ _).drew | exact F1.out _ BE.out | exact F1.out _ BF.out | exact F1.out _ BH.out | exact F1.out _ BI.out) (first
          | (refine step_appendW _ ?_ (.tmp 89) (.tmp 91) ?_ W.heap.size (.slice (some ⟨W.heap.size, 0, none⟩) 0 0) (.slice (some ga) fs.length gcap) [] fs ?_ ?_ ?_ ?_ ?_ ?_ ?_; rfl; rfl; rfl; exact OE1.out; rfl; exact IG.out _ BE.out; (simp; omega); exact BE.out.size; intro a13 cap13 w13 o13 g13 n13; rw [List.nil_append, List.length_nil, Nat.zero_add] at o13; have OF := hide o13; have BF := hide (BE.out.grown g13 BE.out.size (by intro k hk; simp [Value.ownBlock] at hk; omega)); clear o13 g13 n13)
          | (refine step_appendW _ ?_ (.tmp 92) (.tmp 94) ?_ W.heap.size (.slice a13 fs.length cap13) (.slice (some ha) hs.length hcap) fs hs ?_ ?_ ?_ ?_ ?_ ?_ ?_; rfl; rfl; (first | rfl | simp [Act.eval, Act.put]); exact OF.out; rfl; exact IH.out _ BF.out; omega; exact BF.out.size; intro a14 cap14 w14 o14 g14 n14; have OH := hide o14; have BH := hide (BF.out.grown g14 BF.out.size (by intro k hk; have := OF.out.base k hk; omega)); clear o14 g14 n14)
          | (go_at_call 16; refine (AL.out _ _ _ (IW'.out.below BH.out) OH.out.isE).mono ?_; rintro e w15 ⟨rfl, b15⟩; have BI := hide (below_then BH.out b15); clear b15))
        all_goals go_wp2
        all_goals go_ret
        all_goals exact ⟨rfl, below_then HB5.out (below_then HB5'.out BI.out)⟩
      · skip
        have BW : Below w9.heap.size w9 ((w12.setCell ⟨w9.heap.size + 1, 0, none⟩ (.int .i64 N)).setCell ⟨w9.heap.size + 1, 1, none⟩ (.slice a12 ks.length cap12)) := below_box B12.out (by first | exact Nat.le_refl _ | exact Nat.le_succ _ | exact B10.out.size | exact B11.out.size) _ _
        have h1 := heap_setCell_same w12 (w9.heap.size + 1) 0 _ _ (.int .i64 N) PG2.out
        have h2 := heap_setCell_same (w12.setCell ⟨w9.heap.size + 1, 0, none⟩ (.int .i64 N)) (w9.heap.size + 1) 1 _ _ (.slice a12 ks.length cap12) h1
        simp only [List.setIfInBounds_toArray, List.set_cons_zero, List.set_cons_succ] at h1 h2
        have QW : ((w12.setCell ⟨w9.heap.size + 1, 0, none⟩ (.int .i64 N)).setCell ⟨w9.heap.size + 1, 1, none⟩ (.slice a12 ks.length cap12)).heap[w9.heap.size + 1]? = some (.cells #[.int .i64 N, (.slice a12 ks.length cap12)] 24 (0, 0)) := h2
        have IW : IsE ((w12.setCell ⟨w9.heap.size + 1, 0, none⟩ (.int .i64 N)).setCell ⟨w9.heap.size + 1, 1, none⟩ (.slice a12 ks.length cap12)) (.slice a12 ks.length cap12) ks := (I12.out.boxed _ PG2.out).boxed _ h1
        clear h1 h2
        generalize hWX : ((w12.setCell ⟨w9.heap.size + 1, 0, none⟩ (.int .i64 N)).setCell ⟨w9.heap.size + 1, 1, none⟩ (.slice a12 ks.length cap12)) = W at BW QW IW ⊢
        clear hWX p0 p1 pf 
        have QW' := hide QW
        have IW' := hide IW
        have BW' := hide BW
        have f1 : ∀ w', Below W.heap.size W w' → w'.cell? ⟨w9.heap.size + 1, 0, none⟩ = some (.int .i64 N) ∧ w'.cell? ⟨w9.heap.size + 1, 1, none⟩ = some (.slice a12 ks.length cap12) ∧ w'.cell? ⟨w.heap.size, 1, none⟩ = some (.slice (some ga) fs.length gcap) ∧ w'.cell? ⟨w.heap.size + 1, 1, none⟩ = some (.slice (some ha) hs.length hcap) := fun w' hb => by
          obtain ⟨x0, x1, _⟩ := cells2 (block_then QW'.out hb)
          have hb9 := below_then B9.out (BW'.out.trans (hb.mono BW'.out.size))
          obtain ⟨_, y1, _⟩ := cells2 (block_then S5.out hb9)
          obtain ⟨_, z1, _⟩ := cells2 (block_then T5.out hb9)
          exact ⟨x0, x1, y1, z1⟩
        have F1 := hide f1
        have hb5 := below_then B9.out BW'.out
        have IG := hide fun w' (hb : Below W.heap.size W w') => OG5.out.isE.below (below_then hb5 hb)
        have IH := hide fun w' (hb : Below W.heap.size W w') => OH5.out.isE.below (below_then hb5 hb)
        have HB5' := hide hb5
        clear BW QW IW f1 hb5
        have OE := OwnV.empty W W.heap.size (Nat.le_refl _)
        have OE1 : Hid (OwnV W.heap.size (W.alloc (.cells #[] 39)).drew (.slice (some ⟨W.heap.size, 0, none⟩) 0 0) []) := OE
        have b1 : Below W.heap.size W (W.alloc (.cells #[] 39)).drew := ((Below.refl _ W).alloc (Nat.le_refl _) _).drew
        have BE := hide b1
        clear OE b1
        go_wp2
        go_region_held_law (fun w' => w'.cell? ⟨w9.heap.size + 1, 0, none⟩ = some (.int .i64 N) ∧ w'.cell? ⟨w9.heap.size + 1, 1, none⟩ = some (.slice a12 ks.length cap12) ∧ w'.cell? ⟨w.heap.size, 1, none⟩ = some (.slice (some ga) fs.length gcap) ∧ w'.cell? ⟨w.heap.size + 1, 1, none⟩ = some (.slice (some ha) hs.length hcap)) (first | exact F1.out _ (Below.refl _ _).drew | exact F1.out _ BE.out | exact F1.out _ BF.out | exact F1.out _ BH.out | exact F1.out _ BI.out) (first
          | (refine step_appendW _ ?_ (.tmp 89) (.tmp 91) ?_ W.heap.size (.slice (some ⟨W.heap.size, 0, none⟩) 0 0) (.slice (some ga) fs.length gcap) [] fs ?_ ?_ ?_ ?_ ?_ ?_ ?_; rfl; rfl; rfl; exact OE1.out; rfl; exact IG.out _ BE.out; (simp; omega); exact BE.out.size; intro a13 cap13 w13 o13 g13 n13; rw [List.nil_append, List.length_nil, Nat.zero_add] at o13; have OF := hide o13; have BF := hide (BE.out.grown g13 BE.out.size (by intro k hk; simp [Value.ownBlock] at hk; omega)); clear o13 g13 n13)
          | (refine step_appendW _ ?_ (.tmp 92) (.tmp 94) ?_ W.heap.size (.slice a13 fs.length cap13) (.slice (some ha) hs.length hcap) fs hs ?_ ?_ ?_ ?_ ?_ ?_ ?_; rfl; rfl; (first | rfl | simp [Act.eval, Act.put]); exact OF.out; rfl; exact IH.out _ BF.out; omega; exact BF.out.size; intro a14 cap14 w14 o14 g14 n14; have OH := hide o14; have BH := hide (BF.out.grown g14 BF.out.size (by intro k hk; have := OF.out.base k hk; omega)); clear o14 g14 n14)
          | (go_at_call 16; refine (AL.out _ _ _ (IW'.out.below BH.out) OH.out.isE).mono ?_; rintro e w15 ⟨rfl, b15⟩; have BI := hide (below_then BH.out b15); clear b15))
        all_goals go_wp2
        all_goals go_ret
        all_goals exact ⟨rfl, below_then HB5.out (below_then HB5'.out BI.out)⟩
      · skip
        have BW : Below w9.heap.size w9 ((w12.setCell ⟨w9.heap.size, 0, none⟩ (.int .i64 N)).setCell ⟨w9.heap.size, 1, none⟩ (.slice a12 ks.length cap12)) := below_box B12.out (by first | exact Nat.le_refl _ | exact Nat.le_succ _ | exact B10.out.size | exact B11.out.size) _ _
        have h1 := heap_setCell_same w12 (w9.heap.size) 0 _ _ (.int .i64 N) PG2.out
        have h2 := heap_setCell_same (w12.setCell ⟨w9.heap.size, 0, none⟩ (.int .i64 N)) (w9.heap.size) 1 _ _ (.slice a12 ks.length cap12) h1
        simp only [List.setIfInBounds_toArray, List.set_cons_zero, List.set_cons_succ] at h1 h2
        have QW : ((w12.setCell ⟨w9.heap.size, 0, none⟩ (.int .i64 N)).setCell ⟨w9.heap.size, 1, none⟩ (.slice a12 ks.length cap12)).heap[w9.heap.size]? = some (.cells #[.int .i64 N, (.slice a12 ks.length cap12)] 24 (0, 0)) := h2
        have IW : IsE ((w12.setCell ⟨w9.heap.size, 0, none⟩ (.int .i64 N)).setCell ⟨w9.heap.size, 1, none⟩ (.slice a12 ks.length cap12)) (.slice a12 ks.length cap12) ks := (I12.out.boxed _ PG2.out).boxed _ h1
        clear h1 h2
        generalize hWX : ((w12.setCell ⟨w9.heap.size, 0, none⟩ (.int .i64 N)).setCell ⟨w9.heap.size, 1, none⟩ (.slice a12 ks.length cap12)) = W at BW QW IW ⊢
        clear hWX p0 p1 pf 
        have QW' := hide QW
        have IW' := hide IW
        have BW' := hide BW
        have f1 : ∀ w', Below W.heap.size W w' → w'.cell? ⟨w9.heap.size, 0, none⟩ = some (.int .i64 N) ∧ w'.cell? ⟨w9.heap.size, 1, none⟩ = some (.slice a12 ks.length cap12) ∧ w'.cell? ⟨w.heap.size, 1, none⟩ = some (.slice (some ga) fs.length gcap) ∧ w'.cell? ⟨w.heap.size + 1, 1, none⟩ = some (.slice (some ha) hs.length hcap) := fun w' hb => by
          obtain ⟨x0, x1, _⟩ := cells2 (block_then QW'.out hb)
          have hb9 := below_then B9.out (BW'.out.trans (hb.mono BW'.out.size))
          obtain ⟨_, y1, _⟩ := cells2 (block_then S5.out hb9)
          obtain ⟨_, z1, _⟩ := cells2 (block_then T5.out hb9)
          exact ⟨x0, x1, y1, z1⟩
        have F1 := hide f1
        have hb5 := below_then B9.out BW'.out
        have IG := hide fun w' (hb : Below W.heap.size W w') => OG5.out.isE.below (below_then hb5 hb)
        have IH := hide fun w' (hb : Below W.heap.size W w') => OH5.out.isE.below (below_then hb5 hb)
        have HB5' := hide hb5
        clear BW QW IW f1 hb5
        have OE := OwnV.empty W W.heap.size (Nat.le_refl _)
        have OE1 : Hid (OwnV W.heap.size (W.alloc (.cells #[] 39)).drew (.slice (some ⟨W.heap.size, 0, none⟩) 0 0) []) := OE
        have b1 : Below W.heap.size W (W.alloc (.cells #[] 39)).drew := ((Below.refl _ W).alloc (Nat.le_refl _) _).drew
        have BE := hide b1
        clear OE b1
        go_wp2
        go_region_held_law (fun w' => w'.cell? ⟨w9.heap.size, 0, none⟩ = some (.int .i64 N) ∧ w'.cell? ⟨w9.heap.size, 1, none⟩ = some (.slice a12 ks.length cap12) ∧ w'.cell? ⟨w.heap.size, 1, none⟩ = some (.slice (some ga) fs.length gcap) ∧ w'.cell? ⟨w.heap.size + 1, 1, none⟩ = some (.slice (some ha) hs.length hcap)) (first | exact F1.out _ (Below.refl _ _).drew | exact F1.out _ BE.out | exact F1.out _ BF.out | exact F1.out _ BH.out | exact F1.out _ BI.out) (first
          | (refine step_appendW _ ?_ (.tmp 89) (.tmp 91) ?_ W.heap.size (.slice (some ⟨W.heap.size, 0, none⟩) 0 0) (.slice (some ga) fs.length gcap) [] fs ?_ ?_ ?_ ?_ ?_ ?_ ?_; rfl; rfl; rfl; exact OE1.out; rfl; exact IG.out _ BE.out; (simp; omega); exact BE.out.size; intro a13 cap13 w13 o13 g13 n13; rw [List.nil_append, List.length_nil, Nat.zero_add] at o13; have OF := hide o13; have BF := hide (BE.out.grown g13 BE.out.size (by intro k hk; simp [Value.ownBlock] at hk; omega)); clear o13 g13 n13)
          | (refine step_appendW _ ?_ (.tmp 92) (.tmp 94) ?_ W.heap.size (.slice a13 fs.length cap13) (.slice (some ha) hs.length hcap) fs hs ?_ ?_ ?_ ?_ ?_ ?_ ?_; rfl; rfl; (first | rfl | simp [Act.eval, Act.put]); exact OF.out; rfl; exact IH.out _ BF.out; omega; exact BF.out.size; intro a14 cap14 w14 o14 g14 n14; have OH := hide o14; have BH := hide (BF.out.grown g14 BF.out.size (by intro k hk; have := OF.out.base k hk; omega)); clear o14 g14 n14)
          | (go_at_call 16; refine (AL.out _ _ _ (IW'.out.below BH.out) OH.out.isE).mono ?_; rintro e w15 ⟨rfl, b15⟩; have BI := hide (below_then BH.out b15); clear b15))
        all_goals go_wp2
        all_goals go_ret
        all_goals exact ⟨rfl, below_then HB5.out (below_then HB5'.out BI.out)⟩

/-! ### The row's step -/
set_option maxRecDepth 100000 in
theorem lifted (os : Os) (started : os.Started) (H : Type) (enc : TypeId × Value → H) :
    ReturnsInHanded {} Try.checked os 8 .any (Rows.edgesPartsSpec.pre6 enc Try.prog Try.f8 Rows.edgesPartsRow.domain false) (Rows.edgesPartsSpec.post enc Try.prog Try.f8 false true false false) := by
  refine returnsInHanded_of_change (C := Try.checked) own started (by kernel_rfl) Try.func8
    (ChangeSpec.witness6 (enc := enc) (C := Try.checked) false ⟨#[], #[.agg #[.int .i64 0, .slice none 0 0], .agg #[.int .i64 0, .slice none 0 0]], []⟩ 8 (by kernel_rfl) (by kernel_rfl) (by kernel_rfl) (by kernel_rfl)) ?_
  intro W base args ds gs before hval0 hW hcnd _
  have hval : ∀ (j : Nat) t v, Try.f8.params[j]? = some t → args[j]? = some v → Value.okWide Try.prog W .any base t v := hval0
  have hW' := hW
  obtain ⟨p, q, hA0, hV, rfl, hfz, hnd⟩ := hW
  have hA : DataW.TrodAll enc Try.prog W 0 (fun _ => true) true Try.f8.params.toList args.toList ds p := hA0
  rw [Try.params8] at hA hval
  obtain ⟨v0, vs0, d0, ds0, p0, q0, hargs, rfl, rfl, h0, r0⟩ := trodAll_cons hA
  obtain ⟨v1, vs1, d1, ds1, p1, q1, rfl, rfl, rfl, h1, r1⟩ := trodAll_cons r0
  obtain ⟨rfl, rfl, rfl⟩ := trodAll_nil r1
  obtain rfl : args = #[v0, v1] := by cases args; simp_all
  obtain ⟨rfl, rfl⟩ := trodVars_none hV
  have k0 := h0
  have lt0 : ∀ x ∈ p0, x.block < W.heap.size := by obtain ⟨m, hm⟩ := k0; exact DataW.trod_lt m _ _ _ hm
  obtain ⟨n0, a0, len0, cap0, es0, rfl, w0, i0, l0, m0⟩ := graphIn (hval 0 24 v0 rfl rfl) h0
  have k1 := h1
  have lt1 : ∀ x ∈ p1, x.block < W.heap.size := by obtain ⟨m, hm⟩ := k1; exact DataW.trod_lt m _ _ _ hm
  obtain ⟨n1, a1, len1, cap1, es1, rfl, w1, i1, l1, m1⟩ := graphIn (hval 1 24 v1 rfl rfl) h1
  clear hA0 hval0
  refine (walk n0 a0 len0 cap0 es0 n1 a1 len1 cap1 es1 W w0 i0 l0 m0 w1 i1 l1 m1).mono fun e W' ⟨he, bel⟩ => ?_
  subst he
  exact ⟨_, rfl, _, _, _, [], _, [], hW', trodAll_mk1 (shut_bool Try.underlying4 _), (trodAll_cons_mk (Below.trod laidOut (by kernel_rfl) (of_decide_eq_true (by kernel_rfl)) k0 bel lt0) (trodAll_cons_mk (Below.trod laidOut (by kernel_rfl) (of_decide_eq_true (by kernel_rfl)) k1 bel lt1) trodAll_mk0)), rfl, bel.frame _, fun h => by cases h⟩

theorem over : Rows.edgesPartsRow.holds Try.pinned (OpenSpec.ofChange Rows.edgesPartsSpec) :=
  OpenClaim.holds_of_wide 8 Try.f8 rfl rfl rfl rfl rfl rfl rfl ⟨rfl, rfl, rfl, rfl, rfl⟩ rfl rfl rfl rfl rfl (by kernel_rfl) Try.func8 (by kernel_rfl)
    (of_decide_eq_true (by kernel_rfl)) (by unfold Func.isWrapper; first | (rw [if_pos (by decide +kernel)]; kernel_rfl) | (rw [if_neg (by decide +kernel)]; exact ⟨rfl, rfl⟩))
    (fun os started H enc _ => lifted os started H enc)

/-- The statement. -/
theorem proved : Rows.EdgesPartsSaid := over
#print axioms proved
end Go.Proofs.Ytjkdnibfppjolaa.edgesParts
