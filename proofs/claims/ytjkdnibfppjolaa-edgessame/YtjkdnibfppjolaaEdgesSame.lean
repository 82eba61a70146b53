/-
  Proved: for all two graphs, EdgesSame returns true and leaves them as they were (Same is the reference's, and knows a graph in whatever order). No condition.
-/
import Derived.Deep.RegionHeld
import Derived.Deep.RegionHeldLaw
import Derived.Deep.RegionLaw
import Derived.Test.YtjkdnibfppjolaaRefSame
namespace Go.Proofs.Ytjkdnibfppjolaa.edgesSame
open Go.ChangeShapes Go.WideShapes Go.ChangeAt Go.RowKit
open Go.ChangeMaps (open_string shut_string)
set_option linter.unusedVariables false

theorem own : ownKnob Try.prog.godebug = none := by kernel_rfl
theorem laidOut : laidOutB Try.prog = true := by kernel_rfl

theorem xor_one_ne (n : Int) : bits .xor .i64 n 1 ≠ n := by
  have key : (BitVec.ofInt 64 n ^^^ BitVec.ofInt 64 1).toNat = (n % ((2 ^ 64 : Nat) : Int)).toNat ^^^ 1 := by
    rw [BitVec.toNat_xor, BitVec.toNat_ofInt]
    rfl
  show IntKind.i64.wrap ((BitVec.ofInt 64 n ^^^ BitVec.ofInt 64 1).toNat : Nat) ≠ n
  rw [key, IntKind.wrap_i64]
  obtain ⟨m, hm⟩ : ∃ m, m = (n % ((2 ^ 64 : Nat) : Int)).toNat := ⟨_, rfl⟩
  rw [← hm]
  have hx := @Nat.xor_mod_two_eq_one m 1
  omega
theorem OwnV.ne {B : Nat} {w : World} {v : Value} {es : List Ed} (h : OwnV B w v es) {k t : Nat} {cs : Array Value} (hk : w.heap[k]? = some (.cells cs t (0, 0))) (ht : t ≠ 39) : v.ownBlock ≠ some k := by
  rcases h.1.2 with ⟨rfl, _⟩ | ⟨g, cap, cur, rfl, _, hh, _⟩
  · simp [Value.ownBlock]
  · intro e
    simp only [Value.ownBlock, Option.some.injEq] at e
    subst e
    rw [hk] at hh
    simp only [Option.some.injEq, Obj.cells.injEq] at hh
    exact ht hh.2.1
/-- While the edges are laid down backwards: the box at the first new block, a row of the call's own, and all that was there before. -/
def SameSt (w5 : World) (n : Int) (fs : List Ed) (k : Nat) (wr : World) : Prop :=
  ∃ av cv bk, wr.heap[w5.heap.size]? = some (.cells #[.int .i64 n, .slice av bk.length cv] 24 (0, 0)) ∧ OwnV w5.heap.size wr (.slice av bk.length cv) bk ∧ Below w5.heap.size w5 wr ∧ bk = (fs.drop k).reverse

theorem sameSt_start (w5 : World) (n : Int) (fs : List Ed) : SameSt w5 n fs fs.length (w5.alloc (.cells #[.int .i64 n, .slice none 0 0] 24)) :=
  ⟨none, 0, [], heap_alloc_new w5 _, OwnV.nil _ _, (Below.refl _ w5).alloc (Nat.le_refl _) _, by simp⟩

theorem back_step (fs : List Ed) (k : Nat) (h : k < fs.length) : (fs.drop (k + 1)).reverse ++ [fs[k]!] = (fs.drop k).reverse := by
  rw [List.drop_eq_getElem_cons h, getElem!_pos fs k h, List.reverse_cons]

/-- The next edge is laid down. -/
theorem SameSt.step {w5 : World} {n : Int} {fs : List Ed} {k : Nat} {w2 : World} {u v : Value} {a2 : Option Addr} {c2 : Nat} {bk : List Ed} {x : Ed}
    (hq2 : w2.heap[w5.heap.size]? = some (.cells #[u, v] 24 (0, 0))) (hu : u = .int .i64 n) (ho : OwnV w5.heap.size w2 (.slice a2 (bk.length + 1) c2) (bk ++ [x])) (hb2 : Below w5.heap.size w5 w2) (hbk : bk ++ [x] = (fs.drop k).reverse) :
    SameSt w5 n fs k (w2.setCell ⟨w5.heap.size, 1, none⟩ (.slice a2 (bk.length + 1) c2)) := by
  subst hu
  refine ⟨a2, c2, bk ++ [x], ?_, ?_, hb2.setCell (p := ⟨w5.heap.size, 1, none⟩) (Nat.le_refl _) _, hbk⟩
  · rw [List.length_append, List.length_singleton]
    exact heap_setCell_same w2 w5.heap.size 1 _ _ (.slice a2 (bk.length + 1) c2) hq2
  · rw [List.length_append, List.length_singleton]
    exact ho.other _ hq2 (by decide)

/-- 'g.Edges[1:]'. -/
theorem slice1 {w : World} {b off n c : Nat} {es : List Ed} (h : IsE w (.slice (some ⟨b, off, none⟩) n c) es) (h1 : 1 ≤ n) :
    ∃ A : Option Addr, (if c = 1 then some (⟨b, off, none⟩ : Addr) else some ⟨b, off + 3, none⟩) = A ∧ (es.drop 1).length = n - 1 ∧ IsE w (.slice A (n - 1) (c - 1)) (es.drop 1) := by
  obtain ⟨a', cap', he, h2, h3, h4, h5⟩ := h
  simp only [Value.slice.injEq] at he
  obtain ⟨rfl, rfl, rfl⟩ := he
  have hl : (es.drop 1).length = es.length - 1 := by rw [List.length_drop]
  refine ⟨_, rfl, hl, ?_⟩
  refine ⟨_, c - 1, by rw [hl], by rw [hl]; omega, ?_, ?_, fun e he => h5 e (List.mem_of_mem_drop he)⟩
  · intro hn
    split at hn <;> simp at hn
  · intro x hx j hj i u hu
    by_cases hc : c = 1
    · omega
    · rw [if_neg hc] at hx
      simp only [Option.some.injEq] at hx
      subst hx
      have := h4 _ rfl (j + 1) (by omega) i u (by rw [← hu, getElem!_pos es (j + 1) (by omega), getElem!_pos (es.drop 1) j hj, List.getElem_drop]; simp only [Nat.add_comm])
      rw [Addr.add_lit] at this ⊢
      rw [show off + 3 + (j * 3 + i) = off + ((j + 1) * 3 + i) by omega]
      exact this

/-! ### The walk -/
set_option maxRecDepth 100000 in
set_option maxHeartbeats 4000000 in
theorem walk (n0 : Int) (a0 : Option Addr) (len0 cap0 : Nat) (es0 : List Ed) (n1 : Int) (a1 : Option Addr) (len1 cap1 : Nat) (es1 : List Ed) (w : World) (w0 : (Lit.int .i64 n0).wf = true) (i0 : IsE w (.slice a0 len0 cap0) es0) (l0 : es0.length = len0) (m0 : len0 ≤ maxLen) (w1 : (Lit.int .i64 n1).wf = true) (i1 : IsE w (.slice a1 len1 cap1) es1) (l1 : es1.length = len1) (m1 : len1 ≤ maxLen) :
    Calls Try.prog 6 #[.agg #[.int .i64 n0, .slice a0 len0 cap0], .agg #[.int .i64 n1, .slice a1 len1 cap1]] w fun e w' => e = .returned (.bool true) ∧ Below w.heap.size w w' := by
  obtain ⟨hn0, hn1⟩ := bounds_i64 w0
  obtain ⟨hk0, hk1⟩ := bounds_i64 w1
  subst l0
  subst l1
  unfold maxLen at m0 m1
  clear w0 w1
  go_enter Try.func6, Try.ntmps6
  go_wp2_with fail
  refine (shown_any _).mono ?_
  rintro e w1 ⟨rfl, b1⟩
  have g0 : ((w.alloc (.cells #[.int .i64 n0, .slice a0 es0.length cap0] 24)).alloc (.cells #[.int .i64 n1, .slice a1 es1.length cap1] 24)).heap[w.heap.size]? = some (.cells #[.int .i64 n0, .slice a0 es0.length cap0] 24 (0, 0)) := (Below.heap_alloc _ _ _ (by simp)).trans (heap_alloc_new w _)
  have h0 : ((w.alloc (.cells #[.int .i64 n0, .slice a0 es0.length cap0] 24)).alloc (.cells #[.int .i64 n1, .slice a1 es1.length cap1] 24)).heap[w.heap.size + 1]? = some (.cells #[.int .i64 n1, .slice a1 es1.length cap1] 24 (0, 0)) := by
    have := heap_alloc_new (w.alloc (.cells #[.int .i64 n0, .slice a0 es0.length cap0] 24)) (.cells #[.int .i64 n1, .slice a1 es1.length cap1] 24)
    simpa using this
  have B1 : Below w.heap.size w w1 := below_then (((Below.refl _ w).alloc (Nat.le_refl _) _).alloc (by simp) _) b1
  have G1 := hide (block_then g0 b1)
  have H1 := hide (block_then h0 b1)
  obtain ⟨c10, c11, f1⟩ := cells2 G1.out
  have hF := few_any n0 _ es0 w1 (i0.below B1)
  have HB1 := hide B1
  clear b1 g0 h0 B1
  go_wp2_with fail
  refine hF.mono ?_
  clear hF
  rintro e w2 ⟨ga, gcap, rfl, go2, b2⟩
  have s2 := block_then G1.out b2
  have t2 := block_then H1.out b2
  obtain ⟨c20, c21, f2⟩ := cells2 s2
  obtain ⟨fs, hfs⟩ : ∃ fs, fs = es0.take 40 := ⟨_, rfl⟩
  have hfl : fs.length ≤ 40 := by rw [hfs]; exact List.length_take_le _ _
  rw [← hfs] at go2 ⊢
  have S3b := hide (boxed (u0 := .int .i64 n0) (u1 := .slice (some ga) fs.length gcap) s2 (by decide) go2)
  have T3 : Hid (((w2.setCell ⟨w.heap.size, 0, none⟩ (.int .i64 n0)).setCell ⟨w.heap.size, 1, none⟩ (.slice (some ga) fs.length gcap)).heap[w.heap.size + 1]? = some (.cells #[.int .i64 n1, .slice a1 es1.length cap1] 24 (0, 0))) := (heap_setCell_other _ ⟨w.heap.size, 1, none⟩ _ _ (by simp)).trans ((heap_setCell_other _ ⟨w.heap.size, 0, none⟩ _ _ (by simp)).trans t2)
  have HB3 := hide (below_box (below_then HB1.out b2) (Nat.le_refl w.heap.size) (.int .i64 n0) (.slice (some ga) fs.length gcap))
  clear c10 c11 f1 s2 t2 b2 go2 hfs G1 H1 HB1
  obtain ⟨d20, d21, k2⟩ := cells2 T3.out
  go_wp2_with fail
  generalize ((w2.setCell ⟨w.heap.size, 0, none⟩ (.int .i64 n0)).setCell ⟨w.heap.size, 1, none⟩ (.slice (some ga) fs.length gcap)) = w3 at S3b T3 HB3 d20 d21 k2 ⊢
  obtain ⟨s3, o3⟩ := S3b.out
  have S3 := hide s3
  have O3 := hide o3
  have hF := few_any n1 _ es1 w3 (i1.below HB3.out)
  clear s3 o3 S3b c20 c21 f2
  refine hF.mono ?_
  clear hF
  rintro e w4 ⟨ha, hcap, rfl, ho4, b4⟩
  have s4 := block_then S3.out b4
  have t4 := block_then T3.out b4
  obtain ⟨d40, d41, k4⟩ := cells2 t4
  obtain ⟨hs, hhs⟩ : ∃ hs, hs = es1.take 40 := ⟨_, rfl⟩
  have hhl : hs.length ≤ 40 := by rw [hhs]; exact List.length_take_le _ _
  rw [← hhs] at ho4 ⊢
  have T5b := hide (boxed (u0 := .int .i64 n1) (u1 := .slice (some ha) hs.length hcap) t4 (by decide) ho4)
  have U5b := hide (boxed (u0 := .int .i64 n1) (u1 := .slice (some ha) hs.length hcap) t4 (by decide) (O3.out.below b4))
  have S5 : Hid (((w4.setCell ⟨w.heap.size + 1, 0, none⟩ (.int .i64 n1)).setCell ⟨w.heap.size + 1, 1, none⟩ (.slice (some ha) hs.length hcap)).heap[w.heap.size]? = some (.cells #[.int .i64 n0, .slice (some ga) fs.length gcap] 24 (0, 0))) := (heap_setCell_other _ ⟨w.heap.size + 1, 1, none⟩ _ _ (by simp)).trans ((heap_setCell_other _ ⟨w.heap.size + 1, 0, none⟩ _ _ (by simp)).trans s4)
  have HB5 := hide (below_box (below_then HB3.out b4) (Nat.le_succ w.heap.size) (.int .i64 n1) (.slice (some ha) hs.length hcap))
  obtain ⟨c50, c51, f5⟩ := cells2 S5.out
  clear s4 t4 b4 ho4 hhs S3 T3 O3 HB3 d20 d21 k2
  have c5a : (((w4.setCell ⟨w.heap.size + 1, 0, none⟩ (.int .i64 n1)).setCell ⟨w.heap.size + 1, 1, none⟩ (.slice (some ha) hs.length hcap)).alloc (.cells #[.int .i64 n0, .slice none 0 0] 24)).cell? ⟨w.heap.size, 1, none⟩ = some (.slice (some ga) fs.length gcap) := by
    obtain ⟨_, x, _⟩ := cells2 ((Below.heap_alloc _ (.cells #[.int .i64 n0, .slice none 0 0] 24) _ (Array.getElem?_eq_some_iff.1 S5.out).1).trans S5.out)
    exact x
  have hsz : Hid (((w4.setCell ⟨w.heap.size + 1, 0, none⟩ (.int .i64 n1)).setCell ⟨w.heap.size + 1, 1, none⟩ (.slice (some ha) hs.length hcap)).heap.size = w4.heap.size) := by simp [Hid]
  go_wp2_with fail
  generalize ((w4.setCell ⟨w.heap.size + 1, 0, none⟩ (.int .i64 n1)).setCell ⟨w.heap.size + 1, 1, none⟩ (.slice (some ha) hs.length hcap)) = w5 at T5b U5b S5 HB5 c50 c51 f5 c5a hsz ⊢
  have T5 := hide T5b.out.1
  have OH5 := hide T5b.out.2
  have OG5 := hide U5b.out.2
  obtain ⟨d50, d51, k5⟩ := cells2 T5.out
  clear T5b U5b d40 d41 k4
  have hsz' := hsz.out
  rw [← hsz']
  clear hsz hsz'
  have SM := hide fun v u w hv hu => same_any n0 n1 v u fs hs w hv hu (by omega)
  have RM := hide fun v u w hv hu => rsame_any n0 n1 v u fs hs w hv hu (by omega) (by omega)
  obtain ⟨r, hr⟩ : ∃ r, r = sameB n0 fs n1 hs := ⟨_, rfl⟩
  rw [← hr] at SM RM
  obtain ⟨N1, hN1⟩ : ∃ N1, bits .xor .i64 n0 1 = N1 := ⟨_, rfl⟩
  have hne : n0 ≠ N1 := by rw [← hN1]; exact fun h => xor_one_ne n0 h.symm
  have XM := hide fun v u w hv hu => same_any n0 N1 v u fs fs w hv hu (by omega)
  rw [show sameB n0 fs N1 fs = false by simp [sameB, hne]] at XM
  clear hr hne
  go_loopw [7] (fun i wr => ∃ k : Nat, k ≤ fs.length ∧ i = .int .i64 k ∧ Hid (SameSt w5 n0 fs k wr)) (fun i _ => (intOf i).toNat)
  case atStart => exact ⟨fs.length, Nat.le_refl _, rfl, sameSt_start w5 n0 fs⟩
  case round =>
    obtain ⟨k, hk, rfl, HO⟩ := hrel
    obtain ⟨av, cv, bk, hq, ho, hb, hbk⟩ := HO.out
    clear HO
    obtain ⟨c60, c61, f6⟩ := cells2 (block_then S5.out hb)
    obtain ⟨q60, q61, qf⟩ := cells2 hq
    by_cases h0 : k = 0
    · subst h0
      have hp : bk.Perm fs := by rw [hbk, List.drop_zero]; exact List.reverse_perm fs
      have BM := hide fun v u w hv hu => same_any n0 n0 v u fs bk w hv hu (by omega)
      rw [(sameB_iff n0 n0 fs bk).2 ⟨rfl, hp.symm⟩] at BM
      have FQ := hide fun w' (hb' : Below wr.heap.size wr w') => (⟨(cells2 (block_then S5.out (below_then hb hb'))).1, (cells2 (block_then S5.out (below_then hb hb'))).2.1, (cells2 (block_then T5.out (below_then hb hb'))).1, (cells2 (block_then T5.out (below_then hb hb'))).2.1, (cells2 (block_then hq hb')).1, (cells2 (block_then hq hb')).2.1⟩ : w'.cell? ⟨w.heap.size, 0, none⟩ = some (.int .i64 n0) ∧ w'.cell? ⟨w.heap.size, 1, none⟩ = some (.slice (some ga) fs.length gcap) ∧ w'.cell? ⟨w.heap.size + 1, 0, none⟩ = some (.int .i64 n1) ∧ w'.cell? ⟨w.heap.size + 1, 1, none⟩ = some (.slice (some ha) hs.length hcap) ∧ w'.cell? ⟨w5.heap.size, 0, none⟩ = some (.int .i64 n0) ∧ w'.cell? ⟨w5.heap.size, 1, none⟩ = some (.slice av bk.length cv))
      have HG := hide (OG5.out.isE.below hb)
      have HH := hide (OH5.out.isE.below hb)
      have HK := hide ho.isE
      have HBr := hide (below_then HB5.out hb)
      clear hp hbk hq ho hb c60 c61 f6 q60 q61 qf c50 c51 f5 d50 d51 k5 c5a
      go_wp2
      go_region_held (fun w' => w'.cell? ⟨w.heap.size, 0, none⟩ = some (.int .i64 n0) ∧ w'.cell? ⟨w.heap.size, 1, none⟩ = some (.slice (some ga) fs.length gcap) ∧ w'.cell? ⟨w.heap.size + 1, 0, none⟩ = some (.int .i64 n1) ∧ w'.cell? ⟨w.heap.size + 1, 1, none⟩ = some (.slice (some ha) hs.length hcap) ∧ w'.cell? ⟨w5.heap.size, 0, none⟩ = some (.int .i64 n0) ∧ w'.cell? ⟨w5.heap.size, 1, none⟩ = some (.slice av bk.length cv)) (first | exact FQ.out _ (Below.refl _ _).drew | exact FQ.out _ b6 | exact FQ.out _ b7 | exact FQ.out _ b8 | exact FQ.out _ b9) (first | (go_at_call_of 20 (Value.agg #[.int .i64 n1, .slice (some ha) hs.length hcap]); refine (SM.out _ _ _ (HG.out.below (Below.refl _ _).drew) (HH.out.below (Below.refl _ _).drew)).mono ?_; rintro e w6 ⟨rfl, b6'⟩; have b6 := below_undrew b6') | (go_at_call 21; refine (RM.out _ _ _ (HG.out.below b6) (HH.out.below b6)).mono ?_; rintro e w7 ⟨rfl, b7'⟩; have b7 := below_then b6 b7') | (go_at_call_of 20 (Value.agg #[.int .i64 n0, .slice av bk.length cv]); refine (BM.out _ _ _ (HG.out.below b7) (HK.out.below b7)).mono ?_; rintro e w8 ⟨rfl, b8'⟩; have b8 := below_then b7 b8') | (go_at_call_of 20 (Value.agg #[.int .i64 N1, .slice (some ga) fs.length gcap]); refine (XM.out _ _ _ (HG.out.below b8) (HG.out.below b8)).mono ?_; rintro e w9 ⟨rfl, b9'⟩; have b9 := below_then b8 b9'))
      go_wp2
      have B9 := hide b9
      have F9 := hide fun w' hb' => FQ.out w' (below_then b9 hb')
      have G9 := hide (HG.out.below b9)
      clear b6' b7' b8' b9' b6 b7 b8 b9 FQ HG HH HK SM RM BM XM
      by_cases hz : fs.length = 0
      · obtain rfl : fs = [] := List.eq_nil_of_length_eq_zero hz
        obtain ⟨x0, x1, _⟩ := F9.out w9 (Below.refl _ _)
        clear hz
        go_wp2
        go_quiet (fail)
        go_wp2
        go_ret
        exact ⟨rfl, Go.Proofs.below_drewN' (below_then HBr.out B9.out) _⟩
      · have hd : ((fs.length : Int) == 0) = false := beq_eq_false_iff_ne.2 (by omega)
        have hd2 : ¬ (fs.length : Int) = 0 := by omega
        have h1 : 1 ≤ fs.length := by omega
        obtain ⟨b, off, cap', he, hcap1, _, _⟩ := G9.out.opened h1
        simp only [Value.slice.injEq, true_and, Option.some.injEq] at he
        obtain ⟨rfl, rfl⟩ := he
        obtain ⟨A, hA, hAl, hAI⟩ := slice1 G9.out h1
        have hAI' := hide hAI
        have DM := hide fun v u w hv hu => same_any n0 n0 v u fs (fs.drop 1) w hv hu (by omega)
        rw [Bool.eq_false_iff.2 (fun h => by have := ((sameB_iff n0 n0 fs (fs.drop 1)).1 h).2.length_eq; rw [List.length_drop] at this; omega : ¬ sameB n0 fs n0 (fs.drop 1) = true)] at DM
        clear hAI hAl hz
        go_wp2
        go_region_held (fun w' => w'.cell? ⟨w.heap.size, 0, none⟩ = some (.int .i64 n0) ∧ w'.cell? ⟨w.heap.size, 1, none⟩ = some (.slice (some ⟨b, off, none⟩) fs.length gcap) ∧ w'.cell? ⟨w.heap.size + 1, 0, none⟩ = some (.int .i64 n1) ∧ w'.cell? ⟨w.heap.size + 1, 1, none⟩ = some (.slice (some ha) hs.length hcap) ∧ w'.cell? ⟨w5.heap.size, 0, none⟩ = some (.int .i64 n0) ∧ w'.cell? ⟨w5.heap.size, 1, none⟩ = some (.slice av bk.length cv)) (first | exact F9.out _ (Below.refl _ _).drew | exact F9.out _ c10) (first | (go_at_call 20; refine (DM.out _ _ _ (G9.out.below (Below.refl _ _).drew) (hAI'.out.below (Below.refl _ _).drew)).mono ?_; rintro e w10 ⟨rfl, c10'⟩; have c10 := below_undrew c10'))
        all_goals go_wp2
        all_goals go_ret
        all_goals exact ⟨rfl, below_then (below_then HBr.out B9.out) c10⟩
    · obtain ⟨k, rfl⟩ : ∃ k1, k = k1 + 1 := ⟨k - 1, by omega⟩
      have hlt : k < fs.length := by omega
      have hw : IntKind.i64.wrap (((k + 1 : Nat) : Int) - 1) = (k : Int) := by rw [i64_small _ (by omega) (by omega)]; omega
      have hw2 : IntKind.i64.wrap ((k : Int) + 1 - 1) = (k : Int) := by rw [i64_small _ (by omega) (by omega)]; omega
      have hw3 : IntKind.i64.wrap (k : Int) = (k : Int) := by rw [i64_small _ (by omega) (by omega)]
      have hI := OG5.out.isE.below hb
      have hok := hI.ok fs[k]! (by rw [getElem!_pos fs k (by omega)]; exact List.getElem_mem _)
      obtain ⟨b, off, cap', he, _, hbb, hc⟩ := hI.opened (by omega)
      simp only [Value.slice.injEq, true_and, Option.some.injEq] at he
      obtain ⟨rfl, rfl⟩ := he
      obtain ⟨l0, l1, l2⟩ := IsE.at hc k (by omega)
      have hst := back_step fs k (by omega)
      rw [← hbk] at hst
      obtain ⟨x, hx⟩ : ∃ x, x = fs[k]! := ⟨_, rfl⟩
      rw [← hx] at l0 l1 l2 hok hst
      obtain ⟨x1, x2, x3⟩ := x
      dsimp only at l0 l1 l2
      have hbl : bk.length ≤ 40 := by rw [hbk, List.length_reverse, List.length_drop]; omega
      have OA : Hid (OwnV w5.heap.size (wr.alloc (.cells #[.int .u32 x1, .int .u32 x2, .int .u32 x3] 39)).drew (.slice av bk.length cv) bk) := ho.below ((Below.refl _ wr).alloc (Nat.le_refl _) _).drew
      have XA : Hid (IsE (wr.alloc (.cells #[.int .u32 x1, .int .u32 x2, .int .u32 x3] 39)).drew (.slice (some ⟨wr.heap.size, 0, none⟩) 1 1) [(x1, x2, x3)]) := (OwnV.one wr 0 (Nat.zero_le _) x1 x2 x3 hok).isE.below (Below.refl _ _).drew
      have ZB : Hid (Below w5.heap.size w5 (wr.alloc (.cells #[.int .u32 x1, .int .u32 x2, .int .u32 x3] 39)).drew) := (hb.alloc hb.size _).drew
      have QA : Hid ((wr.alloc (.cells #[.int .u32 x1, .int .u32 x2, .int .u32 x3] 39)).drew.heap[w5.heap.size]? = some (.cells #[.int .i64 n0, .slice av bk.length cv] 24 (0, 0))) := (Below.heap_alloc wr (.cells #[.int .u32 x1, .int .u32 x2, .int .u32 x3] 39) _ (Array.getElem?_eq_some_iff.1 hq).1).trans hq
      have S6 := block_then S5.out hb
      obtain ⟨s60, s61, sf6⟩ := cells2 ((Below.heap_alloc wr (.cells #[.int .u32 x1, .int .u32 x2, .int .u32 x3] 39) _ (Array.getElem?_eq_some_iff.1 S6).1).trans S6)
      obtain ⟨y60, y61, yf6⟩ := cells2 ((Below.heap_alloc wr (.cells #[.int .u32 x1, .int .u32 x2, .int .u32 x3] 39) _ (Array.getElem?_eq_some_iff.1 hq).1).trans hq)
      have HST := hide hst
      clear S6 hI hc hx hok hst hbk hq ho hb c50 c51 f5 d50 d51 k5 c5a
      go_wp2
      go_region_law (refine step_appendE _ ?_ (.tmp 24) (.tmp 31) ?_ w5.heap.size (.slice av bk.length cv) (.slice (some ⟨wr.heap.size, 0, none⟩) 1 1) bk [(x1, x2, x3)] ?_ ?_ ?_ ?_ ?_ ?_ ?_; rfl; rfl; rfl; exact OA.out; rfl; exact XA.out; (simp; omega); exact ZB.out.size; intro a3 cap3 w3' o3 g3 n3; have h3 := (g3.block w5.heap.size (Array.getElem?_eq_some_iff.1 QA.out).1 (OwnV.ne OA.out QA.out (by decide)).symm).trans QA.out; obtain ⟨z0, z1, zf⟩ := cells2 h3; have H3 := hide h3; have O3 := hide o3; have B3 := hide (ZB.out.grown g3 ZB.out.size (fun j hj => (OA.out.1.lt j hj).1)); clear h3 o3 g3 n3)
      all_goals
        go_wp2
        go_roundw
        case rel => first | exact ⟨k, by omega, by go_num, SameSt.step H3.out rfl O3.out B3.out HST.out⟩ | ((repeat apply Exists.intro); exact ⟨⟨k, by omega, by go_num, SameSt.step H3.out rfl O3.out B3.out HST.out⟩, rfl⟩)
        case measure => simp [intOf]

/-! ### The row's step -/
set_option maxRecDepth 100000 in
theorem lifted (os : Os) (started : os.Started) (H : Type) (enc : TypeId × Value → H) :
    ReturnsInHanded {} Try.checked os 6 .any (Rows.edgesSameSpec.pre6 enc Try.prog Try.f6 Rows.edgesSameRow.domain false) (Rows.edgesSameSpec.post enc Try.prog Try.f6 false true false false) := by
  refine returnsInHanded_of_change (C := Try.checked) own started (by kernel_rfl) Try.func6
    (ChangeSpec.witness6 (enc := enc) (C := Try.checked) false ⟨#[], #[.agg #[.int .i64 0, .slice none 0 0], .agg #[.int .i64 0, .slice none 0 0]], []⟩ 8 (by kernel_rfl) (by kernel_rfl) (by kernel_rfl) (by kernel_rfl)) ?_
  intro W base args ds gs before hval0 hW hcnd _
  have hval : ∀ (j : Nat) t v, Try.f6.params[j]? = some t → args[j]? = some v → Value.okWide Try.prog W .any base t v := hval0
  have hW' := hW
  obtain ⟨p, q, hA0, hV, rfl, hfz, hnd⟩ := hW
  have hA : DataW.TrodAll enc Try.prog W 0 (fun _ => true) true Try.f6.params.toList args.toList ds p := hA0
  rw [Try.params6] at hA hval
  obtain ⟨v0, vs0, d0, ds0, p0, q0, hargs, rfl, rfl, h0, r0⟩ := trodAll_cons hA
  obtain ⟨v1, vs1, d1, ds1, p1, q1, rfl, rfl, rfl, h1, r1⟩ := trodAll_cons r0
  obtain ⟨rfl, rfl, rfl⟩ := trodAll_nil r1
  obtain rfl : args = #[v0, v1] := by cases args; simp_all
  obtain ⟨rfl, rfl⟩ := trodVars_none hV
  have k0 := h0
  have lt0 : ∀ x ∈ p0, x.block < W.heap.size := by obtain ⟨m, hm⟩ := k0; exact DataW.trod_lt m _ _ _ hm
  obtain ⟨n0, a0, len0, cap0, es0, rfl, w0, i0, l0, m0⟩ := graphIn (hval 0 24 v0 rfl rfl) h0
  have k1 := h1
  have lt1 : ∀ x ∈ p1, x.block < W.heap.size := by obtain ⟨m, hm⟩ := k1; exact DataW.trod_lt m _ _ _ hm
  obtain ⟨n1, a1, len1, cap1, es1, rfl, w1, i1, l1, m1⟩ := graphIn (hval 1 24 v1 rfl rfl) h1
  clear hA0 hval0
  refine (walk n0 a0 len0 cap0 es0 n1 a1 len1 cap1 es1 W w0 i0 l0 m0 w1 i1 l1 m1).mono fun e W' ⟨he, bel⟩ => ?_
  subst he
  exact ⟨_, rfl, _, _, _, [], _, [], hW', trodAll_mk1 (shut_bool Try.underlying4 _), (trodAll_cons_mk (Below.trod laidOut (by kernel_rfl) (of_decide_eq_true (by kernel_rfl)) k0 bel lt0) (trodAll_cons_mk (Below.trod laidOut (by kernel_rfl) (of_decide_eq_true (by kernel_rfl)) k1 bel lt1) trodAll_mk0)), rfl, bel.frame _, fun h => by cases h⟩

theorem over : Rows.edgesSameRow.holds Try.pinned (OpenSpec.ofChange Rows.edgesSameSpec) :=
  OpenClaim.holds_of_wide 6 Try.f6 rfl rfl rfl rfl rfl rfl rfl ⟨rfl, rfl, rfl, rfl, rfl⟩ rfl rfl rfl rfl rfl (by kernel_rfl) Try.func6 (by kernel_rfl)
    (of_decide_eq_true (by kernel_rfl)) (by unfold Func.isWrapper; first | (rw [if_pos (by decide +kernel)]; kernel_rfl) | (rw [if_neg (by decide +kernel)]; exact ⟨rfl, rfl⟩))
    (fun os started H enc _ => lifted os started H enc)

/-- The statement. -/
theorem proved : Rows.EdgesSameSaid := over
#print axioms proved
end Go.Proofs.Ytjkdnibfppjolaa.edgesSame
