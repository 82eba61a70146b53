/-
  Proved: for every graph, edge, truth and slice of edges, EdgesFirst returns true and leaves its arguments as they were (what is wrong first is told, whatever comes behind). No condition.
-/
import Derived.Deep.RegionHeld
import Derived.Deep.RegionHeldLaw
import Derived.Test.YtjkdnibfppjolaaSteps2
namespace Go.Proofs.Ytjkdnibfppjolaa.edgesFirst
open Go.ChangeShapes Go.WideShapes Go.ChangeAt Go.RowKit
open Go.ChangeMaps (open_string shut_string)
set_option linter.unusedVariables false

theorem own : ownKnob Try.prog.godebug = none := by kernel_rfl
theorem laidOut : laidOutB Try.prog = true := by kernel_rfl

theorem min10 (len : Nat) : ∃ m : Nat, m = min len 10 ∧ (∀ (ts : Array TypeId) (t : TypeId) (w : World), (Builtin.min_ ts t #[.int .i64 (len : Int), .int .i64 10]).run Try.prog w = .ok (.int .i64 (m : Int)) w) := by
  refine ⟨min len 10, rfl, fun ts t w => ?_⟩
  rw [run_min_int2]
  congr 2
  split <;> omega
theorem push12 {acc acc' es : List Int} {j : Nat} {z : Int} (h : acc' = acc ++ es.take j) (hz : es[j]? = some z) : Hid (acc' ++ [z] = acc ++ es.take (j + 1)) := by
  show _ = _
  rw [h, List.append_assoc, List.take_add_one, hz]
  rfl

/-! ### The walk -/
set_option maxRecDepth 100000 in
set_option maxHeartbeats 8000000 in
theorem walk (n0 : Int) (a0 : Option Addr) (len0 cap0 : Nat) (es0 : List Ed) (x1 y1 z1 : Int) (b2 : Bool) (a3 : Option Addr) (len3 cap3 : Nat) (es3 : List Ed) (w : World) (w0 : (Lit.int .i64 n0).wf = true) (i0 : IsE w (.slice a0 len0 cap0) es0) (l0 : es0.length = len0) (m0 : len0 ≤ maxLen) (o1 : okE (x1, y1, z1)) (i3 : IsE w (.slice a3 len3 cap3) es3) (l3 : es3.length = len3) (m3 : len3 ≤ maxLen) :
    Calls Try.prog 7 #[.agg #[.int .i64 n0, .slice a0 len0 cap0], .agg #[.int .u32 x1, .int .u32 y1, .int .u32 z1], .bool b2, .slice a3 len3 cap3] w fun e w' => e = .returned (.bool true) ∧ Below w.heap.size w w' := by
  obtain ⟨hn0, hn1⟩ := bounds_i64 w0
  subst l0
  subst l3
  unfold maxLen at m0 m3
  obtain ⟨⟨hx0, hx1⟩, ⟨hy0, hy1⟩, ⟨hz0, hz1⟩⟩ := o1
  dsimp only at hx0 hx1 hy0 hy1 hz0 hz1
  obtain ⟨m, hm, hmin⟩ := min10 es3.length
  obtain ⟨_, _, he3, hcap3⟩ := i3.form
  simp only [Value.slice.injEq, true_and] at he3
  obtain ⟨rfl, rfl⟩ := he3
  have hT := i3.take m (by omega)
  obtain ⟨ms, hms⟩ : ∃ ms, ms = es3.take m := ⟨_, rfl⟩
  have hml : ms.length = m := by rw [hms, List.length_take]; omega
  rw [← hms] at hT
  have HMT := hide hT
  have HML := hide hml
  have hm10 : m ≤ 10 := by omega
  have hmc0 : (0 : Int) ≤ (m : Int) := by omega
  have hmc1 : (m : Int) ≤ (cap3 : Int) := by omega
  clear w0 hT hms hml hm
  go_enter Try.func7, Try.ntmps7
  go_wp2_with fail
  refine (shown_any _).mono ?_
  rintro e w1 ⟨rfl, b1⟩
  have g0 : ((w.alloc (.cells #[.int .i64 n0, .slice a0 es0.length cap0] 24)).alloc (.cells #[.int .u32 x1, .int .u32 y1, .int .u32 z1] 39)).heap[w.heap.size]? = some (.cells #[.int .i64 n0, .slice a0 es0.length cap0] 24 (0, 0)) := (Below.heap_alloc _ _ _ (by simp)).trans (heap_alloc_new w _)
  have h0 : ((w.alloc (.cells #[.int .i64 n0, .slice a0 es0.length cap0] 24)).alloc (.cells #[.int .u32 x1, .int .u32 y1, .int .u32 z1] 39)).heap[w.heap.size + 1]? = some (.cells #[.int .u32 x1, .int .u32 y1, .int .u32 z1] 39 (0, 0)) := by
    have := heap_alloc_new (w.alloc (.cells #[.int .i64 n0, .slice a0 es0.length cap0] 24)) (.cells #[.int .u32 x1, .int .u32 y1, .int .u32 z1] 39)
    simpa using this
  have B1 : Below w.heap.size w w1 := below_then (((Below.refl _ w).alloc (Nat.le_refl _) _).alloc (by simp) _) b1
  have G1 := hide (block_then g0 b1)
  have H1 := hide (block_then h0 b1)
  have hs1 := (Array.getElem?_eq_some_iff.1 H1.out).1
  obtain ⟨c10, c11, f1⟩ := cells2 G1.out
  have hF := few_any n0 _ es0 w1 (i0.below B1)
  have HB1 := hide B1
  clear b1 g0 h0 B1
  go_wp2_with fail
  refine hF.mono ?_
  clear hF
  rintro e w2 ⟨ga, gcap, rfl, go2, b2⟩
  have s2 := block_then G1.out b2
  have t2 := block_then H1.out b2
  obtain ⟨c20, c21, f2⟩ := cells2 s2
  obtain ⟨fs, hfs⟩ : ∃ fs, fs = es0.take 40 := ⟨_, rfl⟩
  have hfl : fs.length ≤ 40 := by rw [hfs]; exact List.length_take_le _ _
  rw [← hfs] at go2 ⊢
  have S3b := hide (boxed (u0 := .int .i64 n0) (u1 := .slice (some ga) fs.length gcap) s2 (by decide) go2)
  have T3 : Hid (((w2.setCell ⟨w.heap.size, 0, none⟩ (.int .i64 n0)).setCell ⟨w.heap.size, 1, none⟩ (.slice (some ga) fs.length gcap)).heap[w.heap.size + 1]? = some (.cells #[.int .u32 x1, .int .u32 y1, .int .u32 z1] 39 (0, 0))) := (heap_setCell_other _ ⟨w.heap.size, 1, none⟩ _ _ (by simp)).trans ((heap_setCell_other _ ⟨w.heap.size, 0, none⟩ _ _ (by simp)).trans t2)
  have HB3 := hide (below_box (below_then HB1.out b2) (Nat.le_refl w.heap.size) (.int .i64 n0) (.slice (some ga) fs.length gcap))
  clear c10 c11 f1 s2 t2 b2 go2 hfs G1 H1 HB1
  go_wp2_with fail
  generalize ((w2.setCell ⟨w.heap.size, 0, none⟩ (.int .i64 n0)).setCell ⟨w.heap.size, 1, none⟩ (.slice (some ga) fs.length gcap)) = w3 at S3b T3 HB3 ⊢
  obtain ⟨s3, o3⟩ := S3b.out
  have S3 := hide s3
  have O3 := hide o3
  clear s3 o3 S3b c20 c21 f2
  cases hr : rightB n0 fs with
  | false =>
    refine (encode_no n0 (by omega) _ fs w3 O3.out.isE (by omega) hr).mono ?_
    rintro e w4 ⟨rfl, b4⟩
    go_wp2
    go_ret
    exact ⟨rfl, below_then HB3.out b4⟩
  | true =>
    obtain ⟨hr0, hr1, hr2, hr3⟩ := rightB_parts hr
    refine (encode_go n0 _ fs w3 O3.out.isE hr).mono ?_
    rintro e w4 ⟨g4, cap4, rfl, o4, b4⟩
    have hgl := graphB_length n0 fs
    obtain ⟨bs, hbs⟩ : ∃ bs, bs = graphB n0 fs := ⟨_, rfl⟩
    rw [← hbs] at o4 hgl ⊢
    have HBS := hide hbs
    have HGL := hide hgl
    have hbl : bs.length ≤ 484 := by omega
    have HB4 := hide (below_then HB3.out b4)
    obtain ⟨c40, c41, f4⟩ := cells2 (block_then S3.out b4)
    have T4 := hide (block_then T3.out b4)
    obtain ⟨d40, d41, d42, k4⟩ := cells3 T4.out
    have O4 := hide o4
    have HR3 := hide hr3
    have HFOK := hide O3.out.2
    have hs3 := (Array.getElem?_eq_some_iff.1 T3.out).1
    clear hbs hgl o4 b4 hr hr3 S3 T3 O3 HB3
    by_cases hz : n0 = 0
    · have hzb : (n0 == 0) = true := by simpa using hz
      clear hz
      go_wp2
      go_ret
      exact ⟨rfl, HB4.out⟩
    · have hzb : (n0 == 0) = false := by simpa using hz
      have hwn : IntKind.u32.wrap n0 = n0 := by rw [IntKind.wrap_u32]; omega
      have hnp : 0 < n0 := by omega
      clear hz
      cases b2 with
      | false =>
        have hmd := Int.emod_nonneg x1 (show n0 ≠ 0 by omega); have hme := Int.emod_lt_of_pos x1 hnp; have hmf := Int.emod_nonneg y1 (show n0 ≠ 0 by omega); have hmg := Int.emod_lt_of_pos y1 hnp
        have hwr : wrongE n0 ((x1 % n0 + n0), (y1 % n0), z1) = 0 := by
          rw [wrongE_ok n0 _ (okE_mk (by omega) (by omega) (by omega))]
          rw [if_pos (by dsimp only; omega)]
        have hbok : okE ((x1 % n0 + n0), (y1 % n0), z1) := okE_mk (by omega) (by omega) (by omega)
        have HWR := hide hwr
        have HBOK := hide hbok
        clear hwr hbok
        go_wp2
        have e1 := heap_setCell_same w4 (w.heap.size + 1) 0 _ _ (.int .u32 (x1 % n0)) T4.out
        have e2 := heap_setCell_same _ (w.heap.size + 1) 1 _ _ (.int .u32 (y1 % n0)) e1
        have e3 := heap_setCell_same _ (w.heap.size + 1) 0 _ _ (.int .u32 (x1 % n0 + n0)) e2
        simp only [List.setIfInBounds_toArray, List.set_cons_zero, List.set_cons_succ] at e3
        have O5 : Hid (OwnB w3.heap.size (((w4.setCell ⟨w.heap.size + 1, 0, none⟩ (.int .u32 (x1 % n0))).setCell ⟨w.heap.size + 1, 1, none⟩ (.int .u32 (y1 % n0))).setCell ⟨w.heap.size + 1, 0, none⟩ (.int .u32 (x1 % n0 + n0))) g4 cap4 bs) := ⟨ownsRow_setCell_below (ownsRow_setCell_below (ownsRow_setCell_below O4.out.1 hs3 _) hs3 _) hs3 _, O4.out.2⟩
        have B5 : Hid (Below w.heap.size w (((w4.setCell ⟨w.heap.size + 1, 0, none⟩ (.int .u32 (x1 % n0))).setCell ⟨w.heap.size + 1, 1, none⟩ (.int .u32 (y1 % n0))).setCell ⟨w.heap.size + 1, 0, none⟩ (.int .u32 (x1 % n0 + n0)))) := ((HB4.out.setCell (p := ⟨w.heap.size + 1, 0, none⟩) (by simp) _).setCell (p := ⟨w.heap.size + 1, 1, none⟩) (by simp) _).setCell (p := ⟨w.heap.size + 1, 0, none⟩) (by simp) _
        have T5 := hide e3
        clear e1 e2 e3 c40 c41 f4 d40 d41 d42 k4 T4 O4 HB4
        generalize (((w4.setCell ⟨w.heap.size + 1, 0, none⟩ (.int .u32 (x1 % n0))).setCell ⟨w.heap.size + 1, 1, none⟩ (.int .u32 (y1 % n0))).setCell ⟨w.heap.size + 1, 0, none⟩ (.int .u32 (x1 % n0 + n0))) = w5 at T5 O5 B5 ⊢
        obtain ⟨x, hx⟩ : ∃ x, (x1 % n0 + n0) = x := ⟨_, rfl⟩
        obtain ⟨y, hy⟩ : ∃ y, (y1 % n0) = y := ⟨_, rfl⟩
        rw [hx, hy] at HWR HBOK T5
        have hxyz := HBOK.out
        obtain ⟨⟨hxa, hxb⟩, ⟨hya, hyb⟩, _⟩ := hxyz
        dsimp only at hxa hxb hya hyb
        clear hx hy hx0 hx1 hy0 hy1
        obtain ⟨c50, c51, c52, f5⟩ := cells3 T5.out
        have f1 : ∀ w', Below w5.heap.size w5 w' → w'.cell? ⟨w.heap.size + 1, 0, none⟩ = some (.int .u32 x) ∧ w'.cell? ⟨w.heap.size + 1, 1, none⟩ = some (.int .u32 y) ∧ w'.cell? ⟨w.heap.size + 1, 2, none⟩ = some (.int .u32 z1) := fun w' hb => by
          obtain ⟨q0, q1, q2, _⟩ := cells3 (block_then T5.out hb)
          exact ⟨q0, q1, q2⟩
        have F1 := hide f1
        have OV : Hid (OwnV w5.heap.size (w5.alloc (.cells #[.int .u32 x, .int .u32 y, .int .u32 z1] 39)).drew (.slice (some ⟨w5.heap.size, 0, none⟩) 1 1) [(x, y, z1)]) := OwnV.one w5 w5.heap.size (Nat.le_refl _) x y z1 HBOK.out
        have b6 : Below w5.heap.size w5 (w5.alloc (.cells #[.int .u32 x, .int .u32 y, .int .u32 z1] 39)).drew := ((Below.refl _ w5).alloc (Nat.le_refl _) _).drew
        have B6 := hide b6
        have HM6 := hide (HMT.out.below (below_then B5.out b6))
        obtain ⟨L, hL⟩ : ∃ L : List Ed, L = (x, y, z1) :: ms := ⟨_, rfl⟩
        have hLl : [(x, y, z1)].length + ms.length = L.length := by rw [hL]; simp; omega
        have hL11 : L.length ≤ 11 := by rw [hL, List.length_cons, HML.out]; omega
        have hLok : ∀ e ∈ L, okE e := fun e he => by
          rw [hL] at he
          rcases List.mem_cons.1 he with rfl | he
          · exact HBOK.out
          · exact HMT.out.ok e he
        have hdec : dec (bs ++ edgesB L) = (0, [], (bs.length : Int), 1) := by
          have e1 : bs ++ edgesB L = graphB n0 (fs ++ L) := by rw [HBS.out, graphB, graphB, edgesB_append, List.append_assoc]
          have hgl := HGL.out
          rw [e1, dec_graph n0 hr0 hr1 (fs ++ L) (fun e he => by rcases List.mem_append.1 he with he | he; exact HFOK.out e he; exact hLok e he) (by rw [List.length_append]; omega), hL, badAt_first n0 fs (x, y, z1) ms 0 HR3.out (by rw [HWR.out]; decide), HWR.out]
          simp only [Prod.mk.injEq, true_and, and_true]
          omega
        have HDEC := hide hdec
        have HLL := hide hLl
        have HLC := hide hL
        clear f1 b6 c50 c51 c52 f5 hdec hLok hLl hL
        go_region_held_law (fun w' => w'.cell? ⟨w.heap.size + 1, 0, none⟩ = some (.int .u32 x) ∧ w'.cell? ⟨w.heap.size + 1, 1, none⟩ = some (.int .u32 y) ∧ w'.cell? ⟨w.heap.size + 1, 2, none⟩ = some (.int .u32 z1)) (first | exact F1.out _ (Below.refl _ _).drew | exact F1.out _ B6.out | exact F1.out _ B7.out) ((refine step_appendE _ ?_ (.tmp 66) (.tmp 71) ?_ w5.heap.size (.slice (some ⟨w5.heap.size, 0, none⟩) 1 1) (.slice a3 m cap3) [(x, y, z1)] ms ?_ ?_ ?_ ?_ ?_ ?_ ?_; rfl; rfl; rfl; exact OV.out; rfl; exact HM6.out; (have := HML.out; simp; omega); exact B6.out.size; intro a7 cap7 w7 o7 g7 n7; rw [HLL.out] at o7 ⊢; have O7 := hide o7; have B7 := hide (B6.out.grown g7 B6.out.size (by intro k hk; simp [Value.ownBlock] at hk; omega)); clear o7 g7 n7))
        all_goals
          have L0 : Hid (OwnB w.heap.size w7 g4 cap4 bs ∧ Below w.heap.size w w7 ∧ OwnV w.heap.size w7 (.slice a7 L.length cap7) L) := ⟨(O5.out.below B7.out).mono (by omega), below_then B5.out B7.out, by rw [HLC.out]; rw [HLC.out] at O7; exact O7.out.mono B5.out.size⟩
          clear O5 B5 T5 F1 OV B6 HM6 HLL HLC O7 B7 HMT HML HBOK HWR HR3 HFOK HBS HGL hmd hme hmf hmg hs1 hs3 hxa hxb hya hyb i0 i3 m0 m3
          go_wp2
          go_loopw [10, 15] (fun row i wr => ∃ (k : Nat) (acc : List Int) (g cap : Nat), k ≤ L.length ∧ i = .int .i64 k ∧ Hid (acc = bs ++ edgesB (L.take k)) ∧ acc.length ≤ 484 + 12 * k ∧ row = .slice (some ⟨g, 0, none⟩) acc.length cap ∧ Hid (OwnB w.heap.size wr g cap acc ∧ Below w.heap.size w wr ∧ OwnV w.heap.size wr (.slice a7 L.length cap7) L)) (fun _ i _ => L.length - (intOf i).toNat)
          case atStart => exact ⟨0, bs, g4, cap4, Nat.zero_le _, rfl, by simp [Hid, edgesB], by omega, rfl, L0⟩
          case round =>
            obtain ⟨k, acc, g, cap, hk, rfl, HA, hal, rfl, HT⟩ := hrel
            obtain ⟨wo, hwo⟩ : ∃ wo, wo = wr := ⟨_, rfl⟩
            subst hwo
            by_cases hlt : k < L.length
            · obtain ⟨p, poff, pcap, he, _, hpb, hpc⟩ := (OwnV.isE HT.out.2.2).opened (by omega)
              simp only [Value.slice.injEq, true_and] at he
              obtain ⟨rfl, rfl⟩ := he
              obtain ⟨l0, l1, l2⟩ := IsE.at hpc k hlt
              have hxo := HT.out.2.2.2 L[k]! (by rw [getElem!_pos L k hlt]; exact List.getElem_mem hlt)
              have hgt := edgesB_take L k hlt
              obtain ⟨xk, hxk⟩ : ∃ x, x = L[k]! := ⟨_, rfl⟩
              rw [← hxk] at l0 l1 l2 hxo hgt
              obtain ⟨u1, u2, u3⟩ := xk
              have h12 := bytes12 u1 u2 u3 hxo.1 hxo.2.1 hxo.2.2
              obtain ⟨⟨ha0, ha1⟩, ⟨hb0, hb1⟩, ⟨hc0, hc1⟩⟩ := hxo
              dsimp only at l0 l1 l2 ha0 ha1 hb0 hb1 hc0 hc1
              have H12 := hide h12
              have HGT := hide hgt
              have FL := hide fun w' (hb : Below wo.heap.size wo w') => (⟨(hb.cell (p := ⟨p, poff + k * 3, none⟩) hpb).trans l0, (hb.cell (p := ⟨p, poff + k * 3 + 1, none⟩) hpb).trans l1, (hb.cell (p := ⟨p, poff + k * 3 + 2, none⟩) hpb).trans l2⟩ : w'.cell? ⟨p, poff + k * 3, none⟩ = some (.int .u32 u1) ∧ w'.cell? ⟨p, poff + k * 3 + 1, none⟩ = some (.int .u32 u2) ∧ w'.cell? ⟨p, poff + k * 3 + 2, none⟩ = some (.int .u32 u3))
              have bb : Below wo.heap.size wo (wo.alloc (.cells #[.int .u32 u1, .int .u32 u2, .int .u32 u3] 37)).drew := ((Below.refl _ wo).alloc (Nat.le_refl _) _).drew
              have ST0 : Hid (TellSt w (.slice (some ⟨p, poff, none⟩) L.length cap7) L wo.heap.size #[.int .u32 u1, .int .u32 u2, .int .u32 u3] (wo.alloc (.cells #[.int .u32 u1, .int .u32 u2, .int .u32 u3] 37)).drew g cap acc) := ⟨OwnB.below HT.out.1 bb, below_then HT.out.2.1 bb, OwnV.below HT.out.2.2 bb, heap_alloc_new wo _⟩
              clear hpc hxk hgt h12 l0 l1 l2 bb
              go_wp2
              go_region_held (fun w' => w'.cell? ⟨p, poff + k * 3, none⟩ = some (.int .u32 u1) ∧ w'.cell? ⟨p, poff + k * 3 + 1, none⟩ = some (.int .u32 u2) ∧ w'.cell? ⟨p, poff + k * 3 + 2, none⟩ = some (.int .u32 u3)) (first | exact FL.out _ (Below.refl _ _).drew | exact FL.out _ ((Below.refl _ _).alloc (Nat.le_refl _) _).drew) (fail)
              all_goals
                clear FL
                go_wp2_with fail
                go_loopw [10, 17] (fun row i wi => ∃ (j : Nat) (acc' : List Int) (g' cap' : Nat), j ≤ 12 ∧ i = .int .i64 j ∧ Hid (acc' = acc ++ (edgeB (u1, u2, u3)).take j) ∧ acc'.length ≤ acc.length + j ∧ row = .slice (some ⟨g', 0, none⟩) acc'.length cap' ∧ Hid (TellSt w (.slice (some ⟨p, poff, none⟩) L.length cap7) L wo.heap.size #[.int .u32 u1, .int .u32 u2, .int .u32 u3] wi g' cap' acc')) (fun _ i _ => 12 - (intOf i).toNat)
                case atStart => exact ⟨0, acc, g, cap, by omega, rfl, by simp [Hid], by omega, rfl, ST0⟩
                case round =>
                  obtain ⟨j, acc', g', cap', hj, rfl, HAJ, haj, rfl, HST⟩ := hrel
                  obtain ⟨d0, d1, d2, df⟩ := cells3 HST.out.2.2.2
                  have hsz := HST.out.2.1.size
                  by_cases hj12 : j < 12
                  · obtain rfl | rfl | rfl | rfl | rfl | rfl | rfl | rfl | rfl | rfl | rfl | rfl : j = 0 ∨ j = 1 ∨ j = 2 ∨ j = 3 ∨ j = 4 ∨ j = 5 ∨ j = 6 ∨ j = 7 ∨ j = 8 ∨ j = 9 ∨ j = 10 ∨ j = 11 := by omega
                    · go_wp2_with (at_builtin; refine wp_pushO wr rfl _ _ rfl w.heap.size g' cap' acc' _ rfl HST.out.1 rfl (by omega) (by omega) hsz ?_; intro g2 cap2 w2 hown2 hbel2 hk2)
                      go_roundw
                      case rel => first | exact ⟨1, _, g2, cap2, by omega, by go_num, push12 HAJ.out (by rw [H12.out]; first | rfl | (simp; omega)), by simp; omega, by simp, TellSt.push HST.out hown2 hbel2 hk2⟩ | ((repeat apply Exists.intro); exact ⟨⟨1, _, g2, cap2, by omega, by go_num, push12 HAJ.out (by rw [H12.out]; first | rfl | (simp; omega)), by simp; omega, by simp, TellSt.push HST.out hown2 hbel2 hk2⟩, rfl⟩)
                      case measure => simp [intOf]
                    · go_wp2_with (at_builtin; refine wp_pushO wr rfl _ _ rfl w.heap.size g' cap' acc' _ rfl HST.out.1 rfl (by omega) (by omega) hsz ?_; intro g2 cap2 w2 hown2 hbel2 hk2)
                      go_roundw
                      case rel => first | exact ⟨2, _, g2, cap2, by omega, by go_num, push12 HAJ.out (by rw [H12.out]; first | rfl | (simp; omega)), by simp; omega, by simp, TellSt.push HST.out hown2 hbel2 hk2⟩ | ((repeat apply Exists.intro); exact ⟨⟨2, _, g2, cap2, by omega, by go_num, push12 HAJ.out (by rw [H12.out]; first | rfl | (simp; omega)), by simp; omega, by simp, TellSt.push HST.out hown2 hbel2 hk2⟩, rfl⟩)
                      case measure => simp [intOf]
                    · go_wp2_with (at_builtin; refine wp_pushO wr rfl _ _ rfl w.heap.size g' cap' acc' _ rfl HST.out.1 rfl (by omega) (by omega) hsz ?_; intro g2 cap2 w2 hown2 hbel2 hk2)
                      go_roundw
                      case rel => first | exact ⟨3, _, g2, cap2, by omega, by go_num, push12 HAJ.out (by rw [H12.out]; first | rfl | (simp; omega)), by simp; omega, by simp, TellSt.push HST.out hown2 hbel2 hk2⟩ | ((repeat apply Exists.intro); exact ⟨⟨3, _, g2, cap2, by omega, by go_num, push12 HAJ.out (by rw [H12.out]; first | rfl | (simp; omega)), by simp; omega, by simp, TellSt.push HST.out hown2 hbel2 hk2⟩, rfl⟩)
                      case measure => simp [intOf]
                    · go_wp2_with (at_builtin; refine wp_pushO wr rfl _ _ rfl w.heap.size g' cap' acc' _ rfl HST.out.1 rfl (by omega) (by omega) hsz ?_; intro g2 cap2 w2 hown2 hbel2 hk2)
                      go_roundw
                      case rel => first | exact ⟨4, _, g2, cap2, by omega, by go_num, push12 HAJ.out (by rw [H12.out]; first | rfl | (simp; omega)), by simp; omega, by simp, TellSt.push HST.out hown2 hbel2 hk2⟩ | ((repeat apply Exists.intro); exact ⟨⟨4, _, g2, cap2, by omega, by go_num, push12 HAJ.out (by rw [H12.out]; first | rfl | (simp; omega)), by simp; omega, by simp, TellSt.push HST.out hown2 hbel2 hk2⟩, rfl⟩)
                      case measure => simp [intOf]
                    · go_wp2_with (at_builtin; refine wp_pushO wr rfl _ _ rfl w.heap.size g' cap' acc' _ rfl HST.out.1 rfl (by omega) (by omega) hsz ?_; intro g2 cap2 w2 hown2 hbel2 hk2)
                      go_roundw
                      case rel => first | exact ⟨5, _, g2, cap2, by omega, by go_num, push12 HAJ.out (by rw [H12.out]; first | rfl | (simp; omega)), by simp; omega, by simp, TellSt.push HST.out hown2 hbel2 hk2⟩ | ((repeat apply Exists.intro); exact ⟨⟨5, _, g2, cap2, by omega, by go_num, push12 HAJ.out (by rw [H12.out]; first | rfl | (simp; omega)), by simp; omega, by simp, TellSt.push HST.out hown2 hbel2 hk2⟩, rfl⟩)
                      case measure => simp [intOf]
                    · go_wp2_with (at_builtin; refine wp_pushO wr rfl _ _ rfl w.heap.size g' cap' acc' _ rfl HST.out.1 rfl (by omega) (by omega) hsz ?_; intro g2 cap2 w2 hown2 hbel2 hk2)
                      go_roundw
                      case rel => first | exact ⟨6, _, g2, cap2, by omega, by go_num, push12 HAJ.out (by rw [H12.out]; first | rfl | (simp; omega)), by simp; omega, by simp, TellSt.push HST.out hown2 hbel2 hk2⟩ | ((repeat apply Exists.intro); exact ⟨⟨6, _, g2, cap2, by omega, by go_num, push12 HAJ.out (by rw [H12.out]; first | rfl | (simp; omega)), by simp; omega, by simp, TellSt.push HST.out hown2 hbel2 hk2⟩, rfl⟩)
                      case measure => simp [intOf]
                    · go_wp2_with (at_builtin; refine wp_pushO wr rfl _ _ rfl w.heap.size g' cap' acc' _ rfl HST.out.1 rfl (by omega) (by omega) hsz ?_; intro g2 cap2 w2 hown2 hbel2 hk2)
                      go_roundw
                      case rel => first | exact ⟨7, _, g2, cap2, by omega, by go_num, push12 HAJ.out (by rw [H12.out]; first | rfl | (simp; omega)), by simp; omega, by simp, TellSt.push HST.out hown2 hbel2 hk2⟩ | ((repeat apply Exists.intro); exact ⟨⟨7, _, g2, cap2, by omega, by go_num, push12 HAJ.out (by rw [H12.out]; first | rfl | (simp; omega)), by simp; omega, by simp, TellSt.push HST.out hown2 hbel2 hk2⟩, rfl⟩)
                      case measure => simp [intOf]
                    · go_wp2_with (at_builtin; refine wp_pushO wr rfl _ _ rfl w.heap.size g' cap' acc' _ rfl HST.out.1 rfl (by omega) (by omega) hsz ?_; intro g2 cap2 w2 hown2 hbel2 hk2)
                      go_roundw
                      case rel => first | exact ⟨8, _, g2, cap2, by omega, by go_num, push12 HAJ.out (by rw [H12.out]; first | rfl | (simp; omega)), by simp; omega, by simp, TellSt.push HST.out hown2 hbel2 hk2⟩ | ((repeat apply Exists.intro); exact ⟨⟨8, _, g2, cap2, by omega, by go_num, push12 HAJ.out (by rw [H12.out]; first | rfl | (simp; omega)), by simp; omega, by simp, TellSt.push HST.out hown2 hbel2 hk2⟩, rfl⟩)
                      case measure => simp [intOf]
                    · go_wp2_with (at_builtin; refine wp_pushO wr rfl _ _ rfl w.heap.size g' cap' acc' _ rfl HST.out.1 rfl (by omega) (by omega) hsz ?_; intro g2 cap2 w2 hown2 hbel2 hk2)
                      go_roundw
                      case rel => first | exact ⟨9, _, g2, cap2, by omega, by go_num, push12 HAJ.out (by rw [H12.out]; first | rfl | (simp; omega)), by simp; omega, by simp, TellSt.push HST.out hown2 hbel2 hk2⟩ | ((repeat apply Exists.intro); exact ⟨⟨9, _, g2, cap2, by omega, by go_num, push12 HAJ.out (by rw [H12.out]; first | rfl | (simp; omega)), by simp; omega, by simp, TellSt.push HST.out hown2 hbel2 hk2⟩, rfl⟩)
                      case measure => simp [intOf]
                    · go_wp2_with (at_builtin; refine wp_pushO wr rfl _ _ rfl w.heap.size g' cap' acc' _ rfl HST.out.1 rfl (by omega) (by omega) hsz ?_; intro g2 cap2 w2 hown2 hbel2 hk2)
                      go_roundw
                      case rel => first | exact ⟨10, _, g2, cap2, by omega, by go_num, push12 HAJ.out (by rw [H12.out]; first | rfl | (simp; omega)), by simp; omega, by simp, TellSt.push HST.out hown2 hbel2 hk2⟩ | ((repeat apply Exists.intro); exact ⟨⟨10, _, g2, cap2, by omega, by go_num, push12 HAJ.out (by rw [H12.out]; first | rfl | (simp; omega)), by simp; omega, by simp, TellSt.push HST.out hown2 hbel2 hk2⟩, rfl⟩)
                      case measure => simp [intOf]
                    · go_wp2_with (at_builtin; refine wp_pushO wr rfl _ _ rfl w.heap.size g' cap' acc' _ rfl HST.out.1 rfl (by omega) (by omega) hsz ?_; intro g2 cap2 w2 hown2 hbel2 hk2)
                      go_roundw
                      case rel => first | exact ⟨11, _, g2, cap2, by omega, by go_num, push12 HAJ.out (by rw [H12.out]; first | rfl | (simp; omega)), by simp; omega, by simp, TellSt.push HST.out hown2 hbel2 hk2⟩ | ((repeat apply Exists.intro); exact ⟨⟨11, _, g2, cap2, by omega, by go_num, push12 HAJ.out (by rw [H12.out]; first | rfl | (simp; omega)), by simp; omega, by simp, TellSt.push HST.out hown2 hbel2 hk2⟩, rfl⟩)
                      case measure => simp [intOf]
                    · go_wp2_with (at_builtin; refine wp_pushO wr rfl _ _ rfl w.heap.size g' cap' acc' _ rfl HST.out.1 rfl (by omega) (by omega) hsz ?_; intro g2 cap2 w2 hown2 hbel2 hk2)
                      go_roundw
                      case rel => first | exact ⟨12, _, g2, cap2, by omega, by go_num, push12 HAJ.out (by rw [H12.out]; first | rfl | (simp; omega)), by simp; omega, by simp, TellSt.push HST.out hown2 hbel2 hk2⟩ | ((repeat apply Exists.intro); exact ⟨⟨12, _, g2, cap2, by omega, by go_num, push12 HAJ.out (by rw [H12.out]; first | rfl | (simp; omega)), by simp; omega, by simp, TellSt.push HST.out hown2 hbel2 hk2⟩, rfl⟩)
                      case measure => simp [intOf]
                  · obtain rfl : j = 12 := by omega
                    clear d0 d1 d2 df
                    go_wp2
                    go_roundw
                    case rel =>
                      have R1 : Hid (acc' = bs ++ edgesB (L.take (k + 1))) := by
                        show _ = _
                        rw [HAJ.out, List.take_of_length_le (by rw [edgeB_length]; omega), HA.out, HGT.out, List.append_assoc]
                      first | exact ⟨k + 1, acc', g', cap', by omega, by go_num, R1, by omega, rfl, ⟨HST.out.1, HST.out.2.1, HST.out.2.2.1⟩⟩ | ((repeat apply Exists.intro); exact ⟨⟨k + 1, acc', g', cap', by omega, by go_num, R1, by omega, rfl, ⟨HST.out.1, HST.out.2.1, HST.out.2.2.1⟩⟩, rfl⟩)
                    case measure => simp [intOf]; omega
            · obtain rfl : k = L.length := by omega
              have D := decode_any _ _ wo (OwnB.isB HT.out.1) (by omega)
              rw [HA.out, List.take_of_length_le (Nat.le_refl _), HDEC.out, ← List.take_of_length_le (Nat.le_refl L.length), ← HA.out] at D
              have HBo := hide HT.out.2.1
              clear HA HT HDEC
              go_wp2_with fail
              refine D.mono ?_
              clear D
              rintro e wA ⟨vA, rfl, iA, bA⟩
              obtain ⟨aA, capA, rfl, _⟩ := iA.form
              have HBA := hide (below_then HBo.out bA)
              clear iA bA
              go_wp2
              go_ret
              exact ⟨by simp, HBA.out.alloc HBA.out.size _⟩
      | true =>
        have hmd := Int.emod_nonneg x1 (show n0 ≠ 0 by omega); have hme := Int.emod_lt_of_pos x1 hnp; have hmf := Int.emod_nonneg y1 (show n0 ≠ 0 by omega); have hmg := Int.emod_lt_of_pos y1 hnp
        have hwr : wrongE n0 ((x1 % n0), (y1 % n0 + n0), z1) = 1 := by
          rw [wrongE_ok n0 _ (okE_mk (by omega) (by omega) (by omega))]
          rw [if_neg (by dsimp only; omega), if_pos (by dsimp only; omega)]
        have hbok : okE ((x1 % n0), (y1 % n0 + n0), z1) := okE_mk (by omega) (by omega) (by omega)
        have HWR := hide hwr
        have HBOK := hide hbok
        clear hwr hbok
        go_wp2
        have e1 := heap_setCell_same w4 (w.heap.size + 1) 0 _ _ (.int .u32 (x1 % n0)) T4.out
        have e2 := heap_setCell_same _ (w.heap.size + 1) 1 _ _ (.int .u32 (y1 % n0)) e1
        have e3 := heap_setCell_same _ (w.heap.size + 1) 1 _ _ (.int .u32 (y1 % n0 + n0)) e2
        simp only [List.setIfInBounds_toArray, List.set_cons_zero, List.set_cons_succ] at e3
        have O5 : Hid (OwnB w3.heap.size (((w4.setCell ⟨w.heap.size + 1, 0, none⟩ (.int .u32 (x1 % n0))).setCell ⟨w.heap.size + 1, 1, none⟩ (.int .u32 (y1 % n0))).setCell ⟨w.heap.size + 1, 1, none⟩ (.int .u32 (y1 % n0 + n0))) g4 cap4 bs) := ⟨ownsRow_setCell_below (ownsRow_setCell_below (ownsRow_setCell_below O4.out.1 hs3 _) hs3 _) hs3 _, O4.out.2⟩
        have B5 : Hid (Below w.heap.size w (((w4.setCell ⟨w.heap.size + 1, 0, none⟩ (.int .u32 (x1 % n0))).setCell ⟨w.heap.size + 1, 1, none⟩ (.int .u32 (y1 % n0))).setCell ⟨w.heap.size + 1, 1, none⟩ (.int .u32 (y1 % n0 + n0)))) := ((HB4.out.setCell (p := ⟨w.heap.size + 1, 0, none⟩) (by simp) _).setCell (p := ⟨w.heap.size + 1, 1, none⟩) (by simp) _).setCell (p := ⟨w.heap.size + 1, 1, none⟩) (by simp) _
        have T5 := hide e3
        clear e1 e2 e3 c40 c41 f4 d40 d41 d42 k4 T4 O4 HB4
        generalize (((w4.setCell ⟨w.heap.size + 1, 0, none⟩ (.int .u32 (x1 % n0))).setCell ⟨w.heap.size + 1, 1, none⟩ (.int .u32 (y1 % n0))).setCell ⟨w.heap.size + 1, 1, none⟩ (.int .u32 (y1 % n0 + n0))) = w5 at T5 O5 B5 ⊢
        obtain ⟨x, hx⟩ : ∃ x, (x1 % n0) = x := ⟨_, rfl⟩
        obtain ⟨y, hy⟩ : ∃ y, (y1 % n0 + n0) = y := ⟨_, rfl⟩
        rw [hx, hy] at HWR HBOK T5
        have hxyz := HBOK.out
        obtain ⟨⟨hxa, hxb⟩, ⟨hya, hyb⟩, _⟩ := hxyz
        dsimp only at hxa hxb hya hyb
        clear hx hy hx0 hx1 hy0 hy1
        obtain ⟨c50, c51, c52, f5⟩ := cells3 T5.out
        have f1 : ∀ w', Below w5.heap.size w5 w' → w'.cell? ⟨w.heap.size + 1, 0, none⟩ = some (.int .u32 x) ∧ w'.cell? ⟨w.heap.size + 1, 1, none⟩ = some (.int .u32 y) ∧ w'.cell? ⟨w.heap.size + 1, 2, none⟩ = some (.int .u32 z1) := fun w' hb => by
          obtain ⟨q0, q1, q2, _⟩ := cells3 (block_then T5.out hb)
          exact ⟨q0, q1, q2⟩
        have F1 := hide f1
        have OV : Hid (OwnV w5.heap.size (w5.alloc (.cells #[.int .u32 x, .int .u32 y, .int .u32 z1] 39)).drew (.slice (some ⟨w5.heap.size, 0, none⟩) 1 1) [(x, y, z1)]) := OwnV.one w5 w5.heap.size (Nat.le_refl _) x y z1 HBOK.out
        have b6 : Below w5.heap.size w5 (w5.alloc (.cells #[.int .u32 x, .int .u32 y, .int .u32 z1] 39)).drew := ((Below.refl _ w5).alloc (Nat.le_refl _) _).drew
        have B6 := hide b6
        have HM6 := hide (HMT.out.below (below_then B5.out b6))
        obtain ⟨L, hL⟩ : ∃ L : List Ed, L = (x, y, z1) :: ms := ⟨_, rfl⟩
        have hLl : [(x, y, z1)].length + ms.length = L.length := by rw [hL]; simp; omega
        have hL11 : L.length ≤ 11 := by rw [hL, List.length_cons, HML.out]; omega
        have hLok : ∀ e ∈ L, okE e := fun e he => by
          rw [hL] at he
          rcases List.mem_cons.1 he with rfl | he
          · exact HBOK.out
          · exact HMT.out.ok e he
        have hdec : dec (bs ++ edgesB L) = (0, [], (bs.length : Int) + 4, 1) := by
          have e1 : bs ++ edgesB L = graphB n0 (fs ++ L) := by rw [HBS.out, graphB, graphB, edgesB_append, List.append_assoc]
          have hgl := HGL.out
          rw [e1, dec_graph n0 hr0 hr1 (fs ++ L) (fun e he => by rcases List.mem_append.1 he with he | he; exact HFOK.out e he; exact hLok e he) (by rw [List.length_append]; omega), hL, badAt_first n0 fs (x, y, z1) ms 0 HR3.out (by rw [HWR.out]; decide), HWR.out]
          simp only [Prod.mk.injEq, true_and, and_true]
          omega
        have HDEC := hide hdec
        have HLL := hide hLl
        have HLC := hide hL
        clear f1 b6 c50 c51 c52 f5 hdec hLok hLl hL
        go_region_held_law (fun w' => w'.cell? ⟨w.heap.size + 1, 0, none⟩ = some (.int .u32 x) ∧ w'.cell? ⟨w.heap.size + 1, 1, none⟩ = some (.int .u32 y) ∧ w'.cell? ⟨w.heap.size + 1, 2, none⟩ = some (.int .u32 z1)) (first | exact F1.out _ (Below.refl _ _).drew | exact F1.out _ B6.out | exact F1.out _ B7.out) ((refine step_appendE _ ?_ (.tmp 66) (.tmp 71) ?_ w5.heap.size (.slice (some ⟨w5.heap.size, 0, none⟩) 1 1) (.slice a3 m cap3) [(x, y, z1)] ms ?_ ?_ ?_ ?_ ?_ ?_ ?_; rfl; rfl; rfl; exact OV.out; rfl; exact HM6.out; (have := HML.out; simp; omega); exact B6.out.size; intro a7 cap7 w7 o7 g7 n7; rw [HLL.out] at o7 ⊢; have O7 := hide o7; have B7 := hide (B6.out.grown g7 B6.out.size (by intro k hk; simp [Value.ownBlock] at hk; omega)); clear o7 g7 n7))
        all_goals
          have L0 : Hid (OwnB w.heap.size w7 g4 cap4 bs ∧ Below w.heap.size w w7 ∧ OwnV w.heap.size w7 (.slice a7 L.length cap7) L) := ⟨(O5.out.below B7.out).mono (by omega), below_then B5.out B7.out, by rw [HLC.out]; rw [HLC.out] at O7; exact O7.out.mono B5.out.size⟩
          clear O5 B5 T5 F1 OV B6 HM6 HLL HLC O7 B7 HMT HML HBOK HWR HR3 HFOK HBS HGL hmd hme hmf hmg hs1 hs3 hxa hxb hya hyb i0 i3 m0 m3
          go_wp2
          go_loopw [10, 15] (fun row i wr => ∃ (k : Nat) (acc : List Int) (g cap : Nat), k ≤ L.length ∧ i = .int .i64 k ∧ Hid (acc = bs ++ edgesB (L.take k)) ∧ acc.length ≤ 484 + 12 * k ∧ row = .slice (some ⟨g, 0, none⟩) acc.length cap ∧ Hid (OwnB w.heap.size wr g cap acc ∧ Below w.heap.size w wr ∧ OwnV w.heap.size wr (.slice a7 L.length cap7) L)) (fun _ i _ => L.length - (intOf i).toNat)
          case atStart => exact ⟨0, bs, g4, cap4, Nat.zero_le _, rfl, by simp [Hid, edgesB], by omega, rfl, L0⟩
          case round =>
            obtain ⟨k, acc, g, cap, hk, rfl, HA, hal, rfl, HT⟩ := hrel
            obtain ⟨wo, hwo⟩ : ∃ wo, wo = wr := ⟨_, rfl⟩
            subst hwo
            by_cases hlt : k < L.length
            · obtain ⟨p, poff, pcap, he, _, hpb, hpc⟩ := (OwnV.isE HT.out.2.2).opened (by omega)
              simp only [Value.slice.injEq, true_and] at he
              obtain ⟨rfl, rfl⟩ := he
              obtain ⟨l0, l1, l2⟩ := IsE.at hpc k hlt
              have hxo := HT.out.2.2.2 L[k]! (by rw [getElem!_pos L k hlt]; exact List.getElem_mem hlt)
              have hgt := edgesB_take L k hlt
              obtain ⟨xk, hxk⟩ : ∃ x, x = L[k]! := ⟨_, rfl⟩
              rw [← hxk] at l0 l1 l2 hxo hgt
              obtain ⟨u1, u2, u3⟩ := xk
              have h12 := bytes12 u1 u2 u3 hxo.1 hxo.2.1 hxo.2.2
              obtain ⟨⟨ha0, ha1⟩, ⟨hb0, hb1⟩, ⟨hc0, hc1⟩⟩ := hxo
              dsimp only at l0 l1 l2 ha0 ha1 hb0 hb1 hc0 hc1
              have H12 := hide h12
              have HGT := hide hgt
              have FL := hide fun w' (hb : Below wo.heap.size wo w') => (⟨(hb.cell (p := ⟨p, poff + k * 3, none⟩) hpb).trans l0, (hb.cell (p := ⟨p, poff + k * 3 + 1, none⟩) hpb).trans l1, (hb.cell (p := ⟨p, poff + k * 3 + 2, none⟩) hpb).trans l2⟩ : w'.cell? ⟨p, poff + k * 3, none⟩ = some (.int .u32 u1) ∧ w'.cell? ⟨p, poff + k * 3 + 1, none⟩ = some (.int .u32 u2) ∧ w'.cell? ⟨p, poff + k * 3 + 2, none⟩ = some (.int .u32 u3))
              have bb : Below wo.heap.size wo (wo.alloc (.cells #[.int .u32 u1, .int .u32 u2, .int .u32 u3] 37)).drew := ((Below.refl _ wo).alloc (Nat.le_refl _) _).drew
              have ST0 : Hid (TellSt w (.slice (some ⟨p, poff, none⟩) L.length cap7) L wo.heap.size #[.int .u32 u1, .int .u32 u2, .int .u32 u3] (wo.alloc (.cells #[.int .u32 u1, .int .u32 u2, .int .u32 u3] 37)).drew g cap acc) := ⟨OwnB.below HT.out.1 bb, below_then HT.out.2.1 bb, OwnV.below HT.out.2.2 bb, heap_alloc_new wo _⟩
              clear hpc hxk hgt h12 l0 l1 l2 bb
              go_wp2
              go_region_held (fun w' => w'.cell? ⟨p, poff + k * 3, none⟩ = some (.int .u32 u1) ∧ w'.cell? ⟨p, poff + k * 3 + 1, none⟩ = some (.int .u32 u2) ∧ w'.cell? ⟨p, poff + k * 3 + 2, none⟩ = some (.int .u32 u3)) (first | exact FL.out _ (Below.refl _ _).drew | exact FL.out _ ((Below.refl _ _).alloc (Nat.le_refl _) _).drew) (fail)
              all_goals
                clear FL
                go_wp2_with fail
                go_loopw [10, 17] (fun row i wi => ∃ (j : Nat) (acc' : List Int) (g' cap' : Nat), j ≤ 12 ∧ i = .int .i64 j ∧ Hid (acc' = acc ++ (edgeB (u1, u2, u3)).take j) ∧ acc'.length ≤ acc.length + j ∧ row = .slice (some ⟨g', 0, none⟩) acc'.length cap' ∧ Hid (TellSt w (.slice (some ⟨p, poff, none⟩) L.length cap7) L wo.heap.size #[.int .u32 u1, .int .u32 u2, .int .u32 u3] wi g' cap' acc')) (fun _ i _ => 12 - (intOf i).toNat)
                case atStart => exact ⟨0, acc, g, cap, by omega, rfl, by simp [Hid], by omega, rfl, ST0⟩
                case round =>
                  obtain ⟨j, acc', g', cap', hj, rfl, HAJ, haj, rfl, HST⟩ := hrel
                  obtain ⟨d0, d1, d2, df⟩ := cells3 HST.out.2.2.2
                  have hsz := HST.out.2.1.size
                  by_cases hj12 : j < 12
                  · obtain rfl | rfl | rfl | rfl | rfl | rfl | rfl | rfl | rfl | rfl | rfl | rfl : j = 0 ∨ j = 1 ∨ j = 2 ∨ j = 3 ∨ j = 4 ∨ j = 5 ∨ j = 6 ∨ j = 7 ∨ j = 8 ∨ j = 9 ∨ j = 10 ∨ j = 11 := by omega
                    · go_wp2_with (at_builtin; refine wp_pushO wr rfl _ _ rfl w.heap.size g' cap' acc' _ rfl HST.out.1 rfl (by omega) (by omega) hsz ?_; intro g2 cap2 w2 hown2 hbel2 hk2)
                      go_roundw
                      case rel => first | exact ⟨1, _, g2, cap2, by omega, by go_num, push12 HAJ.out (by rw [H12.out]; first | rfl | (simp; omega)), by simp; omega, by simp, TellSt.push HST.out hown2 hbel2 hk2⟩ | ((repeat apply Exists.intro); exact ⟨⟨1, _, g2, cap2, by omega, by go_num, push12 HAJ.out (by rw [H12.out]; first | rfl | (simp; omega)), by simp; omega, by simp, TellSt.push HST.out hown2 hbel2 hk2⟩, rfl⟩)
                      case measure => simp [intOf]
                    · go_wp2_with (at_builtin; refine wp_pushO wr rfl _ _ rfl w.heap.size g' cap' acc' _ rfl HST.out.1 rfl (by omega) (by omega) hsz ?_; intro g2 cap2 w2 hown2 hbel2 hk2)
                      go_roundw
                      case rel => first | exact ⟨2, _, g2, cap2, by omega, by go_num, push12 HAJ.out (by rw [H12.out]; first | rfl | (simp; omega)), by simp; omega, by simp, TellSt.push HST.out hown2 hbel2 hk2⟩ | ((repeat apply Exists.intro); exact ⟨⟨2, _, g2, cap2, by omega, by go_num, push12 HAJ.out (by rw [H12.out]; first | rfl | (simp; omega)), by simp; omega, by simp, TellSt.push HST.out hown2 hbel2 hk2⟩, rfl⟩)
                      case measure => simp [intOf]
                    · go_wp2_with (at_builtin; refine wp_pushO wr rfl _ _ rfl w.heap.size g' cap' acc' _ rfl HST.out.1 rfl (by omega) (by omega) hsz ?_; intro g2 cap2 w2 hown2 hbel2 hk2)
                      go_roundw
                      case rel => first | exact ⟨3, _, g2, cap2, by omega, by go_num, push12 HAJ.out (by rw [H12.out]; first | rfl | (simp; omega)), by simp; omega, by simp, TellSt.push HST.out hown2 hbel2 hk2⟩ | ((repeat apply Exists.intro); exact ⟨⟨3, _, g2, cap2, by omega, by go_num, push12 HAJ.out (by rw [H12.out]; first | rfl | (simp; omega)), by simp; omega, by simp, TellSt.push HST.out hown2 hbel2 hk2⟩, rfl⟩)
                      case measure => simp [intOf]
                    · go_wp2_with (at_builtin; refine wp_pushO wr rfl _ _ rfl w.heap.size g' cap' acc' _ rfl HST.out.1 rfl (by omega) (by omega) hsz ?_; intro g2 cap2 w2 hown2 hbel2 hk2)
                      go_roundw
                      case rel => first | exact ⟨4, _, g2, cap2, by omega, by go_num, push12 HAJ.out (by rw [H12.out]; first | rfl | (simp; omega)), by simp; omega, by simp, TellSt.push HST.out hown2 hbel2 hk2⟩ | ((repeat apply Exists.intro); exact ⟨⟨4, _, g2, cap2, by omega, by go_num, push12 HAJ.out (by rw [H12.out]; first | rfl | (simp; omega)), by simp; omega, by simp, TellSt.push HST.out hown2 hbel2 hk2⟩, rfl⟩)
                      case measure => simp [intOf]
                    · go_wp2_with (at_builtin; refine wp_pushO wr rfl _ _ rfl w.heap.size g' cap' acc' _ rfl HST.out.1 rfl (by omega) (by omega) hsz ?_; intro g2 cap2 w2 hown2 hbel2 hk2)
                      go_roundw
                      case rel => first | exact ⟨5, _, g2, cap2, by omega, by go_num, push12 HAJ.out (by rw [H12.out]; first | rfl | (simp; omega)), by simp; omega, by simp, TellSt.push HST.out hown2 hbel2 hk2⟩ | ((repeat apply Exists.intro); exact ⟨⟨5, _, g2, cap2, by omega, by go_num, push12 HAJ.out (by rw [H12.out]; first | rfl | (simp; omega)), by simp; omega, by simp, TellSt.push HST.out hown2 hbel2 hk2⟩, rfl⟩)
                      case measure => simp [intOf]
                    · go_wp2_with (at_builtin; refine wp_pushO wr rfl _ _ rfl w.heap.size g' cap' acc' _ rfl HST.out.1 rfl (by omega) (by omega) hsz ?_; intro g2 cap2 w2 hown2 hbel2 hk2)
                      go_roundw
                      case rel => first | exact ⟨6, _, g2, cap2, by omega, by go_num, push12 HAJ.out (by rw [H12.out]; first | rfl | (simp; omega)), by simp; omega, by simp, TellSt.push HST.out hown2 hbel2 hk2⟩ | ((repeat apply Exists.intro); exact ⟨⟨6, _, g2, cap2, by omega, by go_num, push12 HAJ.out (by rw [H12.out]; first | rfl | (simp; omega)), by simp; omega, by simp, TellSt.push HST.out hown2 hbel2 hk2⟩, rfl⟩)
                      case measure => simp [intOf]
                    · go_wp2_with (at_builtin; refine wp_pushO wr rfl _ _ rfl w.heap.size g' cap' acc' _ rfl HST.out.1 rfl (by omega) (by omega) hsz ?_; intro g2 cap2 w2 hown2 hbel2 hk2)
                      go_roundw
                      case rel => first | exact ⟨7, _, g2, cap2, by omega, by go_num, push12 HAJ.out (by rw [H12.out]; first | rfl | (simp; omega)), by simp; omega, by simp, TellSt.push HST.out hown2 hbel2 hk2⟩ | ((repeat apply Exists.intro); exact ⟨⟨7, _, g2, cap2, by omega, by go_num, push12 HAJ.out (by rw [H12.out]; first | rfl | (simp; omega)), by simp; omega, by simp, TellSt.push HST.out hown2 hbel2 hk2⟩, rfl⟩)
                      case measure => simp [intOf]
                    · go_wp2_with (at_builtin; refine wp_pushO wr rfl _ _ rfl w.heap.size g' cap' acc' _ rfl HST.out.1 rfl (by omega) (by omega) hsz ?_; intro g2 cap2 w2 hown2 hbel2 hk2)
                      go_roundw
                      case rel => first | exact ⟨8, _, g2, cap2, by omega, by go_num, push12 HAJ.out (by rw [H12.out]; first | rfl | (simp; omega)), by simp; omega, by simp, TellSt.push HST.out hown2 hbel2 hk2⟩ | ((repeat apply Exists.intro); exact ⟨⟨8, _, g2, cap2, by omega, by go_num, push12 HAJ.out (by rw [H12.out]; first | rfl | (simp; omega)), by simp; omega, by simp, TellSt.push HST.out hown2 hbel2 hk2⟩, rfl⟩)
                      case measure => simp [intOf]
                    · go_wp2_with (at_builtin; refine wp_pushO wr rfl _ _ rfl w.heap.size g' cap' acc' _ rfl HST.out.1 rfl (by omega) (by omega) hsz ?_; intro g2 cap2 w2 hown2 hbel2 hk2)
                      go_roundw
                      case rel => first | exact ⟨9, _, g2, cap2, by omega, by go_num, push12 HAJ.out (by rw [H12.out]; first | rfl | (simp; omega)), by simp; omega, by simp, TellSt.push HST.out hown2 hbel2 hk2⟩ | ((repeat apply Exists.intro); exact ⟨⟨9, _, g2, cap2, by omega, by go_num, push12 HAJ.out (by rw [H12.out]; first | rfl | (simp; omega)), by simp; omega, by simp, TellSt.push HST.out hown2 hbel2 hk2⟩, rfl⟩)
                      case measure => simp [intOf]
                    · go_wp2_with (at_builtin; refine wp_pushO wr rfl _ _ rfl w.heap.size g' cap' acc' _ rfl HST.out.1 rfl (by omega) (by omega) hsz ?_; intro g2 cap2 w2 hown2 hbel2 hk2)
                      go_roundw
                      case rel => first | exact ⟨10, _, g2, cap2, by omega, by go_num, push12 HAJ.out (by rw [H12.out]; first | rfl | (simp; omega)), by simp; omega, by simp, TellSt.push HST.out hown2 hbel2 hk2⟩ | ((repeat apply Exists.intro); exact ⟨⟨10, _, g2, cap2, by omega, by go_num, push12 HAJ.out (by rw [H12.out]; first | rfl | (simp; omega)), by simp; omega, by simp, TellSt.push HST.out hown2 hbel2 hk2⟩, rfl⟩)
                      case measure => simp [intOf]
                    · go_wp2_with (at_builtin; refine wp_pushO wr rfl _ _ rfl w.heap.size g' cap' acc' _ rfl HST.out.1 rfl (by omega) (by omega) hsz ?_; intro g2 cap2 w2 hown2 hbel2 hk2)
                      go_roundw
                      case rel => first | exact ⟨11, _, g2, cap2, by omega, by go_num, push12 HAJ.out (by rw [H12.out]; first | rfl | (simp; omega)), by simp; omega, by simp, TellSt.push HST.out hown2 hbel2 hk2⟩ | ((repeat apply Exists.intro); exact ⟨⟨11, _, g2, cap2, by omega, by go_num, push12 HAJ.out (by rw [H12.out]; first | rfl | (simp; omega)), by simp; omega, by simp, TellSt.push HST.out hown2 hbel2 hk2⟩, rfl⟩)
                      case measure => simp [intOf]
                    · go_wp2_with (at_builtin; refine wp_pushO wr rfl _ _ rfl w.heap.size g' cap' acc' _ rfl HST.out.1 rfl (by omega) (by omega) hsz ?_; intro g2 cap2 w2 hown2 hbel2 hk2)
                      go_roundw
                      case rel => first | exact ⟨12, _, g2, cap2, by omega, by go_num, push12 HAJ.out (by rw [H12.out]; first | rfl | (simp; omega)), by simp; omega, by simp, TellSt.push HST.out hown2 hbel2 hk2⟩ | ((repeat apply Exists.intro); exact ⟨⟨12, _, g2, cap2, by omega, by go_num, push12 HAJ.out (by rw [H12.out]; first | rfl | (simp; omega)), by simp; omega, by simp, TellSt.push HST.out hown2 hbel2 hk2⟩, rfl⟩)
                      case measure => simp [intOf]
                  · obtain rfl : j = 12 := by omega
                    clear d0 d1 d2 df
                    go_wp2
                    go_roundw
                    case rel =>
                      have R1 : Hid (acc' = bs ++ edgesB (L.take (k + 1))) := by
                        show _ = _
                        rw [HAJ.out, List.take_of_length_le (by rw [edgeB_length]; omega), HA.out, HGT.out, List.append_assoc]
                      first | exact ⟨k + 1, acc', g', cap', by omega, by go_num, R1, by omega, rfl, ⟨HST.out.1, HST.out.2.1, HST.out.2.2.1⟩⟩ | ((repeat apply Exists.intro); exact ⟨⟨k + 1, acc', g', cap', by omega, by go_num, R1, by omega, rfl, ⟨HST.out.1, HST.out.2.1, HST.out.2.2.1⟩⟩, rfl⟩)
                    case measure => simp [intOf]; omega
            · obtain rfl : k = L.length := by omega
              have D := decode_any _ _ wo (OwnB.isB HT.out.1) (by omega)
              rw [HA.out, List.take_of_length_le (Nat.le_refl _), HDEC.out, ← List.take_of_length_le (Nat.le_refl L.length), ← HA.out] at D
              have HBo := hide HT.out.2.1
              clear HA HT HDEC
              go_wp2_with fail
              refine D.mono ?_
              clear D
              rintro e wA ⟨vA, rfl, iA, bA⟩
              obtain ⟨aA, capA, rfl, _⟩ := iA.form
              have HBA := hide (below_then HBo.out bA)
              clear iA bA
              go_wp2
              go_ret
              exact ⟨by simp, HBA.out.alloc HBA.out.size _⟩

/-! ### The row's step -/
set_option maxRecDepth 100000 in
theorem lifted (os : Os) (started : os.Started) (H : Type) (enc : TypeId × Value → H) :
    ReturnsInHanded {} Try.checked os 7 .any (Rows.edgesFirstSpec.pre6 enc Try.prog Try.f7 Rows.edgesFirstRow.domain false) (Rows.edgesFirstSpec.post enc Try.prog Try.f7 false true false false) := by
  refine returnsInHanded_of_change (C := Try.checked) own started (by kernel_rfl) Try.func7
    (ChangeSpec.witness6 (enc := enc) (C := Try.checked) false ⟨#[], #[.agg #[.int .i64 0, .slice none 0 0], .agg #[.int .u32 0, .int .u32 0, .int .u32 0], .bool false, .slice none 0 0], []⟩ 8 (by kernel_rfl) (by kernel_rfl) (by kernel_rfl) (by kernel_rfl)) ?_
  intro W base args ds gs before hval0 hW hcnd _
  have hval : ∀ (j : Nat) t v, Try.f7.params[j]? = some t → args[j]? = some v → Value.okWide Try.prog W .any base t v := hval0
  have hW' := hW
  obtain ⟨p, q, hA0, hV, rfl, hfz, hnd⟩ := hW
  have hA : DataW.TrodAll enc Try.prog W 0 (fun _ => true) true Try.f7.params.toList args.toList ds p := hA0
  rw [Try.params7] at hA hval
  obtain ⟨v0, vs0, d0, ds0, p0, q0, hargs, rfl, rfl, h0, r0⟩ := trodAll_cons hA
  obtain ⟨v1, vs1, d1, ds1, p1, q1, rfl, rfl, rfl, h1, r1⟩ := trodAll_cons r0
  obtain ⟨v2, vs2, d2, ds2, p2, q2, rfl, rfl, rfl, h2, r2⟩ := trodAll_cons r1
  obtain ⟨v3, vs3, d3, ds3, p3, q3, rfl, rfl, rfl, h3, r3⟩ := trodAll_cons r2
  obtain ⟨rfl, rfl, rfl⟩ := trodAll_nil r3
  obtain rfl : args = #[v0, v1, v2, v3] := by cases args; simp_all
  obtain ⟨rfl, rfl⟩ := trodVars_none hV
  have k0 := h0
  have lt0 : ∀ x ∈ p0, x.block < W.heap.size := by obtain ⟨m, hm⟩ := k0; exact DataW.trod_lt m _ _ _ hm
  obtain ⟨n0, a0, len0, cap0, es0, rfl, w0, i0, l0, m0⟩ := graphIn (hval 0 24 v0 rfl rfl) h0
  have k1 := h1
  have lt1 : ∀ x ∈ p1, x.block < W.heap.size := by obtain ⟨m, hm⟩ := k1; exact DataW.trod_lt m _ _ _ hm
  obtain ⟨x1, y1, z1, rfl, o1⟩ := edgeArg (hval 1 39 v1 rfl rfl) h1
  obtain ⟨b2, rfl, rfl, rfl⟩ := open_bool Try.underlying4 (hval 2 4 v2 rfl rfl) h2
  obtain ⟨a3, len3, cap3, rfl⟩ := okWide_slice Try.underlying22 (hval 3 22 v3 rfl rfl)
  have k3 := h3
  have lt3 : ∀ x ∈ p3, x.block < W.heap.size := by obtain ⟨m, hm⟩ := k3; exact DataW.trod_lt m _ _ _ hm
  obtain ⟨es3, i3, l3, m3⟩ : ∃ es, IsE W (.slice a3 len3 cap3) es ∧ es.length = len3 ∧ len3 ≤ maxLen := by
    obtain ⟨fuel, hf⟩ := h3
    obtain ⟨a, len, cap, es, hcs, h1, h2, h3⟩ := edgesIn hf
    simp [Value.cells] at hcs
    obtain ⟨rfl, rfl, rfl⟩ := hcs
    exact ⟨es, h1, h2, h3⟩
  clear hA0 hval0
  refine (walk n0 a0 len0 cap0 es0 x1 y1 z1 b2 a3 len3 cap3 es3 W w0 i0 l0 m0 o1 i3 l3 m3).mono fun e W' ⟨he, bel⟩ => ?_
  subst he
  exact ⟨_, rfl, _, _, _, [], _, [], hW', trodAll_mk1 (shut_bool Try.underlying4 _), (trodAll_cons_mk (Below.trod laidOut (by kernel_rfl) (of_decide_eq_true (by kernel_rfl)) k0 bel lt0) (trodAll_cons_mk (Below.trod laidOut (by kernel_rfl) (of_decide_eq_true (by kernel_rfl)) k1 bel lt1) (trodAll_cons_mk (shut_bool Try.underlying4 _) (trodAll_cons_mk (Below.trod laidOut (by kernel_rfl) (of_decide_eq_true (by kernel_rfl)) k3 bel lt3) trodAll_mk0)))), rfl, bel.frame _, fun h => by cases h⟩

theorem over : Rows.edgesFirstRow.holds Try.pinned (OpenSpec.ofChange Rows.edgesFirstSpec) :=
  OpenClaim.holds_of_wide 7 Try.f7 rfl rfl rfl rfl rfl rfl rfl ⟨rfl, rfl, rfl, rfl, rfl⟩ rfl rfl rfl rfl rfl (by kernel_rfl) Try.func7 (by kernel_rfl)
    (of_decide_eq_true (by kernel_rfl)) (by unfold Func.isWrapper; first | (rw [if_pos (by decide +kernel)]; kernel_rfl) | (rw [if_neg (by decide +kernel)]; exact ⟨rfl, rfl⟩))
    (fun os started H enc _ => lifted os started H enc)

/-- The statement. -/
theorem proved : Rows.EdgesFirstSaid := over
#print axioms proved
end Go.Proofs.Ytjkdnibfppjolaa.edgesFirst
