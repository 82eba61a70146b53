/-
  What the reference's Encode does. A lemma file: no statement of the seat is proved here.
-/
import Derived.Test.YtjkdnibfppjolaaRefRight
namespace Go.Proofs.Ytjkdnibfppjolaa
open Go.RowKit

/-- 'row = append(row, z)', row of the call's own: z has just been laid in a new block; other blocks stay. -/
theorem wp_pushO {ops : Array Oper} {rest : List Oper} {o : Oper} {a : Act} {Q : Exit → Act → World → Prop} (w : World) (hgd : o.guard = none) (s x : Operand) (ho : o.op = .call { callee := .builtin .append, args := #[s, x], argTypes := #[27, 27] })
    (B g cap : Nat) (bs : List Int) (z : Int) (hs : a.eval s = .slice (some ⟨g, 0, none⟩) bs.length cap) (hown : OwnB B w g cap bs) (hx : a.eval x = .slice (some ⟨w.heap.size, 0, none⟩) 1 1)
    (hz : 0 ≤ z ∧ z ≤ 255) (hlen : bs.length + 1 ≤ 140737488355328) (hB : B ≤ w.heap.size)
    (h : ∀ g' cap' w', OwnB B w' g' cap' (bs ++ [z]) → Below B w w' → (∀ k, k < w.heap.size → k ≠ g → w'.heap[k]? = w.heap[k]?) → wpList Try.prog ops Q rest (a.put o.dst (.slice (some ⟨g', 0, none⟩) (bs.length + 1) cap')) w') :
    wpList Try.prog ops Q (o :: rest) a (w.alloc (.cells #[.int .u8 z] 5)) := by
  obtain ⟨i0, hi, hz0, hz1, hz2⟩ := info_parts Try.infoU8
  have hb := hown.base
  refine wpList_append_own _ hgd s x 27 ho B 5 i0 (.int .u8 0) 1 1 Try.underlying27 hi hz0 hz1 hz2 rfl (by decide) _ bs.length _ hs (hown.1.alloc _) ⟨w.heap.size, 0, none⟩ 1 1 [.int .u8 z] hx rfl (cell_one_new _ _ _) (by simp [Value.oneCell']) (by unfold maxLen; omega) (by omega) (by simp; omega) ?_
  intro v' w' hown' hgrow _
  have hsh : ∃ g' cap', v' = .slice (some ⟨g', 0, none⟩) (bs.length + 1) cap' := by
    rcases hown'.2 with ⟨_, h0⟩ | ⟨g', cap', _, rfl, _⟩
    · omega
    · exact ⟨g', cap', rfl⟩
  obtain ⟨g', cap', rfl⟩ := hsh
  refine h g' cap' w' ⟨?_, ?_⟩ ?_ ?_
  · simpa using hown'
  · intro y hy
    rcases List.mem_append.1 hy with hy | hy
    · exact hown.2 y hy
    · simp at hy
      subst hy
      exact hz
  · exact ((Below.refl _ _).alloc hB _).grown hgrow (by simp; omega) (by intro k hk; simp [Value.ownBlock] at hk; omega)
  · exact fun k hk hne => (hgrow.block k (by simp; omega) (by simp [Value.ownBlock]; exact hne)).trans (Below.heap_alloc w _ k hk)

/-- The block of a row of bytes is none of another kind. -/
theorem OwnB.block_ne {B : Nat} {w : World} {g cap : Nat} {bs : List Int} (h : OwnB B w g cap bs) {k t : Nat} {cs : Array Value} (hk : w.heap[k]? = some (.cells cs t (0, 0))) (ht : t ≠ 5) : k ≠ g := by
  rintro rfl
  obtain ⟨cur, hc⟩ := h.block
  rw [hk] at hc
  simp only [Option.some.injEq, Obj.cells.injEq] at hc
  exact ht hc.2.1

/-- While an edge's numbers are told: the row, the graph's box, the numbers' block. -/
def EncSt (w : World) (G : Array Value) (q : Nat) (A : Array Value) (wi : World) (g cap : Nat) (acc : List Int) : Prop :=
  OwnB w.heap.size wi g cap acc ∧ Below w.heap.size w wi ∧ wi.heap[w.heap.size]? = some (.cells G 24 (0, 0)) ∧ wi.heap[q]? = some (.cells A 37 (0, 0))

theorem EncSt.push {w : World} {G : Array Value} {q : Nat} {A : Array Value} {wi w' : World} {g cap g' cap' : Nat} {acc acc' : List Int} (h : EncSt w G q A wi g cap acc) (ho : OwnB w.heap.size w' g' cap' acc') (hb : Below w.heap.size wi w') (hk : ∀ k, k < wi.heap.size → k ≠ g → w'.heap[k]? = wi.heap[k]?) : EncSt w G q A w' g' cap' acc' := by
  obtain ⟨h1, h2, h3, h4⟩ := h
  exact ⟨ho, h2.trans hb, (hk _ (Array.getElem?_eq_some_iff.1 h3).1 (h1.block_ne h3 (by decide))).trans h3, (hk _ (Array.getElem?_eq_some_iff.1 h4).1 (h1.block_ne h4 (by decide))).trans h4⟩

set_option maxRecDepth 100000 in
set_option maxHeartbeats 8000000 in
theorem rencode_any (n : Int) (v : Value) (es : List Ed) (w : World) (hv : IsE w v es) (hn0 : 0 ≤ n) (hn1 : n ≤ 1048576) (hl : es.length ≤ 1048576) :
    Calls Try.prog 17 #[.agg #[.int .i64 n, v]] w fun e w' => ∃ g cap, e = .returned (.slice (some ⟨g, 0, none⟩) (graphB n es).length cap) ∧ OwnB w.heap.size w' g cap (graphB n es) ∧ Below w.heap.size w w' := by
  have hok := hv.ok
  have HV := hide hv
  have HOK := hide hok
  obtain ⟨a, cap0, rfl, _⟩ := hv.form
  have hwn : IntKind.u64.wrap n = n := by rw [IntKind.wrap_u64]; omega
  have hP := refPut_any (.slice none 0 0) [] 4 n (w.alloc (.cells #[.int .i64 n, .slice a es.length cap0] 24)) (IsB.nil _) (by simp) hn0 (by omega)
  rw [show (min (4 : Int) 8).toNat = 4 by decide, List.nil_append] at hP
  have HP := hide hP
  clear hv hok hP
  go_enter Try.func17, Try.ntmps17
  go_wp2_with fail
  refine HP.out.mono ?_
  rintro e w1 ⟨g1, cap1, rfl, o1, b1⟩
  have s1 : w1.heap[w.heap.size]? = some (.cells #[.int .i64 n, .slice a es.length cap0] 24 (0, 0)) := block_then (heap_alloc_new w _) b1
  have O1 := hide (o1.mono (show w.heap.size ≤ _ by simp))
  have S1 := hide s1
  have B1 := hide (below_after (Below.refl _ w) b1)
  clear o1 s1 b1 HP
  obtain ⟨ys, hys⟩ : ∃ ys, ys = putB 4 n := ⟨_, rfl⟩
  rw [← hys] at O1 ⊢
  have HYS := hide hys
  clear hys
  go_wp2
  go_loopw [3, 4] (fun row i wr => ∃ (k : Nat) (acc : List Int) (g cap : Nat), k ≤ es.length ∧ i = .int .i64 k ∧ Hid (acc = graphB n (es.take k)) ∧ row = .slice (some ⟨g, 0, none⟩) acc.length cap ∧ Hid (OwnB w.heap.size wr g cap acc) ∧ Hid (Below w.heap.size w wr) ∧ Hid (wr.heap[w.heap.size]? = some (.cells #[.int .i64 n, .slice a es.length cap0] 24 (0, 0)))) (fun _ i _ => es.length - (intOf i).toNat)
  case atStart => exact ⟨0, ys, g1, cap1, Nat.zero_le _, rfl, by simp [Hid, graphB, edgesB, HYS.out], rfl, O1, B1, S1⟩
  case round =>
    obtain ⟨k, acc, g, cap, hk, rfl, HA, rfl, HO, HB, HS⟩ := hrel
    obtain ⟨c0, c1, f0⟩ := cells2 HS.out
    obtain ⟨wo, hwo⟩ : ∃ wo, wo = wr := ⟨_, rfl⟩
    subst hwo
    by_cases hlt : k < es.length
    · obtain ⟨p, poff, pcap, he, _, hpb, hpc⟩ := (HV.out.below HB.out).opened (by omega)
      simp only [Value.slice.injEq, true_and] at he
      obtain ⟨rfl, rfl⟩ := he
      obtain ⟨l0, l1, l2⟩ := IsE.at hpc k hlt
      have hxo := HOK.out es[k]! (by rw [getElem!_pos es k hlt]; exact List.getElem_mem hlt)
      have hgt := edgesB_take es k hlt
      obtain ⟨x, hx⟩ : ∃ x, x = es[k]! := ⟨_, rfl⟩
      rw [← hx] at l0 l1 l2 hxo hgt
      obtain ⟨x1, x2, x3⟩ := x
      obtain ⟨⟨ha0, ha1⟩, ⟨hb0, hb1⟩, ⟨hc0, hc1⟩⟩ := hxo
      dsimp only at l0 l1 l2 ha0 ha1 hb0 hb1 hc0 hc1
      have HGT := hide hgt
      have hki : (k : Int) < (es.length : Int) := by omega
      clear hpc hx hgt
      have ST0 : Hid (EncSt w #[.int .i64 n, .slice (some ⟨p, poff, none⟩) es.length cap0] (wo.heap.size + 1) #[.int .u32 x1, .int .u32 x2, .int .u32 x3] ((wo.alloc (.cells #[.int .u32 x1, .int .u32 x2, .int .u32 x3] 39)).alloc (.cells #[.int .u32 x1, .int .u32 x2, .int .u32 x3] 37)) g cap acc) := by
        have bb : Below wo.heap.size wo ((wo.alloc (.cells #[.int .u32 x1, .int .u32 x2, .int .u32 x3] 39)).alloc (.cells #[.int .u32 x1, .int .u32 x2, .int .u32 x3] 37)) := ((Below.refl _ wo).alloc (Nat.le_refl _) _).alloc (by simp) _
        refine ⟨HO.out.below bb, below_then HB.out bb, block_then HS.out bb, ?_⟩
        have := heap_alloc_new (wo.alloc (.cells #[.int .u32 x1, .int .u32 x2, .int .u32 x3] 39)) (.cells #[.int .u32 x1, .int .u32 x2, .int .u32 x3] 37)
        simpa using this
      have hal : acc.length ≤ 12582916 := by rw [HA.out, graphB_length, List.length_take]; omega
      go_wp2_with fail
      clear c0 c1 f0
      refine wp_loop_rounds 4 ?_
      rw [rounds_succ]
      go_wp2_with fail
      go_loopw [3, 8] (fun row i wi => ∃ (j : Nat) (acc' : List Int) (g' cap' : Nat), j ≤ 4 ∧ i = .int .i64 j ∧ Hid (acc' = acc ++ putB j x1) ∧ acc'.length ≤ acc.length + j ∧ row = .slice (some ⟨g', 0, none⟩) acc'.length cap' ∧ Hid (EncSt w #[.int .i64 n, .slice (some ⟨p, poff, none⟩) es.length cap0] (wo.heap.size + 1) #[.int .u32 x1, .int .u32 x2, .int .u32 x3] wi g' cap' acc')) (fun _ i _ => 4 - (intOf i).toNat)
      case atStart => exact ⟨0, acc, g, cap, by omega, rfl, by simp [Hid, putB], by omega, rfl, ST0⟩
      case round =>
        obtain ⟨j, acc', g', cap', hj, rfl, HAJ, haj, rfl, HST⟩ := hrel
        obtain ⟨d0, d1, d2, df⟩ := cells3 HST.out.2.2.2
        have hsz := HST.out.2.1.size
        by_cases hj4 : j < 4
        · go_wp2_with (at_builtin; refine wp_pushO wr rfl _ _ rfl w.heap.size g' cap' acc' (x1 / 2 ^ (8 * j) % 256) rfl HST.out.1 rfl (by omega) (by omega) hsz ?_; intro g2 cap2 w2 hown2 hbel2 hk2)
          go_roundw
          case rel =>
            have R1 : Hid (acc' ++ [x1 / 2 ^ (8 * j) % 256] = acc ++ putB (j + 1) x1) := by show _ = _; rw [putB_snoc, HAJ.out, List.append_assoc]
            have R2 := HST.out.push hown2 hbel2 hk2
            first | exact ⟨j + 1, _, g2, cap2, by omega, by go_num, R1, by simp; omega, by simp, R2⟩ | ((repeat apply Exists.intro); exact ⟨⟨j + 1, _, g2, cap2, by omega, by go_num, R1, by simp; omega, by simp, R2⟩, rfl⟩)
          case measure => simp [intOf]; omega
        · obtain rfl : j = 4 := by omega
          have ST1 := HST
          have HAC1 := HAJ
          have hal1 := haj
          obtain ⟨acc1, hacc1⟩ : ∃ b, b = acc' := ⟨_, rfl⟩
          obtain ⟨wi1, hwi1⟩ : ∃ b, b = wr := ⟨_, rfl⟩
          obtain ⟨g1x, hg1⟩ : ∃ b, b = g' := ⟨_, rfl⟩
          obtain ⟨cap1x, hcap1⟩ : ∃ b, b = cap' := ⟨_, rfl⟩
          subst hacc1 hwi1 hg1 hcap1
          clear HST HAJ haj d0 d1 d2 df hsz
          go_wp2_with fail
          rw [rounds_succ]
          go_wp2_with fail
          go_loopw [3, 8] (fun row i wi => ∃ (j : Nat) (acc' : List Int) (g' cap' : Nat), j ≤ 4 ∧ i = .int .i64 j ∧ Hid (acc' = acc1 ++ putB j x2) ∧ acc'.length ≤ acc1.length + j ∧ row = .slice (some ⟨g', 0, none⟩) acc'.length cap' ∧ Hid (EncSt w #[.int .i64 n, .slice (some ⟨p, poff, none⟩) es.length cap0] (wo.heap.size + 1) #[.int .u32 x1, .int .u32 x2, .int .u32 x3] wi g' cap' acc')) (fun _ i _ => 4 - (intOf i).toNat)
          case atStart => exact ⟨0, acc1, g1x, cap1x, by omega, rfl, by simp [Hid, putB], by omega, rfl, ST1⟩
          case round =>
            obtain ⟨j, acc', g', cap', hj, rfl, HAJ, haj, rfl, HST⟩ := hrel
            obtain ⟨d0, d1, d2, df⟩ := cells3 HST.out.2.2.2
            have hsz := HST.out.2.1.size
            by_cases hj4 : j < 4
            · go_wp2_with (at_builtin; refine wp_pushO wr rfl _ _ rfl w.heap.size g' cap' acc' (x2 / 2 ^ (8 * j) % 256) rfl HST.out.1 rfl (by omega) (by omega) hsz ?_; intro g2 cap2 w2 hown2 hbel2 hk2)
              go_roundw
              case rel =>
                have R1 : Hid (acc' ++ [x2 / 2 ^ (8 * j) % 256] = acc1 ++ putB (j + 1) x2) := by show _ = _; rw [putB_snoc, HAJ.out, List.append_assoc]
                have R2 := HST.out.push hown2 hbel2 hk2
                first | exact ⟨j + 1, _, g2, cap2, by omega, by go_num, R1, by simp; omega, by simp, R2⟩ | ((repeat apply Exists.intro); exact ⟨⟨j + 1, _, g2, cap2, by omega, by go_num, R1, by simp; omega, by simp, R2⟩, rfl⟩)
              case measure => simp [intOf]; omega
            · obtain rfl : j = 4 := by omega
              have ST2 := HST
              have HAC2 := HAJ
              have hal2 := haj
              obtain ⟨acc2, hacc2⟩ : ∃ b, b = acc' := ⟨_, rfl⟩
              obtain ⟨wi2, hwi2⟩ : ∃ b, b = wr := ⟨_, rfl⟩
              obtain ⟨g2x, hg2⟩ : ∃ b, b = g' := ⟨_, rfl⟩
              obtain ⟨cap2x, hcap2⟩ : ∃ b, b = cap' := ⟨_, rfl⟩
              subst hacc2 hwi2 hg2 hcap2
              clear HST HAJ haj d0 d1 d2 df hsz
              go_wp2_with fail
              rw [rounds_succ]
              go_wp2_with fail
              go_loopw [3, 8] (fun row i wi => ∃ (j : Nat) (acc' : List Int) (g' cap' : Nat), j ≤ 4 ∧ i = .int .i64 j ∧ Hid (acc' = acc2 ++ putB j x3) ∧ acc'.length ≤ acc2.length + j ∧ row = .slice (some ⟨g', 0, none⟩) acc'.length cap' ∧ Hid (EncSt w #[.int .i64 n, .slice (some ⟨p, poff, none⟩) es.length cap0] (wo.heap.size + 1) #[.int .u32 x1, .int .u32 x2, .int .u32 x3] wi g' cap' acc')) (fun _ i _ => 4 - (intOf i).toNat)
              case atStart => exact ⟨0, acc2, g2x, cap2x, by omega, rfl, by simp [Hid, putB], by omega, rfl, ST2⟩
              case round =>
                obtain ⟨j, acc', g', cap', hj, rfl, HAJ, haj, rfl, HST⟩ := hrel
                obtain ⟨d0, d1, d2, df⟩ := cells3 HST.out.2.2.2
                have hsz := HST.out.2.1.size
                by_cases hj4 : j < 4
                · go_wp2_with (at_builtin; refine wp_pushO wr rfl _ _ rfl w.heap.size g' cap' acc' (x3 / 2 ^ (8 * j) % 256) rfl HST.out.1 rfl (by omega) (by omega) hsz ?_; intro g2 cap2 w2 hown2 hbel2 hk2)
                  go_roundw
                  case rel =>
                    have R1 : Hid (acc' ++ [x3 / 2 ^ (8 * j) % 256] = acc2 ++ putB (j + 1) x3) := by show _ = _; rw [putB_snoc, HAJ.out, List.append_assoc]
                    have R2 := HST.out.push hown2 hbel2 hk2
                    first | exact ⟨j + 1, _, g2, cap2, by omega, by go_num, R1, by simp; omega, by simp, R2⟩ | ((repeat apply Exists.intro); exact ⟨⟨j + 1, _, g2, cap2, by omega, by go_num, R1, by simp; omega, by simp, R2⟩, rfl⟩)
                  case measure => simp [intOf]; omega
                · obtain rfl : j = 4 := by omega
                  have ST3 := HST
                  have HAC3 := HAJ
                  have hal3 := haj
                  obtain ⟨acc3, hacc3⟩ : ∃ b, b = acc' := ⟨_, rfl⟩
                  obtain ⟨wi3, hwi3⟩ : ∃ b, b = wr := ⟨_, rfl⟩
                  obtain ⟨g3x, hg3⟩ : ∃ b, b = g' := ⟨_, rfl⟩
                  obtain ⟨cap3x, hcap3⟩ : ∃ b, b = cap' := ⟨_, rfl⟩
                  subst hacc3 hwi3 hg3 hcap3
                  clear HST HAJ haj d0 d1 d2 df hsz
                  go_wp2_with fail
                  rw [rounds_succ]
                  go_wp2
                  go_roundw
                  case rel =>
                    have R1 : Hid (acc3 = graphB n (es.take (k + 1))) := by
                      show _ = _
                      rw [HAC3.out, HAC2.out, HAC1.out, HA.out, graphB, graphB, HGT.out, edgeB]
                      simp
                    have R2 := hide ST3.out.1
                    have R3 := hide ST3.out.2.1
                    have R4 := hide ST3.out.2.2.1
                    first | exact ⟨k + 1, acc3, g3x, cap3x, by omega, by go_num, R1, rfl, R2, R3, R4⟩ | ((repeat apply Exists.intro); exact ⟨⟨k + 1, acc3, g3x, cap3x, by omega, by go_num, R1, rfl, R2, R3, R4⟩, rfl⟩)
                  case measure => simp [intOf]; omega
    · have e : k = es.length := by omega
      subst e
      have ha := HA.out
      rw [List.take_of_length_le (Nat.le_refl _)] at ha
      have HAA := hide ha
      clear ha
      go_wp2
      go_ret
      obtain rfl := HAA.out
      exact ⟨_, _, rfl, HO.out, HB.out⟩

end Go.Proofs.Ytjkdnibfppjolaa
