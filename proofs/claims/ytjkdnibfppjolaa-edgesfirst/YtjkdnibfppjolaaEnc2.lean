/-
  What edges.Encode tells of a right graph. A lemma file: no statement of the seat is proved here.
-/
import Derived.Test.YtjkdnibfppjolaaEnc
namespace Go.Proofs.Ytjkdnibfppjolaa
open Go.RowKit

theorem PutSt.mk0 (w1 w2 : World) (β cap : Nat) (hown : w2.ownsRow β 5 1 (.slice (some ⟨w1.heap.size, 0, none⟩) 0 cap) 0 []) (hβ : β ≤ w2.heap.size) :
    PutSt β w2.heap.size (w2.alloc (.cells #[.slice (some ⟨w1.heap.size, 0, none⟩) 0 cap] 27)) [] :=
  ⟨w1.heap.size, cap, heap_alloc_new w2 _, ⟨hown.alloc _, by simp⟩, hβ⟩

theorem PutSt.length {β B : Nat} {w : World} {bs : List Int} (h : PutSt β B w bs) : ∃ g cap, w.cell? ⟨B, 0, none⟩ = some (.slice (some ⟨g, 0, none⟩) bs.length cap) ∧ OwnB β w g cap bs := by
  obtain ⟨g, cap, h1, h2, h3⟩ := h
  exact ⟨g, cap, by simp [World.cell?, h1], h2⟩

set_option maxRecDepth 100000 in
set_option maxHeartbeats 4000000 in
theorem encode_go (n : Int) (v : Value) (es : List Ed) (w : World) (hv : IsE w v es) (hr : rightB n es = true) :
    Calls Try.prog 13 #[.agg #[.int .i64 n, v]] w fun e w' => ∃ g cap, e = .returned (.tuple #[.slice (some ⟨g, 0, none⟩) (graphB n es).length cap, .int .i64 0]) ∧ OwnB w.heap.size w' g cap (graphB n es) ∧ Below w.heap.size w w' := by
  have hn : 0 ≤ n ∧ n ≤ 1048576 ∧ es.length ≤ 1048576 := by simp [rightB] at hr; exact ⟨hr.1.1.1, hr.1.1.2, hr.1.2⟩
  obtain ⟨hn0, hn1, hl⟩ := hn
  have hR := right_any n (by omega) v es _ (hv.below ((Below.refl _ w).alloc (Nat.le_refl _) (.cells #[.int .i64 n, v] 24))) (by omega)
  rw [hr] at hR
  have hok := hv.ok
  obtain ⟨a, cap0, rfl, hlc⟩ := hv.form
  have HR := hide hR
  have HV := hide hv
  have HOK := hide hok
  have hwn : IntKind.u32.wrap n = n := by rw [IntKind.wrap_u32]; omega
  clear hR hr hv hok
  obtain ⟨i0, hi, hz0, hz1, hz2⟩ := info_parts Try.infoU8
  go_enter Try.func13, Try.ntmps13
  go_wp2_with fail
  refine HR.out.mono ?_
  rintro e w1 ⟨rfl, b1⟩
  have FG : ∀ w', Below w1.heap.size w1 w' → w'.cell? ⟨w.heap.size, 0, none⟩ = some (.int .i64 n) ∧ w'.cell? ⟨w.heap.size, 1, none⟩ = some (.slice a es.length cap0) := fun w' hb => by
    have hs := b1.size
    have hb2 := b1.trans (hb.mono hs)
    exact ⟨(hb2.cell (p := ⟨w.heap.size, 0, none⟩) (by simp)).trans (by simp), (hb2.cell (p := ⟨w.heap.size, 1, none⟩) (by simp)).trans (by simp)⟩
  obtain ⟨c10, c11⟩ := FG w1 (Below.refl _ _)
  have hsz1 : w.heap.size < w1.heap.size := by have := b1.size; simp at this; omega
  go_wp2_with (at_make; refine wpList_make_own _ rfl _ _ 27 rfl w1.heap.size 5 i0 (.int .u8 0) 1 Try.underlying27 hi hz0 hz1 _ _ _ (4 + 12 * es.length) rfl rfl (by omega) (by rw [hz2]; omega) (by unfold maxLen; omega) (Nat.le_refl _) ?_; intro w2 hown2 hgrow2; have b2 : Below w1.heap.size w1 w2 := (Below.refl _ _).grown hgrow2 (Nat.le_refl _) (by simp); have FA : ∀ o, (w2.alloc o).cell? ⟨w.heap.size, 0, none⟩ = some (.int .i64 n) := fun o => (FG _ (b2.alloc b2.size o)).1)
  refine (put1_any w1.heap.size w2.heap.size [] n hn0 (by omega) _ (PutSt.mk0 w1 w2 w1.heap.size _ hown2 b2.size) (by simp)).mono ?_
  rintro e w3 ⟨rfl, st3, b3⟩
  have B3 : Below w1.heap.size w1 w3 := (b2.alloc b2.size _).trans b3
  obtain ⟨c30, c31⟩ := FG w3 B3
  rw [List.nil_append] at st3
  have F2 := hide FG
  have ST3 := hide st3
  have HB3 := hide B3
  clear FG FA hown2 hgrow2 b2 b3 B3 st3 c10 c11 hi hz0 hz1 hz2
  go_wp2
  go_loopw [28] (fun i wr => ∃ k : Nat, k ≤ es.length ∧ i = .int .i64 k ∧ Hid (PutSt w1.heap.size w2.heap.size wr (graphB n (es.take k))) ∧ Hid (Below w1.heap.size w1 wr)) (fun i _ => es.length - (intOf i).toNat)
  case atStart => exact ⟨0, Nat.zero_le _, rfl, by simpa [graphB, edgesB] using ST3, HB3⟩
  case round =>
    obtain ⟨k, hk, rfl, ST, HB⟩ := hrel
    by_cases hlt : k < es.length
    · have hI := (HV.out.below ((((Below.refl _ w).alloc (Nat.le_refl _) _).trans (b1.mono (by simp))).trans (HB.out.mono (by omega))))
      obtain ⟨b, off, cap', he, _, hb, hc⟩ := hI.opened (by omega)
      simp only [Value.slice.injEq, true_and] at he
      obtain ⟨rfl, rfl⟩ := he
      obtain ⟨l0, l1, l2⟩ := IsE.at hc k hlt
      have hxo := HOK.out es[k]! (by rw [getElem!_pos es k hlt]; exact List.getElem_mem hlt)
      obtain ⟨x, hx⟩ : ∃ x, x = es[k]! := ⟨_, rfl⟩
      have HX := hide hx
      rw [← hx] at l0 l1 l2 hxo
      obtain ⟨x1, x2, x3⟩ := x
      obtain ⟨⟨ha0, ha1⟩, ⟨hb0, hb1⟩, ⟨hc0, hc1⟩⟩ := hxo
      dsimp only at l0 l1 l2 ha0 ha1 hb0 hb1 hc0 hc1
      clear hI hc hx
      go_wp2_with fail
      refine (numbersOf_any x1 x2 x3 _).mono ?_
      rintro e w4 ⟨rfl, b4⟩
      go_wp2_with fail
      have hbw : w1.heap.size ≤ wr.heap.size := HB.out.size
      have st4 : PutSt w1.heap.size w2.heap.size w4 (graphB n (es.take k)) := (ST.out.alloc _).below b4
      have B4 : Below w1.heap.size w1 w4 := HB.out.trans (((Below.refl _ wr).alloc (Nat.le_refl _) _).trans (b4.mono (by simp)) |>.mono hbw)
      have i0 : ∀ w, (Instr.index 50 (.agg #[.int .u32 x1, .int .u32 x2, .int .u32 x3]) (.int .i64 0)).run Try.prog w = .ok (.int .u32 x1) w := fun _ => by kernel_rfl
      have i1 : ∀ w, (Instr.index 50 (.agg #[.int .u32 x1, .int .u32 x2, .int .u32 x3]) (.int .i64 1)).run Try.prog w = .ok (.int .u32 x2) w := fun _ => by kernel_rfl
      have i2 : ∀ w, (Instr.index 50 (.agg #[.int .u32 x1, .int .u32 x2, .int .u32 x3]) (.int .i64 2)).run Try.prog w = .ok (.int .u32 x3) w := fun _ => by kernel_rfl
      have hgl : (graphB n (es.take k)).length ≤ 70368744177000 := by rw [graphB_length, List.length_take]; omega
      refine wp_loop_rounds 4 ?_
      rw [rounds_succ]
      go_wp2_with fail
      refine (put1_any _ _ _ x1 ha0 ha1 _ st4 (by omega)).mono ?_
      rintro e w5 ⟨rfl, st5, b5⟩
      go_wp2_with fail
      rw [rounds_succ]
      go_wp2_with fail
      refine (put1_any _ _ _ x2 hb0 hb1 _ st5 (by simp [putB_length]; omega)).mono ?_
      rintro e w6 ⟨rfl, st6, b6⟩
      go_wp2_with fail
      rw [rounds_succ]
      go_wp2_with fail
      refine (put1_any _ _ _ x3 hc0 hc1 _ st6 (by simp [putB_length]; omega)).mono ?_
      rintro e w7 ⟨rfl, st7, b7⟩
      go_wp2_with fail
      rw [rounds_succ]
      go_wp2
      go_roundw
      case rel =>
        refine ⟨k + 1, by omega, by go_num, ?_, ((B4.trans b5).trans b6).trans b7⟩
        show PutSt _ _ _ _
        rw [graphB, edgesB_take es k hlt, ← HX.out, edgeB]
        rw [graphB] at st7
        simpa using st7
      case measure => simp [intOf]; omega
    · have e : k = es.length := by omega
      subst e
      have st := ST.out
      rw [List.take_of_length_le (Nat.le_refl _)] at st
      obtain ⟨g, cap, hc, ho⟩ := st.length
      go_wp2
      go_ret2
      refine ⟨g, cap, rfl, ho.mono (by omega), ?_⟩
      exact (((Below.refl _ w).alloc (Nat.le_refl _) _).trans (b1.mono (by simp))).trans (HB.out.mono (by omega))

end Go.Proofs.Ytjkdnibfppjolaa
