/-
  Lemma texts, one behind the other: IFlush, IPut, IClose, IWrite. No statement of the seat is proved here.
-/
import Derived.Test.YtdhajmgpakconaaGI
import Derived.Deep.RegionHeld
import Derived.Deep.RegionLaw
import Derived.Deep.RegionHeldLaw
namespace Go.Proofs.Ytdhajmgpakconaa
open Go.RowKit Go.Maps

theorem RowB.empty {w : World} {na : Option Addr} {L cap : Nat} {bs : List Int} (h : RowB w (.slice na L cap) bs) : RowB w (.slice na 0 cap) [] ∧ own (.slice na 0 cap) = own (.slice na L cap) := ⟨h.front, by cases na <;> simp [own, Value.ownBlock]⟩

section
variable {w : World} {fp : List Nat} {p q : Nat} {A : Dsk} {nm : ByteArray} {t : List Int}

set_option maxRecDepth 100000 in
set_option maxHeartbeats 4000000 in
theorem flush_go (h : Wk w fp p q A nm t) (hn : A.2.ops ≤ 1000000) (hnm : nm.size ≤ maxLen) (ht : t.length ≤ 1000) {B : Dsk} (hB : flushW A nm.data.toList t = (0, B)) :
    Calls Try.prog 47 #[.pointer (some ⟨q, 0, none⟩)] w fun e w' => e = .returned (.int .i64 0) ∧ WkO w w' fp p q B nm [] := by
  obtain ⟨fd, tv, h, rfl⟩ := h
  obtain ⟨c0, c1, c2, c3⟩ := h.cellAt
  have H := hide h
  obtain ⟨xs, hxs⟩ : ∃ xs, xs = blkB t := ⟨_, rfl⟩
  have hxl : xs.length ≤ 1006 := by rw [hxs, blkB_length]; omega
  obtain ⟨tl, htl⟩ : ∃ tl, tl = t.length := ⟨_, rfl⟩
  obtain ⟨ta, tc, rfl, htc⟩ := h.row.isB.form
  have EN := hide (encode_go _ t xs w h.row.isB (by omega) hxs)
  have AP := hide (fun (w1 : World) (b1 : Below w.heap.size w w1) (u : Value) (hu : IsB w1 u xs) (hux : ∀ x ∈ own u, w.heap.size ≤ x) => (h.disk.below b1).append hn nm hnm u xs hu (by omega) (fun _ x hx e => by have := hux x hx; have := h.disk.lt x e; omega))
  rw [flushW, ← hxs] at hB
  rw [hB] at AP
  dsimp only at AP
  rw [← htl] at EN c2
  have sl := slice_zero ta tl tc
  have HTL := hide htl
  clear h htc hxs hB htl
  go_enter Try.func47, Try.ntmps47
  go_wp2_with fail
  refine EN.out.mono ?_
  rintro e w1 ⟨g1, cap1, rfl, o1, b1⟩
  obtain ⟨d0, d1, d2, d3⟩ := (H.out.below b1).cellAt
  have e0 : w1.drew.cell? ⟨q, 0, none⟩ = some (.pointer (some ⟨p, 0, none⟩)) := d0
  have e1 : w1.drew.cell? ⟨q, 1, none⟩ = some (.string nm) := d1
  have AQ := hide (AP.out w1.drew b1.drew _ o1.isB (fun x hx => by simp [own, Value.ownBlock] at hx; have := o1.base; omega))
  have B1 := hide b1
  clear o1 b1 d2
  go_wp2_with fail
  go_region_held (fun W => W.cell? ⟨q, 0, none⟩ = some (.pointer (some ⟨p, 0, none⟩)) ∧ W.cell? ⟨q, 1, none⟩ = some (.string nm)) (exact ⟨by assumption, by assumption⟩) (first | (go_at_call 21; refine AQ.out.mono ?_; rintro e w2 ⟨rfl, o2⟩; obtain ⟨fd2, E2, K2, N2⟩ := (H.out.below B1.out.drew).disk_op o2; obtain ⟨f0, f1, f2, f3⟩ := E2.cellAt; rw [← HTL.out] at f2; have HE2 := hide E2; have HK2 := hide K2; have HN2 := hide N2; clear o2 E2 K2 N2))
  go_wp2
  go_ret
  obtain ⟨r1, r2⟩ := HE2.out.row.empty
  have hk : Kept [q] w2 (w2.setCell ⟨q, 2, none⟩ (.slice ta 0 tc)) := (Kept.refl _ w2).setCell (p := ⟨q, 2, none⟩) (.inl (by simp)) _
  have hq : q ∉ own (.slice ta 0 tc) := by rw [r2]; exact HE2.out.qt
  obtain ⟨x1, x2, x3⟩ := HE2.out.turn (tv' := .slice ta 0 tc) (t' := []) (hk.mono (by simp)) (by have e := heap_setCell HE2.out.cells 2 (.slice ta 0 tc); simpa [wcells] using e)
    (r1.kept hk (fun x hx e => by simp only [List.mem_singleton] at e; subst e; exact hq hx)) (fun x hx => .inl (by rw [r2] at hx; exact hx))
  have k1 : Kept (wfp fd q (.slice ta t.length tc)) w w1 := Kept.of_below B1.out
  have k2 : Kept (wfp fd q (.slice ta t.length tc)) w1 w2 := ⟨HK2.out.os, HK2.out.tape, HK2.out.output, HK2.out.size, HK2.out.block⟩
  have hs1 := B1.out.size
  have n2 : Newly w (wfp fd q (.slice ta t.length tc)) (wfp fd2 q (.slice ta t.length tc)) := fun x hx => (HN2.out x hx).imp id (fun e => by have e' : w1.heap.size ≤ x := e; omega)
  exact ⟨rfl, _, ⟨fd2, _, x1, rfl⟩, (k1.trans k2 (Newly.refl _ _)).trans x2 n2, n2.trans x3 (Nat.le_trans hs1 k2.size)⟩

set_option maxRecDepth 100000 in
set_option maxHeartbeats 4000000 in
theorem flush_no (h : Wk w fp p q A nm t) (hn : A.2.ops ≤ 1000000) (hnm : nm.size ≤ maxLen) (ht : t.length ≤ 1000) {k : Int} {B : Dsk} (hk0 : ¬ k = 0) (hB : flushW A nm.data.toList t = (k, B)) :
    Calls Try.prog 47 #[.pointer (some ⟨q, 0, none⟩)] w fun e w' => e = .returned (.int .i64 k) ∧ WxO w w' fp p q B := by
  obtain ⟨fd, tv, h, rfl⟩ := h
  obtain ⟨c0, c1, c2, c3⟩ := h.cellAt
  have H := hide h
  obtain ⟨xs, hxs⟩ : ∃ xs, xs = blkB t := ⟨_, rfl⟩
  have hxl : xs.length ≤ 1006 := by rw [hxs, blkB_length]; omega
  obtain ⟨tl, htl⟩ : ∃ tl, tl = t.length := ⟨_, rfl⟩
  obtain ⟨ta, tc, rfl, htc⟩ := h.row.isB.form
  have EN := hide (encode_go _ t xs w h.row.isB (by omega) hxs)
  have AP := hide (fun (w1 : World) (b1 : Below w.heap.size w w1) (u : Value) (hu : IsB w1 u xs) (hux : ∀ x ∈ own u, w.heap.size ≤ x) => (h.disk.below b1).append hn nm hnm u xs hu (by omega) (fun _ x hx e => by have := hux x hx; have := h.disk.lt x e; omega))
  rw [flushW, ← hxs] at hB
  rw [hB] at AP
  dsimp only at AP
  rw [← htl] at EN c2
  have HTL := hide htl
  clear h htc hxs hB htl
  go_enter Try.func47, Try.ntmps47
  go_wp2_with fail
  refine EN.out.mono ?_
  rintro e w1 ⟨g1, cap1, rfl, o1, b1⟩
  obtain ⟨d0, d1, d2, d3⟩ := (H.out.below b1).cellAt
  have e0 : w1.drew.cell? ⟨q, 0, none⟩ = some (.pointer (some ⟨p, 0, none⟩)) := d0
  have e1 : w1.drew.cell? ⟨q, 1, none⟩ = some (.string nm) := d1
  have AQ := hide (AP.out w1.drew b1.drew _ o1.isB (fun x hx => by simp [own, Value.ownBlock] at hx; have := o1.base; omega))
  have B1 := hide b1
  clear o1 b1 d2
  go_wp2_with fail
  go_region_held (fun W => W.cell? ⟨q, 0, none⟩ = some (.pointer (some ⟨p, 0, none⟩)) ∧ W.cell? ⟨q, 1, none⟩ = some (.string nm)) (exact ⟨by assumption, by assumption⟩) (first | (go_at_call 21; refine AQ.out.mono ?_; rintro e w2 ⟨rfl, o2⟩; obtain ⟨fd2, E2, K2, N2⟩ := (H.out.below B1.out.drew).disk_op o2; obtain ⟨f0, f1, f2, f3⟩ := E2.cellAt; have EE := hide (end_any E2); have HK2 := hide K2; have HN2 := hide N2; clear o2 E2 K2 N2 f2))
  go_wp2_with fail
  refine EE.out.mono ?_
  rintro e w3 ⟨rfl, fp3, x3, k3, n3⟩
  go_wp2
  go_ret
  have k1 : Kept (wfp fd q (.slice ta t.length tc)) w w1 := Kept.of_below B1.out
  have k2 : Kept (wfp fd q (.slice ta t.length tc)) w1 w2 := ⟨HK2.out.os, HK2.out.tape, HK2.out.output, HK2.out.size, HK2.out.block⟩
  have hs1 := B1.out.size
  have n2 : Newly w (wfp fd q (.slice ta t.length tc)) (wfp fd2 q (.slice ta t.length tc)) := fun x hx => (HN2.out x hx).imp id (fun e => by have e' : w1.heap.size ≤ x := e; omega)
  exact ⟨rfl, _, x3, (k1.trans k2 (Newly.refl _ _)).trans k3 n2, n2.trans n3 (Nat.le_trans hs1 k2.size)⟩

end

end Go.Proofs.Ytdhajmgpakconaa

namespace Go.Proofs.Ytdhajmgpakconaa
open Go.RowKit Go.Maps

theorem put8a (x1 : Int) (hx : 0 ≤ x1 ∧ x1 < 18446744073709551616) (W : World) : Calls Try.prog 46 #[.slice none 0 0, .int .i64 8, .int .u64 x1] W fun e w' =>
    ∃ g cap, e = .returned (.slice (some ⟨g, 0, none⟩) 8 cap) ∧ IsB w' (.slice (some ⟨g, 0, none⟩) 8 cap) (putB 8 x1) ∧ Below W.heap.size W w' := by
  refine (put_any (.slice none 0 0) [] 8 x1 W (IsB.nil W) (by simp) hx.1 hx.2).mono ?_
  rintro e w' ⟨g, cap, rfl, o, b⟩
  have e1 : ([] : List Int) ++ putB (min (8 : Int) 8).toNat x1 = putB 8 x1 := rfl
  rw [e1] at o ⊢
  have i := o.isB
  rw [putB_length] at i ⊢
  exact ⟨g, cap, rfl, i, b⟩

theorem put8b {v : Value} {x1 : Int} (x2 : Int) (hx : 0 ≤ x2 ∧ x2 < 18446744073709551616) {W : World} (h : IsB W v (putB 8 x1)) : Calls Try.prog 46 #[v, .int .i64 8, .int .u64 x2] W fun e w' =>
    ∃ g cap, e = .returned (.slice (some ⟨g, 0, none⟩) 16 cap) ∧ IsB w' (.slice (some ⟨g, 0, none⟩) 16 cap) (recB (x1, x2)) ∧ Below W.heap.size W w' := by
  refine (put_any v (putB 8 x1) 8 x2 W h (by rw [putB_length]; omega) hx.1 hx.2).mono ?_
  rintro e w' ⟨g, cap, rfl, o, b⟩
  have e1 : putB 8 x1 ++ putB (min (8 : Int) 8).toNat x2 = recB (x1, x2) := rfl
  rw [e1] at o ⊢
  have i := o.isB
  rw [recB_length] at i ⊢
  exact ⟨g, cap, rfl, i, b⟩

section
variable {w : World} {fp : List Nat} {p q : Nat} {A : Dsk} {nm : ByteArray} {t : List Int}

/-- In the middle of Put: the record lies in a box beside the writer. -/
structure PutMid (w W : World) (fd : List Nat) (tv : Value) (p q : Nat) (A : Dsk) (nm : ByteArray) (t : List Int) (x1 x2 : Int) : Prop where
  wk : WkE W fd tv p q A nm t
  box : W.heap[w.heap.size]? = some (.cells #[.int .u64 x1, .int .u64 x2] 48 (0, 0))
  bel : Below w.heap.size w W

theorem PutMid.next {W W' : World} {fd : List Nat} {tv : Value} {x1 x2 : Int} (h : PutMid w W fd tv p q A nm t x1 x2) (hb : Below W.heap.size W W') : PutMid w W' fd tv p q A nm t x1 x2 :=
  ⟨h.wk.below hb, (Kept.of_below (fp := []) hb).heap9 h.box (by simp), h.bel.trans (hb.mono h.bel.size)⟩
theorem PutMid.drew {W : World} {fd : List Nat} {tv : Value} {x1 x2 : Int} (h : PutMid w W fd tv p q A nm t x1 x2) : PutMid w W.drew fd tv p q A nm t x1 x2 :=
  h.next ⟨rfl, rfl, rfl, Nat.le_refl _, fun _ _ => rfl⟩

set_option maxRecDepth 100000 in
set_option maxHeartbeats 4000000 in
/-- Put, where the text stays. -/
theorem put_text (h : Wk w fp p q A nm t) (x : Rc) (hx : okR x) (ht : t.length ≤ 1000) (hs : (t ++ recB x).length < 800) :
    Calls Try.prog 26 #[.pointer (some ⟨q, 0, none⟩), valR x] w fun e w' => e = .returned (.int .i64 0) ∧ WkO w w' fp p q A nm (t ++ recB x) := by
  obtain ⟨fd, tv, h, rfl⟩ := h
  obtain ⟨x1, x2⟩ := x
  obtain ⟨hx1, hx2⟩ := hx
  dsimp only at hx1 hx2
  unfold valR
  dsimp only
  have M0 : PutMid w (w.alloc (.cells #[.int .u64 x1, .int .u64 x2] 48)) fd tv p q A nm t x1 x2 :=
    ⟨h.below ((Below.refl _ w).alloc (Nat.le_refl _) _), heap_alloc_new w _, (Below.refl _ w).alloc (Nat.le_refl _) _⟩
  obtain ⟨c0, _, c2, c3⟩ := M0.wk.cellAt
  have P1 := hide (fun W => put8a x1 hx1 W)
  have P2 := hide (fun (W : World) (v : Value) (i : IsB W v (putB 8 x1)) => put8b x2 hx2 i)
  obtain ⟨ts, hts⟩ : ∃ ts, ts = t ++ recB (x1, x2) := ⟨_, rfl⟩
  obtain ⟨n, hn⟩ : ∃ n, n = ts.length := ⟨_, rfl⟩
  have hl : t.length + (recB (x1, x2)).length ≤ 1099511627776 := by rw [recB_length]; omega
  have HL := hide hl
  have HTS := hide hts
  have HN := hide hn
  rw [← hts, ← hn] at hs
  rw [← hts]
  have hs' : (n : Int) < 800 := by omega
  have H0 := hide h
  have HM := hide M0
  have b0' : (w.alloc (.cells #[.int .u64 x1, .int .u64 x2] 48)).drew.cell? ⟨w.heap.size, 0, none⟩ = some (.int .u64 x1) := (cell_of_heap M0.box 0).trans rfl
  have b1' : (w.alloc (.cells #[.int .u64 x1, .int .u64 x2] 48)).drew.cell? ⟨w.heap.size, 1, none⟩ = some (.int .u64 x2) := (cell_of_heap M0.box 1).trans rfl
  clear h M0 hx1 hx2 hl hts hn
  go_enter Try.func26, Try.ntmps26
  go_wp2_with fail
  refine (closed_no c0).mono ?_
  rintro e w1 ⟨rfl, rfl⟩
  have c2' : (w.alloc (.cells #[.int .u64 x1, .int .u64 x2] 48)).drew.cell? ⟨q, 2, none⟩ = some tv := c2
  go_wp2_with fail
  go_region_law (first
    | (go_simp; go_at_call_of 46 (Value.slice none 0 0); refine (P1.out _).mono ?_; rintro e w2 ⟨g2, cap2, rfl, i2, bel2⟩; have m2 := HM.out.drew.next bel2; have d2 := m2.wk.cellAt.2.2.1; have d0 := cell_of_heap m2.box 0; have d1 := cell_of_heap m2.box 1; simp at d0 d1; have M2 := hide m2; have I2 := hide i2; clear m2 i2 bel2)
    | (go_simp; go_at_call_of 46 (Value.slice (some ⟨g2, 0, none⟩) 8 cap2); refine (P2.out _ _ I2.out).mono ?_; rintro e w3 ⟨g3, cap3, rfl, i3, bel3⟩; have m3 := M2.out.next bel3; have e2 := m3.wk.cellAt.2.2.1; have M3 := hide m3; have I3 := hide i3; clear m3 i3 bel3)
    | (refine step_appendR _ ?_ (.tmp 11) (.tmp 17) ?_ tv (.slice (some ⟨g3, 0, none⟩) 16 cap3) t (recB (x1, x2)) ?_ ?_ ?_ ?_ ?_ ?_; rfl; rfl; rfl; exact M3.out.wk.row; rfl; exact I3.out; exact HL.out; intro v4 w4 r4 k4 n4; rw [← HTS.out] at r4; have hq4 := k4.heap9 M3.out.wk.cells M3.out.wk.qt; have z4 := frozen_of_heap hq4; have e4 : w4.cell? ⟨q, 2, none⟩ = some tv := (cell_of_heap hq4 2).trans rfl; obtain ⟨va, vc, hv4, _⟩ := r4.isB.form; rw [← HN.out] at hv4; subst hv4; have R4 := hide r4; have K4 := hide k4; have N4 := hide n4; have HQ4 := hide hq4; clear r4 k4 n4 hq4))
  all_goals
    go_wp2
    go_ret
    have k5 : Kept [q] w4 (w4.setCell ⟨q, 2, none⟩ (.slice va n vc)) := (Kept.refl _ w4).setCell (p := ⟨q, 2, none⟩) (.inl (by simp)) _
    have m3 := M3.out
    have hql := heap_lt m3.wk.cells
    have hqn : q ∉ own (.slice va n vc) := fun e => by
      rcases N4.out q e with e2 | e2
      · exact m3.wk.qt e2
      · omega
    obtain ⟨y1, y2, y3⟩ := m3.wk.turn (w' := w4.setCell ⟨q, 2, none⟩ (.slice va n vc)) (tv' := .slice va n vc) (t' := ts) (((K4.out.mono (fp' := q :: own tv) (by intro y hy; simp [hy])).trans k5 (Newly.of_sub (by simp))))
      (by have e := heap_setCell HQ4.out 2 (.slice va n vc); simpa [wcells] using e) (R4.out.kept k5 (fun y hy e => by simp only [List.mem_singleton] at e; subst e; exact hqn hy)) N4.out
    have k0 : Kept (wfp fd q tv) w w3 := Kept.of_below m3.bel
    exact ⟨rfl, _, ⟨fd, _, y1, rfl⟩, k0.trans y2 (Newly.refl _ _), fun y hy => (y3 y hy).imp id (fun e => Nat.le_trans m3.bel.size e)⟩
set_option maxRecDepth 100000 in
set_option maxHeartbeats 4000000 in
/-- Put, where a block is full. -/
theorem put_flush (h : Wk w fp p q A nm t) (hnm : nm.size ≤ maxLen) (hno : A.2.ops ≤ 1000000) (x : Rc) (hx : okR x) (ht : t.length < 800) (hs : ¬ (t ++ recB x).length < 800) {k : Int} {B : Dsk} (hB : flushW A nm.data.toList (t ++ recB x) = (k, B)) :
    Calls Try.prog 26 #[.pointer (some ⟨q, 0, none⟩), valR x] w fun e w' => e = .returned (.int .i64 k) ∧ (k = 0 → WkO w w' fp p q B nm []) ∧ (k ≠ 0 → WxO w w' fp p q B) := by
  obtain ⟨fd, tv, h, rfl⟩ := h
  obtain ⟨x1, x2⟩ := x
  obtain ⟨hx1, hx2⟩ := hx
  dsimp only at hx1 hx2
  unfold valR
  dsimp only
  have M0 : PutMid w (w.alloc (.cells #[.int .u64 x1, .int .u64 x2] 48)) fd tv p q A nm t x1 x2 :=
    ⟨h.below ((Below.refl _ w).alloc (Nat.le_refl _) _), heap_alloc_new w _, (Below.refl _ w).alloc (Nat.le_refl _) _⟩
  obtain ⟨c0, _, c2, c3⟩ := M0.wk.cellAt
  have P1 := hide (fun W => put8a x1 hx1 W)
  have P2 := hide (fun (W : World) (v : Value) (i : IsB W v (putB 8 x1)) => put8b x2 hx2 i)
  obtain ⟨ts, hts⟩ : ∃ ts, ts = t ++ recB (x1, x2) := ⟨_, rfl⟩
  obtain ⟨n, hn⟩ : ∃ n, n = ts.length := ⟨_, rfl⟩
  have hl : t.length + (recB (x1, x2)).length ≤ 1099511627776 := by rw [recB_length]; omega
  have HL := hide hl
  have HTS := hide hts
  have HN := hide hn
  rw [← hts, ← hn] at hs
  have htl : ts.length ≤ 1000 := by rw [hts, List.length_append, recB_length]; omega
  have FL : Hid (∀ (W : World) (fq : List Nat), Wk W fq p q A nm ts → Calls Try.prog 47 #[.pointer (some ⟨q, 0, none⟩)] W fun e w' => e = .returned (.int .i64 k) ∧ (k = 0 → WkO W w' fq p q B nm []) ∧ (k ≠ 0 → WxO W w' fq p q B)) := fun W fq hW => by
    by_cases hk : k = 0
    · subst hk
      refine (flush_go hW hno hnm htl (by rw [hts]; exact hB)).mono ?_
      rintro e w' ⟨rfl, o⟩
      exact ⟨rfl, fun _ => o, fun h => absurd rfl h⟩
    · refine (flush_no hW hno hnm htl hk (by rw [hts]; exact hB)).mono ?_
      rintro e w' ⟨rfl, o⟩
      exact ⟨rfl, fun h => absurd h hk, fun _ => o⟩
  have hs' : ¬ (n : Int) < 800 := by omega
  have H0 := hide h
  have HM := hide M0
  have b0' : (w.alloc (.cells #[.int .u64 x1, .int .u64 x2] 48)).drew.cell? ⟨w.heap.size, 0, none⟩ = some (.int .u64 x1) := (cell_of_heap M0.box 0).trans rfl
  have b1' : (w.alloc (.cells #[.int .u64 x1, .int .u64 x2] 48)).drew.cell? ⟨w.heap.size, 1, none⟩ = some (.int .u64 x2) := (cell_of_heap M0.box 1).trans rfl
  clear h M0 hx1 hx2 hl hts hn hB htl
  go_enter Try.func26, Try.ntmps26
  go_wp2_with fail
  refine (closed_no c0).mono ?_
  rintro e w1 ⟨rfl, rfl⟩
  have c2' : (w.alloc (.cells #[.int .u64 x1, .int .u64 x2] 48)).drew.cell? ⟨q, 2, none⟩ = some tv := c2
  go_wp2_with fail
  go_region_law (first
    | (go_simp; go_at_call_of 46 (Value.slice none 0 0); refine (P1.out _).mono ?_; rintro e w2 ⟨g2, cap2, rfl, i2, bel2⟩; have m2 := HM.out.drew.next bel2; have d2 := m2.wk.cellAt.2.2.1; have d0 := cell_of_heap m2.box 0; have d1 := cell_of_heap m2.box 1; simp at d0 d1; have M2 := hide m2; have I2 := hide i2; clear m2 i2 bel2)
    | (go_simp; go_at_call_of 46 (Value.slice (some ⟨g2, 0, none⟩) 8 cap2); refine (P2.out _ _ I2.out).mono ?_; rintro e w3 ⟨g3, cap3, rfl, i3, bel3⟩; have m3 := M2.out.next bel3; have e2 := m3.wk.cellAt.2.2.1; have M3 := hide m3; have I3 := hide i3; clear m3 i3 bel3)
    | (refine step_appendR _ ?_ (.tmp 11) (.tmp 17) ?_ tv (.slice (some ⟨g3, 0, none⟩) 16 cap3) t (recB (x1, x2)) ?_ ?_ ?_ ?_ ?_ ?_; rfl; rfl; rfl; exact M3.out.wk.row; rfl; exact I3.out; exact HL.out; intro v4 w4 r4 k4 n4; rw [← HTS.out] at r4; have hq4 := k4.heap9 M3.out.wk.cells M3.out.wk.qt; have z4 := frozen_of_heap hq4; have e4 : w4.cell? ⟨q, 2, none⟩ = some tv := (cell_of_heap hq4 2).trans rfl; obtain ⟨va, vc, hv4, _⟩ := r4.isB.form; rw [← HN.out] at hv4; subst hv4; have R4 := hide r4; have K4 := hide k4; have N4 := hide n4; have HQ4 := hide hq4; clear r4 k4 n4 hq4))
  all_goals
    have k5 : Kept [q] w4 (w4.setCell ⟨q, 2, none⟩ (.slice va n vc)) := (Kept.refl _ w4).setCell (p := ⟨q, 2, none⟩) (.inl (by simp)) _
    have m3 := M3.out
    have hql := heap_lt m3.wk.cells
    have hqn : q ∉ own (.slice va n vc) := fun e => by
      rcases N4.out q e with e2 | e2
      · exact m3.wk.qt e2
      · omega
    obtain ⟨y1, y2, y3⟩ := m3.wk.turn (w' := w4.setCell ⟨q, 2, none⟩ (.slice va n vc)) (tv' := .slice va n vc) (t' := ts) (((K4.out.mono (fp' := q :: own tv) (by intro y hy; simp [hy])).trans k5 (Newly.of_sub (by simp))))
      (by have e := heap_setCell HQ4.out 2 (.slice va n vc); simpa [wcells] using e) (R4.out.kept k5 (fun y hy e => by simp only [List.mem_singleton] at e; subst e; exact hqn hy)) N4.out
    have k0 : Kept (wfp fd q tv) w w3 := Kept.of_below m3.bel
    have F5 := hide (FL.out _ _ ⟨fd, _, y1, rfl⟩)
    have K5 := hide (k0.trans y2 (Newly.refl _ _))
    have N5 : Hid (Newly w (wfp fd q tv) (wfp fd q (.slice va n vc))) := fun y hy => (y3 y hy).imp id (fun e => Nat.le_trans m3.bel.size e)
    clear k5 m3 hql hqn y1 y2 y3 k0
    go_wp2_with fail
    refine F5.out.mono ?_
    rintro e w6 ⟨rfl, o1, o2⟩
    go_wp2
    go_ret
    refine ⟨rfl, fun hk => ?_, fun hk => ?_⟩
    · obtain ⟨fp6, a6, k6, n6⟩ := o1 hk
      exact ⟨fp6, a6, K5.out.trans k6 N5.out, N5.out.trans n6 K5.out.size⟩
    · obtain ⟨fp6, a6, k6, n6⟩ := o2 hk
      exact ⟨fp6, a6, K5.out.trans k6 N5.out, N5.out.trans n6 K5.out.size⟩
end

end Go.Proofs.Ytdhajmgpakconaa

namespace Go.Proofs.Ytdhajmgpakconaa
open Go.RowKit Go.Maps

/-- Sync, of whatever file. -/
theorem sync_any {w : World} {fp : List Nat} {p : Nat} {l : List Ab} {s : Ds} (h : Dk w fp p l s) (hn : s.ops ≤ 1000000) (nm : ByteArray) (hnm : nm.size ≤ maxLen) {k : Int} {B : Dsk} (hB : syncW (beginA l s) nm.data.toList = (k, B)) :
    Calls Try.prog 48 #[.pointer (some ⟨p, 0, none⟩), .string nm] w fun e w' => e = .returned (.int .i64 k) ∧ Outc w w' fp p B := by
  unfold syncW at hB
  cases he : errA (beginA l s) nm.data.toList with
  | some j =>
    rw [he] at hB
    simp only [Prod.mk.injEq] at hB
    obtain ⟨rfl, rfl⟩ := hB
    exact h.sync_err hn nm hnm he
  | none =>
    obtain ⟨x, hx⟩ := errA_none he
    rw [he] at hB
    dsimp only at hB
    rw [hx] at hB
    simp only [Prod.mk.injEq] at hB
    obtain ⟨rfl, rfl⟩ := hB
    exact h.sync_ok hn nm hnm he hx

section
variable {w : World} {fp : List Nat} {p q : Nat} {A : Dsk} {nm : ByteArray} {t : List Int}

set_option maxRecDepth 100000 in
theorem put_closed (h : Wx w fp p q A) (x : Rc) : Calls Try.prog 26 #[.pointer (some ⟨q, 0, none⟩), valR x] w fun e w' => e = .returned (.int .i64 9) ∧ Below w.heap.size w w' := by
  obtain ⟨fd, d, hc, a, rfl⟩ := h
  obtain ⟨x1, x2⟩ := x
  unfold valR
  dsimp only
  have c0 : (w.alloc (.cells #[.int .u64 x1, .int .u64 x2] 48)).cell? ⟨q, 0, none⟩ = some (.pointer none) := ((Kept.refl [] w).alloc _).cell ((cell_of_heap hc 0).trans rfl) (by simp)
  have BB := hide ((Below.refl w.heap.size w).alloc (Nat.le_refl _) (.cells #[.int .u64 x1, .int .u64 x2] 48))
  clear d hc a
  go_enter Try.func26, Try.ntmps26
  go_wp2_with fail
  refine (closed_yes c0).mono ?_
  rintro e w1 ⟨rfl, rfl⟩
  go_wp2
  go_ret
  exact ⟨rfl, BB.out⟩

set_option maxRecDepth 100000 in
theorem close_closed (h : Wx w fp p q A) : Calls Try.prog 27 #[.pointer (some ⟨q, 0, none⟩)] w fun e w' => e = .returned (.int .i64 9) ∧ w' = w := by
  obtain ⟨fd, d, hc, a, rfl⟩ := h
  have c0 : w.cell? ⟨q, 0, none⟩ = some (.pointer none) := (cell_of_heap hc 0).trans rfl
  clear d hc a
  go_enter Try.func27, Try.ntmps27
  go_wp2_with fail
  refine (closed_yes c0).mono ?_
  rintro e w1 ⟨rfl, rfl⟩
  go_wp2
  go_ret
  exact ⟨rfl, rfl⟩

set_option maxRecDepth 100000 in
set_option maxHeartbeats 4000000 in
theorem close_empty (h : Wk w fp p q A nm []) (hn : A.2.ops ≤ 1000000) (hnm : nm.size ≤ maxLen) {k : Int} {B : Dsk} (hB : syncW (beginA A.1 A.2) nm.data.toList = (k, B)) :
    Calls Try.prog 27 #[.pointer (some ⟨q, 0, none⟩)] w fun e w' => e = .returned (.int .i64 k) ∧ WxO w w' fp p q B := by
  obtain ⟨fd, tv, h, rfl⟩ := h
  obtain ⟨c0, c1, c2, c3⟩ := h.cellAt
  obtain ⟨ta, tc, rfl, htc⟩ := h.row.isB.form
  simp only [List.length_nil] at c2
  have c0' : w.drew.cell? ⟨q, 0, none⟩ = some (.pointer (some ⟨p, 0, none⟩)) := c0
  have c1' : w.drew.cell? ⟨q, 1, none⟩ = some (.string nm) := c1
  have SY := hide (sync_any (h.disk.below ((Below.refl _ w).drew)) hn nm hnm hB)
  have H := hide (h.below ((Below.refl _ w).drew))
  clear h htc hB
  go_enter Try.func27, Try.ntmps27
  go_wp2_with fail
  refine (closed_no c0).mono ?_
  rintro e w1 ⟨rfl, rfl⟩
  go_wp2_with fail
  go_region_held (fun W => W.cell? ⟨q, 0, none⟩ = some (.pointer (some ⟨p, 0, none⟩)) ∧ W.cell? ⟨q, 1, none⟩ = some (.string nm)) (exact ⟨by assumption, by assumption⟩) (first | (go_at_call 48; refine SY.out.mono ?_; rintro e w2 ⟨rfl, o2⟩; obtain ⟨fd2, E2, K2, N2⟩ := H.out.disk_op o2; obtain ⟨f0, f1, f2, f3⟩ := E2.cellAt; have EE := hide (end_any E2); have HK2 := hide K2; have HN2 := hide N2; clear o2 E2 K2 N2 f2))
  go_wp2_with fail
  refine EE.out.mono ?_
  rintro e w3 ⟨rfl, fp3, x3, k3, n3⟩
  go_wp2
  go_ret
  have k2 : Kept (wfp fd q (.slice ta ([] : List Int).length tc)) w1 w2 := ⟨HK2.out.os, HK2.out.tape, HK2.out.output, HK2.out.size, HK2.out.block⟩
  have n2 : Newly w1 (wfp fd q (.slice ta ([] : List Int).length tc)) (wfp fd2 q (.slice ta ([] : List Int).length tc)) := HN2.out
  exact ⟨rfl, fp3, x3, k2.trans k3 n2, n2.trans n3 k2.size⟩

set_option maxRecDepth 100000 in
set_option maxHeartbeats 4000000 in
theorem close_full (h : Wk w fp p q A nm t) (h0 : t ≠ []) (ht : t.length ≤ 1000) (hn : A.2.ops < 1000000) (hnm : nm.size ≤ maxLen) {C : Dsk} (hC : flushW A nm.data.toList t = (0, C)) {k : Int} {B : Dsk} (hB : syncW (beginA C.1 C.2) nm.data.toList = (k, B)) :
    Calls Try.prog 27 #[.pointer (some ⟨q, 0, none⟩)] w fun e w' => e = .returned (.int .i64 k) ∧ WxO w w' fp p q B := by
  have FL := hide (flush_go h (by omega) hnm ht hC)
  have hop : C.2.ops = A.2.ops + 1 := by
    have := flushW_ops A nm.data.toList t
    rw [hC] at this
    exact this
  have SY := hide (fun (W : World) (fd : List Nat) (d : Dk W fd p C.1 C.2) => sync_any d (by omega) nm hnm hB)
  obtain ⟨fd, tv, h, rfl⟩ := h
  obtain ⟨c0, c1, c2, c3⟩ := h.cellAt
  obtain ⟨ta, tc, rfl, htc⟩ := h.row.isB.form
  obtain ⟨n, hnl⟩ : ∃ n, n = t.length := ⟨_, rfl⟩
  have hpos : 0 < n := by rw [hnl]; exact List.length_pos_iff.2 h0
  rw [← hnl] at c2 FL ⊢
  clear h htc hB hC h0 ht hop hnl
  go_enter Try.func27, Try.ntmps27
  go_wp2_with fail
  refine (closed_no c0).mono ?_
  rintro e w1 ⟨rfl, rfl⟩
  go_wp2_with fail
  refine FL.out.mono ?_
  rintro e w1 ⟨rfl, fp1, ⟨fd1, tv1, H1, rfl⟩, K1, N1⟩
  obtain ⟨d0, d1, d2, d3⟩ := H1.cellAt
  have d0' : w1.drew.cell? ⟨q, 0, none⟩ = some (.pointer (some ⟨p, 0, none⟩)) := d0
  have d1' : w1.drew.cell? ⟨q, 1, none⟩ = some (.string nm) := d1
  have H := hide (H1.below ((Below.refl _ w1).drew))
  have HK1 := hide K1
  have HN1 := hide N1
  clear H1 K1 N1 d2
  go_wp2_with fail
  go_region_held (fun W => W.cell? ⟨q, 0, none⟩ = some (.pointer (some ⟨p, 0, none⟩)) ∧ W.cell? ⟨q, 1, none⟩ = some (.string nm)) (exact ⟨by assumption, by assumption⟩) (first | (go_at_call 48; refine (SY.out _ _ H.out.disk).mono ?_; rintro e w2 ⟨rfl, o2⟩; obtain ⟨fd2, E2, K2, N2⟩ := H.out.disk_op o2; obtain ⟨f0, f1, f2, f3⟩ := E2.cellAt; have EE := hide (end_any E2); have HK2 := hide K2; have HN2 := hide N2; clear o2 E2 K2 N2 f2))
  go_wp2_with fail
  refine EE.out.mono ?_
  rintro e w3 ⟨rfl, fp3, x3, k3, n3⟩
  go_wp2
  go_ret
  have k2 : Kept _ w1 w2 := ⟨HK2.out.os, HK2.out.tape, HK2.out.output, HK2.out.size, HK2.out.block⟩
  have n2 : Newly w1 _ _ := HN2.out
  have k12 := HK1.out.trans k2 HN1.out
  have n12 := HN1.out.trans n2 HK1.out.size
  exact ⟨rfl, fp3, x3, k12.trans k3 n12, n12.trans n3 k12.size⟩

set_option maxRecDepth 100000 in
set_option maxHeartbeats 4000000 in
theorem close_no (h : Wk w fp p q A nm t) (h0 : t ≠ []) (ht : t.length ≤ 1000) (hn : A.2.ops ≤ 1000000) (hnm : nm.size ≤ maxLen) {k : Int} (hk : ¬ k = 0) {C : Dsk} (hC : flushW A nm.data.toList t = (k, C)) :
    Calls Try.prog 27 #[.pointer (some ⟨q, 0, none⟩)] w fun e w' => e = .returned (.int .i64 k) ∧ WxO w w' fp p q C := by
  have FL := hide (flush_no h hn hnm ht hk hC)
  obtain ⟨fd, tv, h, rfl⟩ := h
  obtain ⟨c0, c1, c2, c3⟩ := h.cellAt
  obtain ⟨ta, tc, rfl, htc⟩ := h.row.isB.form
  obtain ⟨n, hnl⟩ : ∃ n, n = t.length := ⟨_, rfl⟩
  have hpos : 0 < n := by rw [hnl]; exact List.length_pos_iff.2 h0
  rw [← hnl] at c2 FL ⊢
  clear h htc hC h0 ht hnl
  go_enter Try.func27, Try.ntmps27
  go_wp2_with fail
  refine (closed_no c0).mono ?_
  rintro e w1 ⟨rfl, rfl⟩
  go_wp2_with fail
  refine FL.out.mono ?_
  rintro e w1 ⟨rfl, o1⟩
  go_wp2
  go_ret
  exact ⟨rfl, o1⟩

/-- Close. -/
theorem close_any (h : Wk w fp p q A nm t) (ht : t.length ≤ 1000) (hn : A.2.ops < 1000000) (hnm : nm.size ≤ maxLen) {k : Int} {B : Dsk} (hB : closeW A nm.data.toList t = (k, B)) :
    Calls Try.prog 27 #[.pointer (some ⟨q, 0, none⟩)] w fun e w' => e = .returned (.int .i64 k) ∧ WxO w w' fp p q B := by
  unfold closeW at hB
  by_cases h0 : t = []
  · subst h0
    rw [if_pos rfl] at hB
    exact close_empty h (by omega) hnm hB
  · rw [if_neg h0] at hB
    obtain ⟨j, C, hC⟩ : ∃ j C, flushW A nm.data.toList t = (j, C) := ⟨_, _, rfl⟩
    rw [hC] at hB
    dsimp only at hB
    by_cases hj : j = 0
    · rw [if_pos hj] at hB
      subst hj
      exact close_full h h0 ht hn hnm hC hB
    · rw [if_neg hj] at hB
      simp only [Prod.mk.injEq] at hB
      obtain ⟨rfl, rfl⟩ := hB
      exact close_no h h0 ht (by omega) hnm hj hC

/-- Put. -/
theorem put_step (h : Wk w fp p q A nm t) (hnm : nm.size ≤ maxLen) (hn : A.2.ops ≤ 1000000) (x : Rc) (hx : okR x) (ht : t.length < 800) {k : Int} {B : Dsk} {t' : List Int} (hB : putW A nm.data.toList t x = (k, B, t')) :
    Calls Try.prog 26 #[.pointer (some ⟨q, 0, none⟩), valR x] w fun e w' => e = .returned (.int .i64 k) ∧ (k = 0 → WkO w w' fp p q B nm t') ∧ (k ≠ 0 → WxO w w' fp p q B) := by
  unfold putW at hB
  by_cases hs : (t ++ recB x).length < 800
  · rw [if_pos hs] at hB
    simp only [Prod.mk.injEq] at hB
    obtain ⟨rfl, rfl, rfl⟩ := hB
    refine (put_text h x hx (by omega) hs).mono ?_
    rintro e w' ⟨rfl, o⟩
    exact ⟨rfl, fun _ => o, fun h => absurd rfl h⟩
  · rw [if_neg hs] at hB
    obtain ⟨j, C, hC⟩ : ∃ j C, flushW A nm.data.toList (t ++ recB x) = (j, C) := ⟨_, _, rfl⟩
    rw [hC] at hB
    simp only [Prod.mk.injEq] at hB
    obtain ⟨rfl, rfl, rfl⟩ := hB
    exact put_flush h hnm hn x hx ht hs hC

end

end Go.Proofs.Ytdhajmgpakconaa

namespace Go.Proofs.Ytdhajmgpakconaa
open Go.RowKit Go.Maps

theorem putW_len (A : Dsk) (n : List UInt8) (t : List Int) (x : Rc) : (putW A n t x).2.2.length < 800 := by
  unfold putW
  split
  · assumption
  · simp

set_option maxRecDepth 100000 in
set_option maxHeartbeats 4000000 in
theorem newWriter_go {w : World} {fd : List Nat} {p : Nat} {A : Dsk} (h : Dk w fd p A.1 A.2) (hn : A.2.ops ≤ 1000000) (nm : ByteArray) (hnm : nm.size ≤ maxLen) {B : Dsk} (hB : createA (beginA A.1 A.2) nm.data.toList = (0, B)) :
    Calls Try.prog 25 #[.pointer (some ⟨p, 0, none⟩), .string nm] w fun e w' => ∃ q, e = .returned (.tuple #[.pointer (some ⟨q, 0, none⟩), .int .i64 0]) ∧ ∃ fp', Wk w' fp' p q B nm [] ∧ Kept fd w w' ∧ Newly w fd fp' := by
  have CR := h.create hn nm hnm
  rw [hB] at CR
  have HC := hide CR
  clear CR hB h
  go_enter Try.func25, Try.ntmps25
  go_wp2_with fail
  refine HC.out.mono ?_
  rintro e w1 ⟨rfl, o1⟩
  go_wp2
  go_ret2
  obtain ⟨fd1, d1, k1, n1⟩ := o1
  have hlt := d1.lt
  refine ⟨w1.heap.size, rfl, wfp fd1 w1.heap.size (.slice none 0 0), ⟨fd1, .slice none 0 0, ⟨d1.below ((Below.refl _ w1).alloc (Nat.le_refl _) _), heap_alloc_new w1 _, RowB.nil _, fun e => by have := hlt _ e; omega, by simp [own, Value.ownBlock], by simp [own, Value.ownBlock]⟩, rfl⟩, k1.alloc _, fun x hx => ?_⟩
  rcases wfp_mem.1 hx with hx | rfl | hx
  · exact n1 x hx
  · exact .inr k1.size
  · simp [own, Value.ownBlock] at hx

set_option maxRecDepth 100000 in
set_option maxHeartbeats 4000000 in
theorem newWriter_no {w : World} {fd : List Nat} {p : Nat} {A : Dsk} (h : Dk w fd p A.1 A.2) (hn : A.2.ops ≤ 1000000) (nm : ByteArray) (hnm : nm.size ≤ maxLen) {k : Int} (hk : ¬ k = 0) {B : Dsk} (hB : createA (beginA A.1 A.2) nm.data.toList = (k, B)) :
    Calls Try.prog 25 #[.pointer (some ⟨p, 0, none⟩), .string nm] w fun e w' => e = .returned (.tuple #[.pointer none, .int .i64 k]) ∧ Outc w w' fd p B := by
  have CR := h.create hn nm hnm
  rw [hB] at CR
  have HC := hide CR
  clear CR hB h
  go_enter Try.func25, Try.ntmps25
  go_wp2_with fail
  refine HC.out.mono ?_
  rintro e w1 ⟨rfl, o1⟩
  go_wp2
  go_ret2
  exact ⟨rfl, o1⟩

/-- Behind its end a writer is a disk. -/
theorem WxO.outc {w w1 w' : World} {fd fp : List Nat} {p q : Nat} {B : Dsk} (h : WxO w1 w' fp p q B) (hk : Kept fd w w1) (hn : Newly w fd fp) : Outc w w' fd p B := by
  obtain ⟨fp2, ⟨fd2, d2, _, _, rfl⟩, k2, n2⟩ := h
  exact ⟨fd2, d2, hk.trans k2 hn, fun x hx => hn.trans n2 hk.size x (by simp [hx])⟩

theorem drop_rec {l : List Rc} {k : Nat} (hk : k < l.length) : l.drop k = l[k]! :: l.drop (k + 1) := by
  rw [List.drop_eq_getElem_cons hk, getElem!_pos l k hk]

/-- The box of a record, in a loop. -/
theorem boxed_below (w : World) (x1 x2 : Int) : Below w.heap.size w (w.alloc (.cells #[.int .u64 x1, .int .u64 x2] 48)) := (Below.refl _ w).alloc (Nat.le_refl _) _

set_option maxRecDepth 100000 in
set_option maxHeartbeats 4000000 in
theorem recWrite_go {w : World} {fd : List Nat} {p : Nat} {A : Dsk} (h : Dk w fd p A.1 A.2) (nm : ByteArray) (hnm : nm.size ≤ maxLen) {v : Value} {l : List Rc} (hn : A.2.ops + l.length + 10 ≤ 1000000) (hv : IsR w v l) (hvd : l ≠ [] → ∀ x ∈ own v, x ∉ fd) {C : Dsk}
    (hC : createA (beginA A.1 A.2) nm.data.toList = (0, C)) {k : Int} {B : Dsk} (hB : restW nm.data.toList C [] l = (k, B)) :
    Calls Try.prog 12 #[.pointer (some ⟨p, 0, none⟩), .string nm, v] w fun e w' => e = .returned (.int .i64 k) ∧ Outc w w' fd p B := by
  have NW := hide (newWriter_go h (by omega) nm hnm hC)
  have hco : C.2.ops = A.2.ops + 1 := by
    have := createA_ops (beginA A.1 A.2) nm.data.toList
    rw [hC, beginA_ops] at this
    exact this
  obtain ⟨a, cap, rfl, hcap⟩ := hv.form
  obtain ⟨n, hnl⟩ : ∃ n, n = l.length := ⟨_, rfl⟩
  have HV := hide (And.intro hv hvd)
  have HB := hide hB
  have HNL := hide hnl
  rw [← hnl] at hcap hn ⊢
  obtain ⟨m, hm⟩ : ∃ m, m = A.2.ops := ⟨_, rfl⟩
  have hm0 : 0 ≤ m := by rw [hm]; exact h.ok.ops
  have HCO : Hid (C.2.ops = m + 1) := by show _ = _; rw [hm, hco]
  rw [← hm] at hn
  clear h hv hvd hB hC hco hm hnl
  go_enter Try.func12, Try.ntmps12
  go_wp2_with fail
  refine NW.out.mono ?_
  rintro e w1 ⟨q, rfl, fp1, W1, K1, N1⟩
  have H1 := hide (And.intro W1 (And.intro K1 N1))
  clear W1 K1 N1
  go_wp2
  go_loopw [23] (fun vk wr => ∃ (i : Nat) (D : Dsk) (t : List Int), vk = .int .i64 i ∧ i ≤ n ∧ Hid (restW nm.data.toList C [] l = restW nm.data.toList D t (l.drop i)) ∧ Hid (t.length < 800 ∧ D.2.ops ≤ m + 1 + i) ∧ Hid (∃ fp', Wk wr fp' p q D nm t ∧ Kept fd w wr ∧ Newly w fd fp')) (fun vk _ => n + 1 - numOf vk)
  case atStart =>
    exact ⟨0, C, [], by first | rfl | go_num, Nat.zero_le _, by rw [List.drop_zero]; exact rfl, ⟨by simp, by have := HCO.out; omega⟩, fp1, H1.out⟩
  case round =>
    obtain ⟨i, D, t, rfl, hi, HE, HT, HW⟩ := hrel
    by_cases hin : i < n
    · have hin' : (i : Int) < (n : Int) := by omega
      have hw1 : IntKind.i64.wrap ((i : Int) + 1) = (i : Int) + 1 := i64_small _ (by omega) (by omega)
      have hil : i < l.length := by have := HNL.out; omega
      obtain ⟨fpr, W2, K2, N2⟩ := HW.out
      have hvr := HV.out.1.keptN K2 (fun hne x hx => HV.out.2 hne x hx)
      rw [← HNL.out] at hvr
      obtain ⟨g, o, c, e, _, hc⟩ := hvr.opened (by omega)
      simp only [Value.slice.injEq] at e
      obtain ⟨rfl, hx9, rfl⟩ := e
      clear hx9
      obtain ⟨c1, c2⟩ := hc i hil
      have hok := HV.out.1.okAt i hil
      have hdr := drop_rec hil
      obtain ⟨⟨x1, x2⟩, hx⟩ : ∃ x, x = l[i]! := ⟨_, rfl⟩
      rw [← hx] at c1 c2 hok hdr
      dsimp only at c1 c2
      obtain ⟨j, E, t2, hP⟩ : ∃ j E t2, putW D nm.data.toList t (x1, x2) = (j, E, t2) := ⟨_, _, _, rfl⟩
      have hE := HE.out
      rw [hdr, restW, hP] at hE
      dsimp only at hE
      have hpl := putW_len D nm.data.toList t (x1, x2)
      have hpo := putW_ops D nm.data.toList t (x1, x2)
      rw [hP] at hpl hpo
      dsimp only at hpl hpo
      have PT : Hid (∀ (W : World), Below wr.heap.size wr W → Calls Try.prog 26 #[.pointer (some ⟨q, 0, none⟩), .agg #[.int .u64 x1, .int .u64 x2]] W fun e w' => e = .returned (.int .i64 j) ∧ (j = 0 → WkO W w' fpr p q E nm t2) ∧ (j ≠ 0 → WxO W w' fpr p q E)) :=
        fun W hb => put_step (W2.below hb) hnm (by have := HT.out.2; omega) (x1, x2) hok HT.out.1 hP
      have HK2 := hide (And.intro K2 N2)
      have HW2 := hide W2
      have HPL := hide (And.intro hpl hpo)
      clear hc hvr hdr hx hok hP W2 K2 N2 hpl hpo
      by_cases hj : j = 0
      · rw [if_pos hj] at hE
        subst hj
        have HE2 := hide hE
        have PT0 : Hid (∀ (W : World), Below wr.heap.size wr W → Calls Try.prog 26 #[.pointer (some ⟨q, 0, none⟩), .agg #[.int .u64 x1, .int .u64 x2]] W fun e w' => e = .returned (.int .i64 0) ∧ WkO W w' fpr p q E nm t2) := fun W hb => (PT.out W hb).mono fun e w' h => ⟨h.1, h.2.1 rfl⟩
        clear hE PT
        go_wp2_with fail
        refine (PT0.out _ (boxed_below _ _ _)).mono ?_
        rintro e w3 ⟨rfl, o3⟩
        obtain ⟨fp3, W3, K3, N3⟩ := o3
        have H3 := hide (And.intro W3 (And.intro K3 N3))
        clear W3 K3 N3
        go_wp2
        go_roundw
        case rel =>
          obtain ⟨W3, K3, N3⟩ := H3.out
          have kb : Kept fd w _ := HK2.out.1.trans (Kept.of_below (fp := []) (boxed_below wr x1 x2)) (fun _ hx => by simp at hx)
          refine ⟨i + 1, E, t2, by go_num, by omega, HE2.out, ⟨HPL.out.1, by have := HPL.out.2; have := HT.out.2; push_cast; omega⟩, fp3, W3, kb.trans K3 HK2.out.2, HK2.out.2.trans (fun x hx => (N3 x hx).imp id (fun e => by have := (boxed_below wr x1 x2).size; omega)) HK2.out.1.size⟩
        case measure => simp [numOf]; omega
      · rw [if_neg hj] at hE
        have HE2 := hide hE
        clear hE
        go_wp2_with fail
        refine (PT.out _ (boxed_below _ _ _)).mono ?_
        rintro e w3 ⟨rfl, _, o3⟩
        have o4 := o3 hj
        clear o3
        go_wp2
        go_ret
        have kb : Kept fd w _ := HK2.out.1.trans (Kept.of_below (fp := []) (boxed_below wr x1 x2)) (fun _ hx => by simp at hx)
        have e1 := HB.out.symm.trans HE2.out
        simp only [Prod.mk.injEq] at e1
        obtain ⟨rfl, rfl⟩ := e1
        exact ⟨rfl, o4.outc kb HK2.out.2⟩
    · obtain rfl : i = n := by omega
      have hE := HE.out
      rw [List.drop_of_length_le (by have := HNL.out; omega), restW, HB.out] at hE
      obtain ⟨fpr, W2, K2, N2⟩ := HW.out
      have CL := hide (close_any W2 (by have := HT.out.1; omega) (by have := HT.out.2; omega) hnm hE.symm)
      have HK2 := hide (And.intro K2 N2)
      clear hE W2 K2 N2
      go_wp2_with fail
      refine CL.out.mono ?_
      rintro e w3 ⟨rfl, o3⟩
      go_wp2
      go_ret
      exact ⟨rfl, o3.outc HK2.out.1 HK2.out.2⟩

set_option maxRecDepth 100000 in
set_option maxHeartbeats 4000000 in
theorem recWrite_no {w : World} {fd : List Nat} {p : Nat} {A : Dsk} (h : Dk w fd p A.1 A.2) (nm : ByteArray) (hnm : nm.size ≤ maxLen) (a : Option Addr) (n cap : Nat) (hn : A.2.ops ≤ 1000000) {k : Int} (hk : ¬ k = 0) {C : Dsk}
    (hC : createA (beginA A.1 A.2) nm.data.toList = (k, C)) :
    Calls Try.prog 12 #[.pointer (some ⟨p, 0, none⟩), .string nm, .slice a n cap] w fun e w' => e = .returned (.int .i64 k) ∧ Outc w w' fd p C := by
  have NW := hide (newWriter_no h hn nm hnm hk hC)
  clear h hC
  go_enter Try.func12, Try.ntmps12
  go_wp2_with fail
  refine NW.out.mono ?_
  rintro e w1 ⟨rfl, o1⟩
  go_wp2
  go_ret
  exact ⟨rfl, o1⟩

/-- Write. -/
theorem recWrite_any {w : World} {fd : List Nat} {p : Nat} {A : Dsk} (h : Dk w fd p A.1 A.2) (nm : ByteArray) (hnm : nm.size ≤ maxLen) {v : Value} {l : List Rc} (hn : A.2.ops + l.length + 10 ≤ 1000000) (hv : IsR w v l) (hvd : l ≠ [] → ∀ x ∈ own v, x ∉ fd)
    {k : Int} {B : Dsk} (hB : writeW A nm.data.toList l = (k, B)) :
    Calls Try.prog 12 #[.pointer (some ⟨p, 0, none⟩), .string nm, v] w fun e w' => e = .returned (.int .i64 k) ∧ Outc w w' fd p B := by
  obtain ⟨j, C, hC⟩ : ∃ j C, createA (beginA A.1 A.2) nm.data.toList = (j, C) := ⟨_, _, rfl⟩
  unfold writeW at hB
  rw [hC] at hB
  dsimp only at hB
  by_cases hj : j = 0
  · rw [if_pos hj] at hB
    subst hj
    exact recWrite_go h nm hnm hn hv hvd hC hB
  · rw [if_neg hj] at hB
    simp only [Prod.mk.injEq] at hB
    obtain ⟨rfl, rfl⟩ := hB
    obtain ⟨a, cap, rfl, _⟩ := hv.form
    exact recWrite_no h nm hnm a _ cap (by omega) hj hC

end Go.Proofs.Ytdhajmgpakconaa
