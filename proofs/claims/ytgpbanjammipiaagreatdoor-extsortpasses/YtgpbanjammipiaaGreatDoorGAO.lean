/-
  Lemma texts, one behind the other: YNext, YNext2, YRd. No statement of the seat is proved here.
-/
import Derived.Test.YtgpbanjammipiaaGreatDoorGAN
import Derived.Test.YtgpbanjammipiaaGreatDoorGAJ
namespace Go.Proofs.YtgpbanjammipiaaGreatDoor
open Go.RowKit Go.Maps

/-- What next leaves of the disk, and tells. -/
def nextA (A : Dsk) (c : List Int) (a : Nat) : Dsk × (List Int × Nat × Int) :=
  if (bg A).2.down = true then (bg A, [], 0, 7)
  else if (decB ((c.drop a).take 806)).2.2 = 2 ∧ 806 < c.length - a then
    (if (bg (bg A)).2.down = true then (bg (bg A), [], 0, 7) else (bg (bg A), decB (c.drop a)))
  else (bg A, decB (c.drop a))

section
variable {w : World} {fd : List Nat} {tv : Value} {p q : Nat} {A B C : Dsk} {nm : ByteArray} {c : List Int} {st : Rst}

set_option maxRecDepth 100000 in
set_option maxHeartbeats 4000000 in
theorem rnext_two {t1 : List Int} {m1 : Nat} {D : List Int × Nat × Int} (h : RkA w fd tv p q A nm c st) (D1 : Calls Tryz.prog 119 #[.pointer (some ⟨q, 0, none⟩), .int .i64 (806 : Int)] w (NextX w fd tv p q nm c st B (t1, m1, 2))) (hbig : 806 < c.length - st.at_)
    (D2 : ∀ (W : World) (fd1 : List Nat), RkA W fd1 tv p q B nm c st → Calls Tryz.prog 119 #[.pointer (some ⟨q, 0, none⟩), .int .i64 (1006 : Int)] W (NextX W fd1 tv p q nm c st C D)) :
    Calls Tryz.prog 95 #[.pointer (some ⟨q, 0, none⟩)] w (NextX w fd tv p q nm c st C D) := by
  obtain ⟨N, hN⟩ : ∃ N, N = c.length := ⟨_, rfl⟩
  obtain ⟨a, ha⟩ : ∃ a, a = st.at_ := ⟨_, rfl⟩
  have haN : a ≤ N := by rw [ha, hN]; exact h.at_le
  have hN2 : N ≤ 1000000000 := by rw [hN]; exact h.len
  have HN := hide hN
  have HA := hide ha
  rw [← hN, ← ha] at hbig
  have hsub : IntKind.i64.wrap ((N : Int) - (a : Int)) = (N : Int) - (a : Int) := i64_small _ (by omega) (by omega)
  have hbig' : (806 : Int) < (N : Int) - (a : Int) := by omega
  have HD1 := hide D1
  have HD2 := hide D2
  clear h hN ha D1 D2
  go_enter Tryz.func95, Tryz.ntmps95
  go_wp2_with fail
  refine HD1.out.mono ?_
  rintro e w1 ⟨u1, fd1, rfl, i1, E1, K1, N1, O1⟩
  obtain ⟨_, _, f2, f3, _⟩ := E1.cellAt
  rw [← HN.out] at f2
  rw [← HA.out] at f3
  have H2 := hide (HD2.out _ _ (E1.below (Below.refl _ w1).drew))
  have HK1 := hide (And.intro K1 N1)
  have F2 : w1.drew.cell? ⟨q, 2, none⟩ = some (.int .i64 (N : Int)) := f2
  have F3 : w1.drew.cell? ⟨q, 3, none⟩ = some (.int .i64 (a : Int)) := f3
  clear E1 K1 N1 O1 i1
  go_wp2
  go_region_held (fun W => W.cell? ⟨q, 2, none⟩ = some (.int .i64 (N : Int)) ∧ W.cell? ⟨q, 3, none⟩ = some (.int .i64 (a : Int))) (exact ⟨by assumption, by assumption⟩) (fail)
  go_wp2_with fail
  refine H2.out.mono ?_
  rintro e w2 ⟨u2, fd2, rfl, i2, E2, K2, N2, O2⟩
  go_wp2
  go_ret3
  have K1 : Kept _ w w1 := HK1.out.1
  have K2' : Kept (rfp fd1 q tv st.text) w1 w2 := ⟨K2.os, K2.tape, K2.output, K2.size, K2.block⟩
  have N2' : Newly w1 (rfp fd1 q tv st.text) (rfp fd2 q tv st.text) := N2
  exact ⟨u2, fd2, rfl, i2, E2, K1.trans K2' HK1.out.2, HK1.out.2.trans N2' K1.size, fun x hx => ⟨Nat.le_trans K1.size (O2 x hx).1, (O2 x hx).2⟩⟩

set_option maxRecDepth 100000 in
set_option maxHeartbeats 4000000 in
theorem rnext_one {t1 : List Int} {m1 : Nat} {e1 : Int} (h : RkA w fd tv p q A nm c st) (D1 : Calls Tryz.prog 119 #[.pointer (some ⟨q, 0, none⟩), .int .i64 (806 : Int)] w (NextX w fd tv p q nm c st B (t1, m1, e1))) (hbig : e1 = 2 → ¬ 806 < c.length - st.at_) :
    Calls Tryz.prog 95 #[.pointer (some ⟨q, 0, none⟩)] w (NextX w fd tv p q nm c st B (t1, m1, e1)) := by
  obtain ⟨N, hN⟩ : ∃ N, N = c.length := ⟨_, rfl⟩
  obtain ⟨a, ha⟩ : ∃ a, a = st.at_ := ⟨_, rfl⟩
  have haN : a ≤ N := by rw [ha, hN]; exact h.at_le
  have hN2 : N ≤ 1000000000 := by rw [hN]; exact h.len
  have HN := hide hN
  have HA := hide ha
  rw [← hN, ← ha] at hbig
  have hsub : IntKind.i64.wrap ((N : Int) - (a : Int)) = (N : Int) - (a : Int) := i64_small _ (by omega) (by omega)
  have HD1 := hide D1
  clear h hN ha D1
  by_cases he : e1 = 2
  · subst he
    have hbig' : ¬ (806 : Int) < (N : Int) - (a : Int) := by have := hbig rfl; omega
    clear hbig
    go_enter Tryz.func95, Tryz.ntmps95
    go_wp2_with fail
    refine HD1.out.mono ?_
    rintro e w1 ⟨u1, fd1, rfl, i1, E1, K1, N1, O1⟩
    obtain ⟨_, _, f2, f3, _⟩ := E1.cellAt
    rw [← HN.out] at f2
    rw [← HA.out] at f3
    have HE1 := hide (E1.below (Below.refl _ w1).drew)
    have HI1 := hide i1
    have HK1 := hide (And.intro K1 (And.intro N1 O1))
    have F2 : w1.drew.cell? ⟨q, 2, none⟩ = some (.int .i64 (N : Int)) := f2
    have F3 : w1.drew.cell? ⟨q, 3, none⟩ = some (.int .i64 (a : Int)) := f3
    clear E1 K1 N1 O1 i1
    go_wp2
    go_region_held (fun W => W.cell? ⟨q, 2, none⟩ = some (.int .i64 (N : Int)) ∧ W.cell? ⟨q, 3, none⟩ = some (.int .i64 (a : Int))) (exact ⟨by assumption, by assumption⟩) (fail)
    go_wp2
    go_ret3
    exact ⟨u1, fd1, rfl, HI1.out, HE1.out, HK1.out.1.drew, HK1.out.2.1, HK1.out.2.2⟩
  · have he' : ¬ (e1 = 2) := he
    have heb : (e1 == 2) = false := by simpa using he
    clear hbig
    go_enter Tryz.func95, Tryz.ntmps95
    go_wp2_with fail
    refine HD1.out.mono ?_
    rintro e w1 ⟨u1, fd1, rfl, i1, E1, K1, N1, O1⟩
    have HE1 := hide E1
    have HI1 := hide i1
    have HK1 := hide (And.intro K1 (And.intro N1 O1))
    clear E1 K1 N1 O1 i1
    go_wp2
    go_quiet (fail)
    go_wp2
    go_ret3
    have bq : Below w1.heap.size w1 (w1.drewN nq) := ⟨rfl, rfl, rfl, Nat.le_refl _, fun _ _ => rfl⟩
    exact ⟨u1, fd1, rfl, HI1.out.below bq, HE1.out.below bq, HK1.out.1.drewN _, HK1.out.2.1, HK1.out.2.2⟩

/-- next. -/
theorem rnextA_any (h : RkA w fd tv p q A nm c st) (hup : A.2.down = false) (hk : A.2.ops ≤ 999998) (hnm : nm.size ≤ maxLen) :
    Calls Tryz.prog 95 #[.pointer (some ⟨q, 0, none⟩)] w (NextX w fd tv p q nm c st (nextA A c st.at_).1 (nextA A c st.at_).2) := by
  unfold nextA
  have hlen : (c.drop st.at_).length = c.length - st.at_ := List.length_drop
  by_cases hb : (bg A).2.down = true
  · rw [if_pos hb]
    exact rnext_one h (rdecode_down h hb (by omega) hnm 806 (by omega)) (by simp)
  · rw [if_neg hb]
    have hb' : (bg A).2.down = false := by simpa using hb
    have D1 := rdecode_up h hup hb' (by omega) hnm 806 (by omega)
    by_cases h2 : (decB ((c.drop st.at_).take 806)).2.2 = 2 ∧ 806 < c.length - st.at_
    · rw [if_pos h2]
      obtain ⟨D0, hD⟩ : ∃ D0, D0 = decB ((c.drop st.at_).take 806) := ⟨_, rfl⟩
      rw [← hD] at D1 h2
      clear hD
      obtain ⟨t1, m1, e1⟩ := D0
      obtain ⟨h3, h4⟩ := h2
      dsimp only at h3
      subst h3
      have hk2 : (bg A).2.ops ≤ 999999 := by rw [bg_ops]; omega
      by_cases hb2 : (bg (bg A)).2.down = true
      · rw [if_pos hb2]
        exact rnext_two h D1 h4 (fun W fd1 E => rdecode_down E hb2 hk2 hnm 1006 (by omega))
      · rw [if_neg hb2]
        have hT2 := decB_take (c.drop st.at_) 1006 (.inr (.inl (Nat.le_refl _)))
        refine rnext_two h D1 h4 (fun W fd1 E => ?_)
        have := rdecode_up E hb' (by simpa using hb2) hk2 hnm 1006 (by omega)
        rw [hT2] at this
        exact this
    · rw [if_neg h2]
      have hT1 := decB_take (c.drop st.at_) 806
      rw [hlen] at hT1
      by_cases he : (decB ((c.drop st.at_).take 806)).2.2 = 2
      · have hle : ¬ 806 < c.length - st.at_ := fun e => h2 ⟨he, e⟩
        rw [hT1 (.inr (.inr (by omega)))] at D1
        exact rnext_one h D1 (fun _ => hle)
      · rw [hT1 (.inl he)] at D1 he
        exact rnext_one h D1 (fun e => absurd e he)

/-- What the next block leaves of a reader. -/
def loadD (D : List Int × Nat × Int) (st : Rst) : Rst × Int :=
  if D.2.2 ≠ 0 then (st, D.2.2)
  else if st.short = true ∨ rightB D.1 = false then (st, 2)
  else (⟨st.at_ + D.2.1, D.1, decide (D.1.length < 800), st.err⟩, 0)

theorem loadD_eq (c : List Int) (st : Rst) : loadR c st = loadD (decB (c.drop st.at_)) st := rfl

/-- What an operation of a reader leaves. -/
def RkX (w w' : World) (fp : List Nat) (p q : Nat) (B : Dsk) (nm : ByteArray) (c : List Int) (st : Rst) : Prop :=
  ∃ fd tv, RkA w' fd tv p q B nm c st ∧ Kept fp w w' ∧ Newly w fp (rfp fd q tv st.text)

set_option maxRecDepth 100000 in
set_option maxHeartbeats 4000000 in
theorem loadA_any {D : List Int × Nat × Int} (h : RkA w fd tv p q A nm c st) (h0 : st.text = []) (NX : Calls Tryz.prog 95 #[.pointer (some ⟨q, 0, none⟩)] w (NextX w fd tv p q nm c st B D))
    (hpos : D.2.2 = 0 → 6 ≤ D.2.1 ∧ D.2.1 ≤ c.length - st.at_ ∧ D.1.length + 6 = D.2.1 ∧ D.1.length ≤ 1000) :
    Calls Tryz.prog 66 #[.pointer (some ⟨q, 0, none⟩)] w fun e w' => e = .returned (.int .i64 (loadD D st).2) ∧ RkX w w' (rfp fd q tv []) p q B nm c (loadD D st).1 := by
  obtain ⟨a, t0, s, er⟩ := st
  dsimp only at h0
  subst h0
  unfold loadD
  have hal := h.at_le
  have hcl := h.len
  dsimp only at hal hpos ⊢
  obtain ⟨t, m, e1⟩ := D
  dsimp only at NX hpos ⊢
  have HN := hide NX
  clear NX h
  by_cases he : e1 = 0
  · subst he
    obtain ⟨p1, p2, p3, p4⟩ := hpos rfl
    rw [if_neg (by simp)]
    by_cases hs : s = true
    · subst hs
      rw [if_pos (.inl rfl)]
      clear hpos
      go_enter Tryz.func66, Tryz.ntmps66
      go_wp2_with fail
      refine HN.out.mono ?_
      rintro e w1 ⟨u1, fd1, rfl, i1, E1, K1, N1, O1⟩
      obtain ⟨_, _, _, _, _, f5, _⟩ := E1.cellAt
      have HE1 := hide (And.intro E1 (And.intro K1 N1))
      clear E1 K1 N1 O1 i1
      go_wp2
      go_ret
      exact ⟨rfl, fd1, tv, HE1.out.1, HE1.out.2.1, HE1.out.2.2⟩
    · have hs2 : s = false := by simpa using hs
      subst hs2
      cases hr : rightB t with
      | false =>
        rw [if_pos (.inr rfl)]
        clear hpos
        go_enter Tryz.func66, Tryz.ntmps66
        go_wp2_with fail
        refine HN.out.mono ?_
        rintro e w1 ⟨u1, fd1, rfl, i1, E1, K1, N1, O1⟩
        obtain ⟨_, _, _, _, _, f5, _⟩ := E1.cellAt
        have RT := right_any i1 p4
        rw [hr] at RT
        have HRT := hide RT
        have HE1 := hide (And.intro E1 (And.intro K1 N1))
        clear E1 K1 N1 O1 i1 RT
        go_wp2_with (go_at_call 96; refine HRT.out.mono ?_; rintro e w2 ⟨rfl, rfl⟩)
        go_ret
        exact ⟨rfl, fd1, tv, HE1.out.1, HE1.out.2.1, HE1.out.2.2⟩
      | true =>
        rw [if_neg (by simp)]
        have hw1 : IntKind.i64.wrap ((a : Int) + (m : Int)) = (a : Int) + (m : Int) := i64_small _ (by omega) (by omega)
        have ham : a + m ≤ c.length := by omega
        have HAM := hide ham
        clear hpos
        go_enter Tryz.func66, Tryz.ntmps66
        go_wp2_with fail
        refine HN.out.mono ?_
        rintro e w1 ⟨u1, fd1, rfl, i1, E1, K1, N1, O1⟩
        obtain ⟨_, _, _, f3, f4, f5, _, f7⟩ := E1.cellAt
        have RT := right_any i1 p4
        rw [hr] at RT
        have HRT := hide RT
        have HE1 := hide (And.intro E1 (And.intro K1 (And.intro N1 O1)))
        have HI1 := hide i1
        obtain ⟨ua, ucap, rfl, _⟩ := i1.form
        clear E1 K1 N1 O1 i1 RT ham
        go_wp2_with (go_at_call 96; refine HRT.out.mono ?_; rintro e w2 ⟨rfl, rfl⟩)
        go_ret
        refine ⟨rfl, ?_⟩
        obtain ⟨E, K, N, O⟩ := HE1.out
        have hd : decide ((t.length : Int) < 800) = decide (t.length < 800) := decide_eq_decide.2 (by omega)
        rw [hd]
        have ks : Kept [q] w2 (((w2.setCell ⟨q, 4, none⟩ (.slice ua t.length ucap)).setCell ⟨q, 3, none⟩ (.int .i64 ((a : Int) + (m : Int)))).setCell ⟨q, 5, none⟩ (.bool (decide (t.length < 800)))) :=
          (((Kept.refl _ w2).setCell (.inl (by simp)) _).setCell (.inl (by simp)) _).setCell (.inl (by simp)) _
        have hc := heap_setCell (heap_setCell (heap_setCell E.cells 4 (.slice ua t.length ucap)) 3 (.int .i64 ((a : Int) + (m : Int)))) 5 (.bool (decide (t.length < 800)))
        obtain ⟨T1, T2⟩ := E.turn (tv' := .slice ua t.length ucap) (st' := ⟨a + m, t, decide (t.length < 800), er⟩) ks (by simpa [rcells] using hc) HI1.out HAM.out (fun _ x hx => ⟨fun e => (O x hx).2 (rfp_mem.2 (.inl e)), fun e => (O x hx).2 (rfp_mem.2 (.inr (.inl e)))⟩)
        refine ⟨fd1, _, T1, K.trans T2 N, fun x hx => ?_⟩
        rcases rfp_mem.1 hx with hx | hx | ⟨_, hx⟩
        · exact N x (rfp_mem.2 (.inl hx))
        · exact N x (rfp_mem.2 (.inr (.inl hx)))
        · exact .inr (O x hx).1
  · rw [if_pos he]
    clear hpos
    go_enter Tryz.func66, Tryz.ntmps66
    go_wp2_with fail
    refine HN.out.mono ?_
    rintro e w1 ⟨u1, fd1, rfl, i1, E1, K1, N1, O1⟩
    have HE1 := hide (And.intro E1 (And.intro K1 N1))
    clear E1 K1 N1 O1 i1
    go_wp2
    go_ret
    exact ⟨rfl, fd1, tv, HE1.out.1, HE1.out.2.1, HE1.out.2.2⟩
end

end Go.Proofs.YtgpbanjammipiaaGreatDoor

namespace Go.Proofs.YtgpbanjammipiaaGreatDoor
open Go.RowKit Go.Maps

/-- The reader behind load. -/
def loadSD (D : List Int × Nat × Int) (st : Rst) : Rst := { (loadD D st).1 with err := (loadD D st).2 }

section
variable {w : World} {fd : List Nat} {tv : Value} {p q : Nat} {A : Dsk} {nm : ByteArray} {c : List Int} {st : Rst}
end

/-- A reader beside the box of what is told. -/
structure NyM (w W : World) (fd : List Nat) (tv : Value) (p q : Nat) (A : Dsk) (nm : ByteArray) (c : List Int) (st : Rst) : Prop where
  rk : RkA W fd tv p q A nm c st
  box : W.heap[w.heap.size]? = some (.cells #[.int .u64 0, .int .u64 0] 52 (0, 0))

section
variable {w : World} {fd : List Nat} {tv : Value} {p q : Nat} {A : Dsk} {nm : ByteArray} {c : List Int} {st : Rst}

theorem NyM.start (h : RkA w fd tv p q A nm c st) : NyM w (w.alloc (.cells #[.int .u64 0, .int .u64 0] 52)) fd tv p q A nm c st :=
  ⟨h.below ((Below.refl _ w).alloc (Nat.le_refl _) _), heap_alloc_new w _⟩

theorem NyM.next {W W' : World} (h : NyM w W fd tv p q A nm c st) (hb : Below W.heap.size W W') : NyM w W' fd tv p q A nm c st :=
  ⟨h.rk.below hb, (Kept.of_below (fp := []) hb).heap9 h.box (by simp)⟩

theorem NyM.facts {W : World} (h : NyM w W fd tv p q A nm c st) : (W.cell? ⟨q, 2, none⟩ = some (.int .i64 (c.length : Int)) ∧ W.cell? ⟨q, 3, none⟩ = some (.int .i64 (st.at_ : Int)) ∧ W.cell? ⟨q, 4, none⟩ = some tv ∧ W.cell? ⟨q, 6, none⟩ = some (.int .i64 st.err) ∧ ∀ o, W.frozen? ⟨q, o, none⟩ = false) ∧
    W.cell? ⟨w.heap.size, 0, none⟩ = some (.int .u64 0) ∧ W.cell? ⟨w.heap.size, 1, none⟩ = some (.int .u64 0) ∧ ∀ o, W.frozen? ⟨w.heap.size, o, none⟩ = false := by
  obtain ⟨_, _, f2, f3, f4, _, f6, f7⟩ := h.rk.cellAt
  exact ⟨⟨f2, f3, f4, f6, f7⟩, (cell_of_heap h.box 0).trans rfl, (cell_of_heap h.box 1).trans rfl, fun o => frozen_of_heap h.box o⟩

/-- What is told lies in the box: the reader stays. -/
theorem NyM.told {W : World} {fp0 : List Nat} (h : NyM w W fd tv p q A nm c st) (hk : Kept fp0 w W) (x y : Value) (hq : w.heap.size ∉ rfp fd q tv st.text) :
    RkA ((W.setCell ⟨w.heap.size, 0, none⟩ x).setCell ⟨w.heap.size, 1, none⟩ y) fd tv p q A nm c st ∧ Kept fp0 w ((W.setCell ⟨w.heap.size, 0, none⟩ x).setCell ⟨w.heap.size, 1, none⟩ y) := by
  refine ⟨h.rk.kept (fp := [w.heap.size]) (((Kept.refl _ W).setCell (.inl (by simp)) _).setCell (.inl (by simp)) _) (fun z hz e => ?_), (hk.setCell (p := ⟨w.heap.size, 0, none⟩) (.inr (Nat.le_refl _)) _).setCell (p := ⟨w.heap.size, 1, none⟩) (.inr (Nat.le_refl _)) _⟩
  simp only [List.mem_singleton] at e
  subst e
  exact hq hz

/-- The box is as it was told. -/
theorem NyM.boxed {W : World} (h : NyM w W fd tv p q A nm c st) (x y : Value) : ((W.setCell ⟨w.heap.size, 0, none⟩ x).setCell ⟨w.heap.size, 1, none⟩ y).cell? ⟨w.heap.size, 0, none⟩ = some x ∧ ((W.setCell ⟨w.heap.size, 0, none⟩ x).setCell ⟨w.heap.size, 1, none⟩ y).cell? ⟨w.heap.size, 1, none⟩ = some y := by
  have e := heap_setCell (heap_setCell h.box 0 x) 1 y
  exact ⟨(cell_of_heap e 0).trans rfl, (cell_of_heap e 1).trans rfl⟩

/-- The text goes on. -/
theorem NyM.cut {W : World} (h : NyM w W fd tv p q A nm c st) (hb : w.heap.size ≠ q) {tv' : Value} {t' : List Int} (ht : IsB W tv' t') (hn : t' ≠ [] → ∀ x ∈ own tv', x ∉ fd ∧ x ≠ q) :
    NyM w (W.setCell ⟨q, 4, none⟩ tv') fd tv' p q A nm c { st with text := t' } ∧ Kept (rfp fd q tv st.text) W (W.setCell ⟨q, 4, none⟩ tv') := by
  have ks : Kept [q] W (W.setCell ⟨q, 4, none⟩ tv') := (Kept.refl _ W).setCell (.inl (by simp)) _
  have e := heap_setCell h.rk.cells 4 tv'
  obtain ⟨a, b⟩ := h.rk.turn (tv' := tv') (st' := { st with text := t' }) ks (by simpa [rcells] using e) ht h.rk.at_le hn
  exact ⟨⟨a, ks.heap9 h.box (by simpa using hb)⟩, b⟩

end

section
variable {w : World} {fd : List Nat} {tv : Value} {p q : Nat} {A B : Dsk} {nm : ByteArray} {c : List Int} {st : Rst} {D : List Int × Nat × Int}

set_option maxRecDepth 100000 in
set_option maxHeartbeats 4000000 in
/-- An error stays. -/
theorem nextA_err (h : RkA w fd tv p q A nm c st) (he : st.err ≠ 0) (ht : st.text = []) : Calls Tryz.prog 36 #[.pointer (some ⟨q, 0, none⟩)] w fun e w' => e = .returned (.tuple #[.agg #[.int .u64 0, .int .u64 0], .bool false, .int .i64 st.err]) ∧ RkX w w' (rfp fd q tv st.text) p q A nm c st := by
  obtain ⟨ta, tc, rfl, _⟩ := h.text.form
  have M := NyM.start h
  have HLT := hide h.lt
  obtain ⟨⟨f2, f3, f4, f6, f7⟩, b0, b1, z0⟩ := M.facts
  have HM := hide M
  rw [ht] at f4
  simp only [List.length_nil] at f4
  obtain ⟨er, her⟩ : ∃ er, er = st.err := ⟨_, rfl⟩
  rw [← her] at f6 he ⊢
  have he' : (er == 0) = false := by simpa using he
  have HER := hide her
  have HT := hide ht
  clear her ht
  clear M h
  go_enter Tryz.func36, Tryz.ntmps36
  go_wp2
  go_quiet (fail)
  obtain ⟨W1, hW1⟩ : ∃ W1, W1 = (w.alloc (.cells #[.int .u64 0, .int .u64 0] 52)).drewN nq := ⟨_, rfl⟩
  have M1 : NyM w W1 fd (.slice ta st.text.length tc) p q A nm c st := by rw [hW1]; exact HM.out.next (below_drewN _ _)
  have K1 : Kept (rfp fd q (.slice ta st.text.length tc) st.text) w W1 := by rw [hW1]; exact ((Kept.refl _ w).alloc _).drewN _
  have N1 : Newly w (rfp fd q (.slice ta st.text.length tc) st.text) (rfp fd q (.slice ta st.text.length tc) st.text) := Newly.refl _ _
  have HQL : Hid (w.heap.size ∉ rfp fd q (.slice ta st.text.length tc) st.text ∧ q < w.heap.size) := ⟨fun e => by have := HLT.out _ e; omega, HLT.out q (rfp_mem.2 (.inr (.inl rfl)))⟩
  rw [← hW1]
  clear f2 f3 f4 f6 f7 b0 b1 z0 hW1 HM HLT
  obtain ⟨⟨f2, f3, f4, f6, f7⟩, b0, b1, z0⟩ := M1.facts
  rw [HT.out] at f4
  simp only [List.length_nil] at f4
  rw [← HER.out] at f6
  have hqn : q ≠ w.heap.size := by have := HQL.out.2; omega
  have HM1 := hide (And.intro M1 (And.intro K1 N1))
  have g6 : W1.drew.cell? ⟨q, 6, none⟩ = some (.int .i64 er) := f6
  have g0 : W1.drew.cell? ⟨w.heap.size, 0, none⟩ = some (.int .u64 0) := b0
  have g1 : W1.drew.cell? ⟨w.heap.size, 1, none⟩ = some (.int .u64 0) := b1
  have z1 : ∀ o, W1.drew.frozen? ⟨w.heap.size, o, none⟩ = false := z0
  clear M1 K1 N1
  go_wp2
  go_region_held (fun W => W.cell? ⟨q, 6, none⟩ = some (.int .i64 er)) (first | assumption | exact cell_set9 (by assumption) hqn) (fail)
  all_goals
    go_wp2
    obtain ⟨m1, k1, n1⟩ := HM1.out
    obtain ⟨r1, r2⟩ := (m1.next (Below.refl _ W1).drew).boxed (.int .u64 0) (.int .u64 0)
    refine bodyPost_ret (nextRes _ _ w.heap.size 0 0 rfl r1 r2) rfl ?_
    obtain ⟨t1, t2⟩ := (m1.next (Below.refl _ W1).drew).told k1.drew (.int .u64 0) (.int .u64 0) HQL.out.1
    exact ⟨rfl, fd, _, t1, t2, n1⟩

set_option maxRecDepth 100000 in
set_option maxHeartbeats 4000000 in
/-- No more. -/
theorem nextA_end (h : RkA w fd tv p q A nm c st) (he : st.err = 0) (ht : st.text = []) (ha : c.length ≤ st.at_) : Calls Tryz.prog 36 #[.pointer (some ⟨q, 0, none⟩)] w fun e w' => e = .returned (.tuple #[.agg #[.int .u64 0, .int .u64 0], .bool false, .int .i64 st.err]) ∧ RkX w w' (rfp fd q tv st.text) p q A nm c st := by
  obtain ⟨ta, tc, rfl, _⟩ := h.text.form
  have M := NyM.start h
  have HLT := hide h.lt
  obtain ⟨⟨f2, f3, f4, f6, f7⟩, b0, b1, z0⟩ := M.facts
  have HM := hide M
  rw [ht] at f4
  simp only [List.length_nil] at f4
  obtain ⟨er, her⟩ : ∃ er, er = st.err := ⟨_, rfl⟩
  have her0 : er = 0 := her.trans he
  rw [he] at f6
  rw [← her, her0]
  have HER : Hid (0 = st.err) := he.symm
  have HT := hide ht
  obtain ⟨N9, hN⟩ : ∃ N, N = c.length := ⟨_, rfl⟩
  obtain ⟨a9, ha9⟩ : ∃ a, a = st.at_ := ⟨_, rfl⟩
  rw [← hN] at f2
  rw [← ha9] at f3
  have haN : ¬ (a9 : Int) < (N9 : Int) := by omega
  clear ht hN ha9 ha her her0 he
  clear M h
  go_enter Tryz.func36, Tryz.ntmps36
  go_wp2
  go_quiet (fail)
  obtain ⟨W1, hW1⟩ : ∃ W1, W1 = (w.alloc (.cells #[.int .u64 0, .int .u64 0] 52)).drewN nq := ⟨_, rfl⟩
  have M1 : NyM w W1 fd (.slice ta st.text.length tc) p q A nm c st := by rw [hW1]; exact HM.out.next (below_drewN _ _)
  have K1 : Kept (rfp fd q (.slice ta st.text.length tc) st.text) w W1 := by rw [hW1]; exact ((Kept.refl _ w).alloc _).drewN _
  have N1 : Newly w (rfp fd q (.slice ta st.text.length tc) st.text) (rfp fd q (.slice ta st.text.length tc) st.text) := Newly.refl _ _
  have HQL : Hid (w.heap.size ∉ rfp fd q (.slice ta st.text.length tc) st.text ∧ q < w.heap.size) := ⟨fun e => by have := HLT.out _ e; omega, HLT.out q (rfp_mem.2 (.inr (.inl rfl)))⟩
  rw [← hW1]
  clear f2 f3 f4 f6 f7 b0 b1 z0 hW1 HM HLT
  obtain ⟨⟨f2, f3, f4, f6, f7⟩, b0, b1, z0⟩ := M1.facts
  rw [HT.out] at f4
  simp only [List.length_nil] at f4
  rw [← HER.out] at f6
  have hqn : q ≠ w.heap.size := by have := HQL.out.2; omega
  have HM1 := hide (And.intro M1 (And.intro K1 N1))
  have g6 : W1.drew.cell? ⟨q, 6, none⟩ = some (.int .i64 0) := f6
  have g0 : W1.drew.cell? ⟨w.heap.size, 0, none⟩ = some (.int .u64 0) := b0
  have g1 : W1.drew.cell? ⟨w.heap.size, 1, none⟩ = some (.int .u64 0) := b1
  have z1 : ∀ o, W1.drew.frozen? ⟨w.heap.size, o, none⟩ = false := z0
  clear M1 K1 N1
  go_wp2
  go_region_held (fun W => W.cell? ⟨q, 6, none⟩ = some (.int .i64 0)) (first | assumption | exact cell_set9 (by assumption) hqn) (fail)
  all_goals
    go_wp2
    obtain ⟨m1, k1, n1⟩ := HM1.out
    obtain ⟨r1, r2⟩ := (m1.next (Below.refl _ W1).drew).boxed (.int .u64 0) (.int .u64 0)
    refine bodyPost_ret (nextRes _ _ w.heap.size 0 0 rfl r1 r2) rfl ?_
    obtain ⟨t1, t2⟩ := (m1.next (Below.refl _ W1).drew).told k1.drew (.int .u64 0) (.int .u64 0) HQL.out.1
    exact ⟨rfl, fd, _, t1, t2, n1⟩

set_option maxRecDepth 100000 in
set_option maxHeartbeats 4000000 in
/-- What is left of the text. -/
theorem nextA_text (h : RkA w fd tv p q A nm c st) (he : st.err = 0) (ht : 16 ≤ st.text.length) (htl : st.text.length ≤ 1000000) : Calls Tryz.prog 36 #[.pointer (some ⟨q, 0, none⟩)] w fun e w' => e = .returned (.tuple #[valR (recAt st.text), .bool true, .int .i64 0]) ∧ RkX w w' (rfp fd q tv st.text) p q A nm c { st with text := st.text.drop 16 } := by
  obtain ⟨ta, tc, rfl, _⟩ := h.text.form
  have M := NyM.start h
  have HLT := hide h.lt
  obtain ⟨⟨f2, f3, f4, f6, f7⟩, b0, b1, z0⟩ := M.facts
  have HM := hide M
  obtain ⟨n9, hn9⟩ : ∃ n, n = st.text.length := ⟨_, rfl⟩
  have hp9 : ¬ (n9 : Int) = 0 := by omega
  have hp8 : ¬ n9 = 0 := by omega
  have HTL : Hid (16 ≤ st.text.length ∧ st.text.length ≤ 1000000) := ⟨ht, htl⟩
  rw [← hn9] at f4
  rw [he] at f6
  clear ht htl hn9 he
  clear M h
  go_enter Tryz.func36, Tryz.ntmps36
  go_wp2
  go_quiet (fail)
  obtain ⟨W1, hW1⟩ : ∃ W1, W1 = (w.alloc (.cells #[.int .u64 0, .int .u64 0] 52)).drewN nq := ⟨_, rfl⟩
  have M1 : NyM w W1 fd (.slice ta st.text.length tc) p q A nm c st := by rw [hW1]; exact HM.out.next (below_drewN _ _)
  have K1 : Kept (rfp fd q (.slice ta st.text.length tc) st.text) w W1 := by rw [hW1]; exact ((Kept.refl _ w).alloc _).drewN _
  have N1 : Newly w (rfp fd q (.slice ta st.text.length tc) st.text) (rfp fd q (.slice ta st.text.length tc) st.text) := Newly.refl _ _
  have HQL : Hid (w.heap.size ∉ rfp fd q (.slice ta st.text.length tc) st.text ∧ q < w.heap.size) := ⟨fun e => by have := HLT.out _ e; omega, HLT.out q (rfp_mem.2 (.inr (.inl rfl)))⟩
  rw [← hW1]
  clear f2 f3 f4 f6 f7 b0 b1 z0 hW1 HM HLT
  obtain ⟨⟨f2, f3, f4, f6, f7⟩, b0, b1, z0⟩ := M1.facts
  have hqn : q ≠ w.heap.size := by have := HQL.out.2; omega
  have G1 := hide (get_yes _ _ 0 8 W1 M1.rk.text (by have := HTL.out; omega) (by omega) (by omega) (by have := HTL.out; omega))
  have G2 := hide (fun (W : World) (b : Below W1.heap.size W1 W) => get_yes _ _ 8 8 W (M1.rk.text.below b) (by have := HTL.out; omega) (by omega) (by omega) (by have := HTL.out; omega))
  rw [List.drop_zero] at G1
  obtain ⟨x1, hx1⟩ : ∃ x, x = valB 256 ((st).text.take 8) := ⟨_, rfl⟩
  obtain ⟨x2, hx2⟩ : ∃ x, x = valB 256 (((st).text.drop 8).take 8) := ⟨_, rfl⟩
  rw [← hx1] at G1
  rw [← hx2] at G2
  have HX : Hid (recAt (st).text = (x1, x2)) := by show _ = _; rw [recAt, hx1, hx2]
  have HM1 := hide (And.intro M1 (And.intro K1 N1))
  obtain ⟨n, hn⟩ : ∃ n, n = (st).text.length := ⟨_, rfl⟩
  have hn16 : 16 ≤ n := by rw [hn]; exact HTL.out.1
  have hnc : n ≤ 1000000 := by rw [hn]; exact HTL.out.2
  rw [← hn] at f4 G1 G2
  have sl1 : ∀ W, (Instr.slice 46 (.slice ta n tc) (some (.int .i64 16)) none none).run Tryz.prog W = .ok (.slice (if tc = 16 then ta else ta.map (·.add 16)) (n - 16) (tc - 16)) W := slice_from ta n tc 16 hn16
  obtain ⟨dp, hdp⟩ : ∃ dp, dp = (if tc = 16 then ta else ta.map (·.add 16)) := ⟨_, rfl⟩
  rw [← hdp] at sl1
  have HDP := hide hdp
  have HN9 := hide hn
  clear M1 K1 N1 hdp hx1 hx2 hn
  go_wp2_with fail
  refine G1.out.mono ?_
  rintro e W2 ⟨rfl, bel2⟩
  have M2 := HM1.out.1.next bel2
  obtain ⟨⟨_, _, f4', _, f7'⟩, _, _, _⟩ := M2.facts
  rw [← HN9.out] at f4'
  have G3 := hide (G2.out W2 bel2)
  have HB2 := hide bel2
  clear M2 G2 bel2
  go_wp2_with fail
  refine G3.out.mono ?_
  rintro e W3 ⟨rfl, bel3⟩
  have B3 := below_then HB2.out bel3
  have M3 := HM1.out.1.next B3
  have I3 := M3.rk.text.from 16 HTL.out.1
  rw [← HDP.out, ← HN9.out] at I3
  have hsub : ∀ x ∈ own (.slice dp (n - 16) (tc - 16)), x ∈ own (.slice ta (st).text.length tc) := fun x hx => by
    rw [HDP.out] at hx
    cases ta with
    | none => split at hx <;> simp [own, Value.ownBlock] at hx
    | some ta => split at hx <;> simpa [own, Value.ownBlock, Addr.add] using hx
  have hne : (st).text ≠ [] := fun e => by have := HTL.out.1; rw [e] at this; simp at this
  obtain ⟨M4, K4⟩ := M3.cut (by omega) I3 (fun _ x hx => ⟨M3.rk.tfd hne x (hsub x hx), fun e => M3.rk.qt hne (e ▸ hsub x hx)⟩)
  obtain ⟨⟨_, _, f4'', _, f7''⟩, _, _, _⟩ := M3.facts
  rw [← HN9.out] at f4''
  obtain ⟨_, g0, g1, g2⟩ := M4.facts
  have HM4 := hide (And.intro M4 (And.intro K4 (And.intro hsub (And.intro hne B3))))
  clear M3 M4 K4 hsub hne I3 B3 bel3
  go_wp2
  obtain ⟨m1, k1, n1⟩ := HM1.out
  obtain ⟨m4, k4, hsub, hne, bel3⟩ := HM4.out
  obtain ⟨r1, r2⟩ := m4.boxed (.int .u64 x1) (.int .u64 x2)
  refine bodyPost_ret (nextRes _ _ w.heap.size x1 x2 rfl r1 r2) rfl ?_
  have hin : ∀ x ∈ rfp fd q (.slice dp (n - 16) (tc - 16)) ((st).text.drop 16), x ∈ rfp fd q (.slice ta (st).text.length tc) (st).text := fun x hx => by
    rcases rfp_mem.1 hx with hx | hx | ⟨_, hx⟩
    · exact rfp_mem.2 (.inl hx)
    · exact rfp_mem.2 (.inr (.inl hx))
    · exact rfp_mem.2 (.inr (.inr ⟨hne, hsub x hx⟩))
  have k3 := (k1.trans (Kept.of_below (fp := []) bel3) (fun _ hx => by simp at hx)).trans k4 n1
  obtain ⟨t1, t2⟩ := m4.told k3 (.int .u64 x1) (.int .u64 x2) (fun e => HQL.out.1 (hin _ e))
  exact ⟨by rw [HX.out]; rfl, fd, _, t1, t2, fun x hx => n1 x (hin x hx)⟩

set_option maxRecDepth 100000 in
set_option maxHeartbeats 4000000 in
/-- The next block is wrong. -/
theorem nextA_bad (h : RkA w fd tv p q A nm c st) (he : st.err = 0) (ht : st.text = []) (ha : st.at_ < c.length) (HLD : ∀ W, Below w.heap.size w W → Calls Tryz.prog 66 #[.pointer (some ⟨q, 0, none⟩)] W fun e w' => e = .returned (.int .i64 (loadD D st).2) ∧ RkX W w' (rfp fd q tv []) p q B nm c (loadD D st).1) (hz : (loadSD D st).text = []) : Calls Tryz.prog 36 #[.pointer (some ⟨q, 0, none⟩)] w fun e w' => e = .returned (.tuple #[.agg #[.int .u64 0, .int .u64 0], .bool false, .int .i64 (loadSD D st).err]) ∧ RkX w w' (rfp fd q tv st.text) p q B nm c (loadSD D st) := by
  have HT := hide hz
  clear hz
  obtain ⟨er, her⟩ : ∃ er, er = (loadSD D st).err := ⟨_, rfl⟩
  rw [← her]
  have HL := hide HLD
  obtain ⟨ta, tc, rfl, _⟩ := h.text.form
  have M := NyM.start h
  have HLT := hide h.lt
  obtain ⟨⟨f2, f3, f4, f6, f7⟩, b0, b1, z0⟩ := M.facts
  have hB := hide ((Below.refl w.heap.size w).alloc (Nat.le_refl _) (.cells #[.int .u64 0, .int .u64 0] 52))
  have HM := hide M
  have HT0 := hide ht
  rw [ht] at f4
  simp only [List.length_nil] at f4
  rw [he] at f6
  obtain ⟨N9, hN⟩ : ∃ N, N = c.length := ⟨_, rfl⟩
  obtain ⟨a9, ha9⟩ : ∃ a, a = st.at_ := ⟨_, rfl⟩
  rw [← hN] at f2
  rw [← ha9] at f3
  have haN : (a9 : Int) < (N9 : Int) := by omega
  clear M h ht he hN ha9 ha
  go_enter Tryz.func36, Tryz.ntmps36
  go_wp2
  go_quiet (fail)
  go_wp2_with fail
  refine (HL.out _ (hB.out.trans (below_drewN _ _ |>.mono (by simp)))).mono ?_
  rintro e w2 ⟨rfl, fd2, tv2, E2, K2, N2⟩
  obtain ⟨ta2, tc2, rfl, _⟩ := E2.text.form
  have hbx : w2.heap[w.heap.size]? = some (.cells #[.int .u64 0, .int .u64 0] 52 (0, 0)) := K2.heap9 (by simpa using HM.out.box) (fun e => by have := HLT.out _ (rfp_nil st.text e); omega)
  have e6 := E2.cellAt.2.2.2.2.2.2.1
  have e7 := E2.cellAt.2.2.2.2.2.2.2
  have HQL : Hid (w.heap.size ∉ rfp fd2 q (.slice ta2 (loadD D st).1.text.length tc2) (loadD D st).1.text ∧ q < w.heap.size) := ⟨fun e => by
    rcases N2 _ e with e | e
    · have := HLT.out _ (rfp_nil st.text e); omega
    · have e2 : (w.alloc (.cells #[.int .u64 0, .int .u64 0] 52)).heap.size ≤ w.heap.size := e
      rw [World.size_alloc] at e2
      omega, HLT.out q (rfp_mem.2 (.inr (.inl rfl)))⟩
  have e4 : w2.cell? ⟨q, 4, none⟩ = some (.slice ta2 0 tc2) := by
    have h4 := E2.cellAt.2.2.2.2.1
    rw [show (loadD D st).1.text = [] from HT.out] at h4
    exact h4
  rw [show (loadD D st).2 = er from her.symm]
  have HER := hide her
  have HE2 := hide (And.intro E2 (And.intro K2 (And.intro N2 hbx)))
  clear E2 K2 N2 hbx HL her f2 f3 f4 f6 f7 b0 b1 z0
  go_wp2_with fail
  have W1s : True := trivial
  obtain ⟨E2, K2, N2, hbx⟩ := HE2.out
  obtain ⟨W1, hW1⟩ : ∃ W1, W1 = w2.setCell ⟨q, 6, none⟩ (.int .i64 er) := ⟨_, rfl⟩
  have ks : Kept [q] w2 W1 := by rw [hW1]; exact (Kept.refl _ w2).setCell (.inl (by simp)) _
  have hcs := heap_setCell E2.cells 6 (.int .i64 er)
  rw [← hW1] at hcs ⊢
  have hne9 : (loadD D st).1.text ≠ [] → ∀ x ∈ own (.slice ta2 (loadD D st).1.text.length tc2), x ∉ fd2 ∧ x ≠ q := fun h0 x hx => ⟨E2.tfd h0 x hx, fun e => E2.qt h0 (e ▸ hx)⟩
  obtain ⟨E3, K3⟩ := E2.turn (tv' := .slice ta2 (loadD D st).1.text.length tc2) (st' := loadSD D st) ks (by have h9 := HER.out; simp only [loadSD] at h9 ⊢; rw [← h9]; simpa [rcells] using hcs) E2.text E2.at_le hne9
  have M1 : NyM w W1 fd2 (.slice ta2 (loadSD D st).text.length tc2) p q B nm c (loadSD D st) := ⟨E3, ks.heap9 hbx (by have := HQL.out.2; simp; omega)⟩
  have hsu : ∀ x ∈ rfp fd q (.slice ta st.text.length tc) [], x ∈ rfp fd q (.slice ta st.text.length tc) st.text := fun x hx => rfp_nil st.text hx
  have K0 : Kept (rfp fd q (.slice ta st.text.length tc) st.text) w w2 := (((Kept.refl _ w).alloc _).drewN _).trans (K2.mono hsu) (Newly.refl _ _)
  have N1 : Newly w (rfp fd q (.slice ta st.text.length tc) st.text) (rfp fd2 q (.slice ta2 (loadSD D st).text.length tc2) (loadSD D st).text) := fun x hx => by
    rcases N2 x hx with e | e
    · exact .inl (hsu x e)
    · have e2 : (w.alloc (.cells #[.int .u64 0, .int .u64 0] 52)).heap.size ≤ x := e
      rw [World.size_alloc] at e2
      exact .inr (by omega)
  have K1 : Kept (rfp fd q (.slice ta st.text.length tc) st.text) w W1 := K0.trans K3 N1
  clear E2 K2 N2 hbx ks hcs hne9 E3 K3 hsu K0 hW1 HE2 e4 e6 e7 W1s
  obtain ⟨ta, tc, hta, htc⟩ : ∃ a b, a = ta2 ∧ b = tc2 := ⟨_, _, rfl, rfl⟩
  subst hta
  subst htc
  obtain ⟨⟨f2, f3, f4, f6, f7⟩, b0, b1, z0⟩ := M1.facts
  rw [HT.out] at f4
  simp only [List.length_nil] at f4
  rw [← HER.out] at f6
  have hqn : q ≠ w.heap.size := by have := HQL.out.2; omega
  have HM1 := hide (And.intro M1 (And.intro K1 N1))
  have g6 : W1.drew.cell? ⟨q, 6, none⟩ = some (.int .i64 er) := f6
  have g0 : W1.drew.cell? ⟨w.heap.size, 0, none⟩ = some (.int .u64 0) := b0
  have g1 : W1.drew.cell? ⟨w.heap.size, 1, none⟩ = some (.int .u64 0) := b1
  have z1 : ∀ o, W1.drew.frozen? ⟨w.heap.size, o, none⟩ = false := z0
  clear M1 K1 N1
  go_wp2
  go_region_held (fun W => W.cell? ⟨q, 6, none⟩ = some (.int .i64 er)) (first | assumption | exact cell_set9 (by assumption) hqn) (fail)
  all_goals
    go_wp2
    obtain ⟨m1, k1, n1⟩ := HM1.out
    obtain ⟨r1, r2⟩ := (m1.next (Below.refl _ W1).drew).boxed (.int .u64 0) (.int .u64 0)
    refine bodyPost_ret (nextRes _ _ w.heap.size 0 0 rfl r1 r2) rfl ?_
    obtain ⟨t1, t2⟩ := (m1.next (Below.refl _ W1).drew).told k1.drew (.int .u64 0) (.int .u64 0) HQL.out.1
    exact ⟨rfl, fd2, _, t1, t2, n1⟩

set_option maxRecDepth 100000 in
set_option maxHeartbeats 4000000 in
/-- The next block. -/
theorem nextA_block (h : RkA w fd tv p q A nm c st) (he : st.err = 0) (ht : st.text = []) (ha : st.at_ < c.length) (HLD : ∀ W, Below w.heap.size w W → Calls Tryz.prog 66 #[.pointer (some ⟨q, 0, none⟩)] W fun e w' => e = .returned (.int .i64 (loadD D st).2) ∧ RkX W w' (rfp fd q tv []) p q B nm c (loadD D st).1) (hz : 16 ≤ (loadSD D st).text.length) (hzl : (loadSD D st).text.length ≤ 1000000) : Calls Tryz.prog 36 #[.pointer (some ⟨q, 0, none⟩)] w fun e w' => e = .returned (.tuple #[valR (recAt (loadSD D st).text), .bool true, .int .i64 0]) ∧ RkX w w' (rfp fd q tv st.text) p q B nm c { (loadSD D st) with text := (loadSD D st).text.drop 16 } := by
  have HTL : Hid (16 ≤ (loadSD D st).text.length ∧ (loadSD D st).text.length ≤ 1000000) := ⟨hz, hzl⟩
  clear hz hzl
  obtain ⟨er, her⟩ : ∃ er, er = (loadSD D st).err := ⟨_, rfl⟩
  have HL := hide HLD
  obtain ⟨ta, tc, rfl, _⟩ := h.text.form
  have M := NyM.start h
  have HLT := hide h.lt
  obtain ⟨⟨f2, f3, f4, f6, f7⟩, b0, b1, z0⟩ := M.facts
  have hB := hide ((Below.refl w.heap.size w).alloc (Nat.le_refl _) (.cells #[.int .u64 0, .int .u64 0] 52))
  have HM := hide M
  have HT0 := hide ht
  rw [ht] at f4
  simp only [List.length_nil] at f4
  rw [he] at f6
  obtain ⟨N9, hN⟩ : ∃ N, N = c.length := ⟨_, rfl⟩
  obtain ⟨a9, ha9⟩ : ∃ a, a = st.at_ := ⟨_, rfl⟩
  rw [← hN] at f2
  rw [← ha9] at f3
  have haN : (a9 : Int) < (N9 : Int) := by omega
  clear M h ht he hN ha9 ha
  go_enter Tryz.func36, Tryz.ntmps36
  go_wp2
  go_quiet (fail)
  go_wp2_with fail
  refine (HL.out _ (hB.out.trans (below_drewN _ _ |>.mono (by simp)))).mono ?_
  rintro e w2 ⟨rfl, fd2, tv2, E2, K2, N2⟩
  obtain ⟨ta2, tc2, rfl, _⟩ := E2.text.form
  have hbx : w2.heap[w.heap.size]? = some (.cells #[.int .u64 0, .int .u64 0] 52 (0, 0)) := K2.heap9 (by simpa using HM.out.box) (fun e => by have := HLT.out _ (rfp_nil st.text e); omega)
  have e6 := E2.cellAt.2.2.2.2.2.2.1
  have e7 := E2.cellAt.2.2.2.2.2.2.2
  have HQL : Hid (w.heap.size ∉ rfp fd2 q (.slice ta2 (loadD D st).1.text.length tc2) (loadD D st).1.text ∧ q < w.heap.size) := ⟨fun e => by
    rcases N2 _ e with e | e
    · have := HLT.out _ (rfp_nil st.text e); omega
    · have e2 : (w.alloc (.cells #[.int .u64 0, .int .u64 0] 52)).heap.size ≤ w.heap.size := e
      rw [World.size_alloc] at e2
      omega, HLT.out q (rfp_mem.2 (.inr (.inl rfl)))⟩
  obtain ⟨n, hn8⟩ : ∃ n, n = (loadSD D st).text.length := ⟨_, rfl⟩
  have e4 : w2.cell? ⟨q, 4, none⟩ = some (.slice ta2 n tc2) := by
    have h4 := E2.cellAt.2.2.2.2.1
    rw [show (loadD D st).1.text.length = n from hn8.symm] at h4
    exact h4
  have hp8 : ¬ n = 0 := by rw [hn8]; have := HTL.out.1; omega
  have hp9 : ¬ (n : Int) = 0 := by omega
  have HN8 := hide hn8
  clear hn8
  rw [show (loadD D st).2 = er from her.symm]
  have HER := hide her
  have HE2 := hide (And.intro E2 (And.intro K2 (And.intro N2 hbx)))
  clear E2 K2 N2 hbx HL her f2 f3 f4 f6 f7 b0 b1 z0
  go_wp2_with fail
  have W1s : True := trivial
  obtain ⟨E2, K2, N2, hbx⟩ := HE2.out
  obtain ⟨W1, hW1⟩ : ∃ W1, W1 = w2.setCell ⟨q, 6, none⟩ (.int .i64 er) := ⟨_, rfl⟩
  have ks : Kept [q] w2 W1 := by rw [hW1]; exact (Kept.refl _ w2).setCell (.inl (by simp)) _
  have hcs := heap_setCell E2.cells 6 (.int .i64 er)
  rw [← hW1] at hcs ⊢
  have hne9 : (loadD D st).1.text ≠ [] → ∀ x ∈ own (.slice ta2 (loadD D st).1.text.length tc2), x ∉ fd2 ∧ x ≠ q := fun h0 x hx => ⟨E2.tfd h0 x hx, fun e => E2.qt h0 (e ▸ hx)⟩
  obtain ⟨E3, K3⟩ := E2.turn (tv' := .slice ta2 (loadD D st).1.text.length tc2) (st' := loadSD D st) ks (by have h9 := HER.out; simp only [loadSD] at h9 ⊢; rw [← h9]; simpa [rcells] using hcs) E2.text E2.at_le hne9
  have M1 : NyM w W1 fd2 (.slice ta2 (loadSD D st).text.length tc2) p q B nm c (loadSD D st) := ⟨E3, ks.heap9 hbx (by have := HQL.out.2; simp; omega)⟩
  have hsu : ∀ x ∈ rfp fd q (.slice ta st.text.length tc) [], x ∈ rfp fd q (.slice ta st.text.length tc) st.text := fun x hx => rfp_nil st.text hx
  have K0 : Kept (rfp fd q (.slice ta st.text.length tc) st.text) w w2 := (((Kept.refl _ w).alloc _).drewN _).trans (K2.mono hsu) (Newly.refl _ _)
  have N1 : Newly w (rfp fd q (.slice ta st.text.length tc) st.text) (rfp fd2 q (.slice ta2 (loadSD D st).text.length tc2) (loadSD D st).text) := fun x hx => by
    rcases N2 x hx with e | e
    · exact .inl (hsu x e)
    · have e2 : (w.alloc (.cells #[.int .u64 0, .int .u64 0] 52)).heap.size ≤ x := e
      rw [World.size_alloc] at e2
      exact .inr (by omega)
  have K1 : Kept (rfp fd q (.slice ta st.text.length tc) st.text) w W1 := K0.trans K3 N1
  clear E2 K2 N2 hbx ks hcs hne9 E3 K3 hsu K0 hW1 HE2 e4 e6 e7 W1s
  obtain ⟨ta, tc, hta, htc⟩ : ∃ a b, a = ta2 ∧ b = tc2 := ⟨_, _, rfl, rfl⟩
  subst hta
  subst htc
  obtain ⟨⟨f2, f3, f4, f6, f7⟩, b0, b1, z0⟩ := M1.facts
  have hqn : q ≠ w.heap.size := by have := HQL.out.2; omega
  have G1 := hide (get_yes _ _ 0 8 W1 M1.rk.text (by have := HTL.out; omega) (by omega) (by omega) (by have := HTL.out; omega))
  have G2 := hide (fun (W : World) (b : Below W1.heap.size W1 W) => get_yes _ _ 8 8 W (M1.rk.text.below b) (by have := HTL.out; omega) (by omega) (by omega) (by have := HTL.out; omega))
  rw [List.drop_zero] at G1
  obtain ⟨x1, hx1⟩ : ∃ x, x = valB 256 (((loadSD D st)).text.take 8) := ⟨_, rfl⟩
  obtain ⟨x2, hx2⟩ : ∃ x, x = valB 256 ((((loadSD D st)).text.drop 8).take 8) := ⟨_, rfl⟩
  rw [← hx1] at G1
  rw [← hx2] at G2
  have HX : Hid (recAt ((loadSD D st)).text = (x1, x2)) := by show _ = _; rw [recAt, hx1, hx2]
  have HM1 := hide (And.intro M1 (And.intro K1 N1))
  have hn := HN8.out
  have hn16 : 16 ≤ n := by rw [hn]; exact HTL.out.1
  have hnc : n ≤ 1000000 := by rw [hn]; exact HTL.out.2
  rw [← hn] at f4 G1 G2
  have sl1 : ∀ W, (Instr.slice 46 (.slice ta n tc) (some (.int .i64 16)) none none).run Tryz.prog W = .ok (.slice (if tc = 16 then ta else ta.map (·.add 16)) (n - 16) (tc - 16)) W := slice_from ta n tc 16 hn16
  obtain ⟨dp, hdp⟩ : ∃ dp, dp = (if tc = 16 then ta else ta.map (·.add 16)) := ⟨_, rfl⟩
  rw [← hdp] at sl1
  have HDP := hide hdp
  have HN9 := hide hn
  clear M1 K1 N1 hdp hx1 hx2 hn
  go_wp2_with fail
  refine G1.out.mono ?_
  rintro e W2 ⟨rfl, bel2⟩
  have M2 := HM1.out.1.next bel2
  obtain ⟨⟨_, _, f4', _, f7'⟩, _, _, _⟩ := M2.facts
  rw [← HN9.out] at f4'
  have G3 := hide (G2.out W2 bel2)
  have HB2 := hide bel2
  clear M2 G2 bel2
  go_wp2_with fail
  refine G3.out.mono ?_
  rintro e W3 ⟨rfl, bel3⟩
  have B3 := below_then HB2.out bel3
  have M3 := HM1.out.1.next B3
  have I3 := M3.rk.text.from 16 HTL.out.1
  rw [← HDP.out, ← HN9.out] at I3
  have hsub : ∀ x ∈ own (.slice dp (n - 16) (tc - 16)), x ∈ own (.slice ta ((loadSD D st)).text.length tc) := fun x hx => by
    rw [HDP.out] at hx
    cases ta with
    | none => split at hx <;> simp [own, Value.ownBlock] at hx
    | some ta => split at hx <;> simpa [own, Value.ownBlock, Addr.add] using hx
  have hne : ((loadSD D st)).text ≠ [] := fun e => by have := HTL.out.1; rw [e] at this; simp at this
  obtain ⟨M4, K4⟩ := M3.cut (by omega) I3 (fun _ x hx => ⟨M3.rk.tfd hne x (hsub x hx), fun e => M3.rk.qt hne (e ▸ hsub x hx)⟩)
  obtain ⟨⟨_, _, f4'', _, f7''⟩, _, _, _⟩ := M3.facts
  rw [← HN9.out] at f4''
  obtain ⟨_, g0, g1, g2⟩ := M4.facts
  have HM4 := hide (And.intro M4 (And.intro K4 (And.intro hsub (And.intro hne B3))))
  clear M3 M4 K4 hsub hne I3 B3 bel3
  go_wp2
  obtain ⟨m1, k1, n1⟩ := HM1.out
  obtain ⟨m4, k4, hsub, hne, bel3⟩ := HM4.out
  obtain ⟨r1, r2⟩ := m4.boxed (.int .u64 x1) (.int .u64 x2)
  refine bodyPost_ret (nextRes _ _ w.heap.size x1 x2 rfl r1 r2) rfl ?_
  have hin : ∀ x ∈ rfp fd2 q (.slice dp (n - 16) (tc - 16)) (((loadSD D st)).text.drop 16), x ∈ rfp fd2 q (.slice ta ((loadSD D st)).text.length tc) ((loadSD D st)).text := fun x hx => by
    rcases rfp_mem.1 hx with hx | hx | ⟨_, hx⟩
    · exact rfp_mem.2 (.inl hx)
    · exact rfp_mem.2 (.inr (.inl hx))
    · exact rfp_mem.2 (.inr (.inr ⟨hne, hsub x hx⟩))
  have k3 := (k1.trans (Kept.of_below (fp := []) bel3) (fun _ hx => by simp at hx)).trans k4 n1
  obtain ⟨t1, t2⟩ := m4.told k3 (.int .u64 x1) (.int .u64 x2) (fun e => HQL.out.1 (hin _ e))
  exact ⟨by rw [HX.out]; rfl, fd2, _, t1, t2, fun x hx => n1 x (hin x hx)⟩

end


end Go.Proofs.YtgpbanjammipiaaGreatDoor

namespace Go.Proofs.YtgpbanjammipiaaGreatDoor
open Go.RowKit Go.Maps

/-- Operations that only read: at most m of them. -/
structure Red (m : Int) (A B : Dsk) : Prop where
  ops : A.2.ops ≤ B.2.ops ∧ B.2.ops ≤ A.2.ops + m
  up : B.2.down = false → B.1 = A.1 ∧ ∀ A0 E, Ext A0 A E → Ext A0 B E
  down : B.2.down = true → ∀ A0 E M, Ext A0 A E → (∀ x ∈ E, M x.1) → Cr A0 B M (usedB E)

theorem Red.refl {m : Int} (hm : 0 ≤ m) {A : Dsk} (h : A.2.down = false) : Red m A A := ⟨by omega, fun _ => ⟨rfl, fun _ _ h => h⟩, fun e => by rw [h] at e; exact absurd e (by simp)⟩

theorem Red.trans {m m' : Int} {A B C : Dsk} (h : Red m A B) (k : Red m' B C) (hB : B.2.down = false) : Red (m + m') A C := by
  obtain ⟨h1, h2, h3⟩ := h
  obtain ⟨k1, k2, k3⟩ := k
  obtain ⟨u1, u2⟩ := h2 hB
  exact ⟨by omega, fun e => ⟨(k2 e).1.trans u1, fun A0 E hE => (k2 e).2 A0 E (u2 A0 E hE)⟩, fun e A0 E M hE hM => k3 e A0 E M (u2 A0 E hE) hM⟩

theorem Red.mono {m m' : Int} {A B : Dsk} (h : Red m A B) (hm : m ≤ m') : Red m' A B := ⟨by have := h.ops; omega, h.up, h.down⟩

theorem red_bg {A : Dsk} (ho : okA A.1 A.2) (h : A.2.down = false) : Red 1 A (bg A) := by
  refine ⟨by rw [bg_ops]; omega, fun e => ⟨bg_up h e, fun A0 E hE => ?_⟩, fun e A0 E M hE hM => ?_⟩
  · rcases (hE.begin (M := fun _ => True) ho (fun _ _ => trivial)).2 with h1 | h1
    · exact h1.1
    · have e' : (beginA A.1 A.2).2.down = false := e
      rw [h1.down] at e'
      exact absurd e' (by simp)
  · rcases (hE.begin (M := M) ho hM).2 with h1 | h1
    · have e' : (beginA A.1 A.2).2.down = true := e
      rw [h1.2.2] at e'
      exact absurd e' (by simp)
    · exact h1

theorem nextA_red {A : Dsk} (ho : okA A.1 A.2) (h : A.2.down = false) (c : List Int) (a : Nat) : Red 2 A (nextA A c a).1 ∧ ((nextA A c a).1.2.down = true → (nextA A c a).2 = ([], 0, 7)) ∧ ((nextA A c a).1.2.down = false → (nextA A c a).2 = decB (c.drop a)) := by
  unfold nextA
  have r1 := red_bg ho h
  by_cases hb : (bg A).2.down = true
  · rw [if_pos hb]
    exact ⟨r1.mono (by omega), fun _ => rfl, fun e => by rw [hb] at e; exact absurd e (by simp)⟩
  · rw [if_neg hb]
    have hb' : (bg A).2.down = false := by simpa using hb
    split
    · have ho2 : okA (bg A).1 (bg A).2 := beginA_ok ho
      have r2 := r1.trans (red_bg ho2 hb') hb'
      by_cases hb2 : (bg (bg A)).2.down = true
      · rw [if_pos hb2]
        exact ⟨r2.mono (by omega), fun _ => rfl, fun e => by rw [hb2] at e; exact absurd e (by simp)⟩
      · rw [if_neg hb2]
        exact ⟨r2.mono (by omega), fun e => absurd e hb2, fun _ => rfl⟩
    · exact ⟨r1.mono (by omega), fun e => absurd e hb, fun _ => rfl⟩

/-- What Next tells, and leaves: x, b, e' are told; rs, er what was to be told. -/
def NextP9 (w : World) (fp : List Nat) (p q : Nat) (A : Dsk) (nm : ByteArray) (c : List Int) (rs : List Rc) (er : Int) (e : Ending) (w' : World) : Prop :=
  ∃ B x b e' st, e = .returned (.tuple #[valR x, .bool b, .int .i64 e']) ∧ RkX w w' fp p q B nm c st ∧ Red 2 A B ∧
    ((B.2.down = false ∧ ∃ rs', rs = x :: rs' ∧ b = true ∧ e' = 0 ∧ Wil c st rs' er) ∨
     (B.2.down = false ∧ rs = [] ∧ x = (0, 0) ∧ b = false ∧ e' = er ∧ Wil c st [] er) ∨
     (B.2.down = true ∧ x = (0, 0) ∧ b = false ∧ e' = 7))

section
variable {w : World} {fd : List Nat} {tv : Value} {p q : Nat} {A : Dsk} {nm : ByteArray} {c : List Int} {st : Rst}

/-- Next. -/
theorem nextA_any (h : RkA w fd tv p q A nm c st) (hup : A.2.down = false) {rs : List Rc} {er : Int} (hw : Wil c st rs er) (hk : A.2.ops ≤ 999998) (hnm : nm.size ≤ maxLen) :
    Calls Tryz.prog 36 #[.pointer (some ⟨q, 0, none⟩)] w (NextP9 w (rfp fd q tv st.text) p q A nm c rs er) := by
  obtain ⟨hw, hl⟩ := hw
  have ho := h.disk.ok
  by_cases ht : st.text = []
  · by_cases he : st.err = 0
    · by_cases ha : st.at_ < c.length
      · obtain ⟨rd, n1, n2⟩ := nextA_red ho hup c st.at_
        obtain ⟨B, hB⟩ : ∃ B, B = (nextA A c st.at_).1 := ⟨_, rfl⟩
        obtain ⟨D, hD⟩ : ∃ D, D = (nextA A c st.at_).2 := ⟨_, rfl⟩
        have LD : ∀ W, Below w.heap.size w W → Calls Tryz.prog 66 #[.pointer (some ⟨q, 0, none⟩)] W fun e w' => e = .returned (.int .i64 (loadD D st).2) ∧ RkX W w' (rfp fd q tv []) p q B nm c (loadD D st).1 := fun W hb => by
          have NX := rnextA_any (h.below hb) hup hk hnm
          rw [← hB, ← hD] at NX
          refine loadA_any (h.below hb) ht NX (fun h0 => ?_)
          have hup2 : (nextA A c st.at_).1.2.down = false := by
            cases e : (nextA A c st.at_).1.2.down with
            | false => rfl
            | true =>
              rw [hD, n1 e] at h0
              simp at h0
          have e2 := n2 hup2
          rw [← hD] at e2
          rw [e2] at h0 ⊢
          have hp := decB_pos (c.drop st.at_) h0
          rw [List.length_drop] at hp
          exact hp
        rw [← hB] at rd
        by_cases hdn : B.2.down = true
        · have e1 : D = ([], 0, 7) := by rw [hD]; exact n1 (by rw [← hB]; exact hdn)
          subst e1
          refine (nextA_bad h he ht ha LD (by simp [loadSD, loadD, ht])).mono ?_
          rintro e w' ⟨rfl, o⟩
          exact ⟨B, (0, 0), false, 7, _, rfl, o, rd, .inr (.inr ⟨hdn, rfl, rfl, rfl⟩)⟩
        · have hdn' : B.2.down = false := by simpa using hdn
          have e1 : D = decB (c.drop st.at_) := by rw [hD]; exact n2 (by rw [← hB]; exact hdn')
          have els : loadSD D st = loadS c st := by rw [e1]; rfl
          have hw2 := will_load hw he ht ha
          obtain ⟨t1, t2, t3⟩ := loadS_text (c := c) ht
          by_cases hz : (loadS c st).text = []
          · obtain ⟨e2, e3⟩ := will_empty hw2 hz (.inl (t1 hz))
            refine (nextA_bad h he ht ha LD (by rw [els]; exact hz)).mono ?_
            rintro e w' ⟨rfl, o⟩
            rw [els] at o ⊢
            exact ⟨B, (0, 0), false, er, _, by rw [e3]; rfl, o, rd, .inr (.inl ⟨hdn', e2, rfl, rfl, rfl, by rw [← e2]; exact hw2, t3⟩)⟩
          · obtain ⟨rs', e2, e3, e4, _⟩ := will_next hw2 hz
            refine (nextA_block h he ht ha LD (by rw [els]; exact t2 hz) (by rw [els]; omega)).mono ?_
            rintro e w' ⟨rfl, o⟩
            rw [els] at o ⊢
            exact ⟨B, _, true, 0, _, rfl, o, rd, .inl ⟨hdn', rs', e2, rfl, rfl, e3, by dsimp only; rw [List.length_drop]; omega⟩⟩
      · obtain ⟨e2, e3⟩ := will_empty hw ht (.inr (by omega))
        refine (nextA_end h he ht (by omega)).mono ?_
        rintro e w' ⟨rfl, o⟩
        exact ⟨A, (0, 0), false, er, _, by rw [e3]; rfl, o, Red.refl (by omega) hup, .inr (.inl ⟨hup, e2, rfl, rfl, rfl, by rw [← e2]; exact hw, hl⟩)⟩
    · obtain ⟨e2, e3⟩ := will_empty hw ht (.inl he)
      refine (nextA_err h he ht).mono ?_
      rintro e w' ⟨rfl, o⟩
      exact ⟨A, (0, 0), false, er, _, by rw [e3]; rfl, o, Red.refl (by omega) hup, .inr (.inl ⟨hup, e2, rfl, rfl, rfl, by rw [← e2]; exact hw, hl⟩)⟩
  · obtain ⟨rs', e1, e2, e3, e4⟩ := will_next hw ht
    refine (nextA_text h e4 e3 (by omega)).mono ?_
    rintro e w' ⟨rfl, o⟩
    exact ⟨A, _, true, 0, _, rfl, o, Red.refl (by omega) hup, .inl ⟨hup, rs', e1, rfl, rfl, e2, by dsimp only; rw [List.length_drop]; omega⟩⟩

set_option maxRecDepth 100000 in
set_option maxHeartbeats 4000000 in
/-- NewReader of a file that there is. -/
theorem newReaderA_go (h : Dk w fd p A.1 A.2) (hup : (bg A).2.down = false) (hk : A.2.ops ≤ 999998) (hnm : nm.size ≤ maxLen) {x : Ab} (hx : lookA (bg A).1 nm.data.toList = some x) (hlen : x.2.1.length ≤ 1000000000) :
    Calls Tryz.prog 31 #[.pointer (some ⟨p, 0, none⟩), .string nm] w fun e w' => ∃ q, e = .returned (.tuple #[.pointer (some ⟨q, 0, none⟩), .int .i64 0]) ∧ RkX w w' fd p q (bg A) nm x.2.1 rst0 ∧ w.heap.size ≤ q := by
  have SZ := h.size (by omega) nm hnm
  have e1 : errA (bg A) nm.data.toList = none := by
    unfold errA
    rw [if_neg (by simp [hup]), hx]
  have e2 : sizeA (bg A) nm.data.toList = ((x.2.1.length : Int), 0) := by
    unfold sizeA
    rw [e1]
    dsimp only
    rw [hx]
  rw [show beginA A.1 A.2 = bg A from rfl, e2] at SZ
  have HS := hide SZ
  obtain ⟨c, hc⟩ : ∃ c, c = x.2.1 := ⟨_, rfl⟩
  have HX : Hid (∃ x, lookA (bg A).1 nm.data.toList = some x ∧ c <+: x.2.1) := ⟨x, hx, by rw [hc]; exact List.prefix_refl _⟩
  rw [← hc] at HS hlen ⊢
  have HL := hide hlen
  clear SZ e1 e2 h hc hx hlen hup
  go_enter Tryz.func31, Tryz.ntmps31
  go_wp2_with fail
  refine HS.out.mono ?_
  rintro e w1 ⟨rfl, fd1, d1, k1, n1⟩
  go_wp2
  go_ret2
  have hlt := d1.lt
  have hb : Below w1.heap.size w1 (w1.alloc (.cells #[.pointer (some ⟨p, 0, none⟩), .string nm, .int .i64 (c.length : Int), .int .i64 0, .slice none 0 0, .bool false, .int .i64 0] 105)) := (Below.refl _ w1).alloc (Nat.le_refl _) _
  refine ⟨w1.heap.size, rfl, ⟨fd1, .slice none 0 0, ⟨d1.below hb, fun _ => HX.out, heap_alloc_new w1 _, IsB.nil _, Nat.zero_le _, HL.out, fun e => by have := hlt _ e; omega, fun h => absurd rfl h, fun h => absurd rfl h⟩, k1.alloc _, fun y hy => ?_⟩, k1.size⟩
  rcases rfp_mem.1 hy with hy | rfl | ⟨h0, _⟩
  · exact n1 y hy
  · exact .inr k1.size
  · exact absurd rfl h0

set_option maxRecDepth 100000 in
set_option maxHeartbeats 4000000 in
/-- NewReader, with an error. -/
theorem newReaderA_no (h : Dk w fd p A.1 A.2) (hk : A.2.ops ≤ 999998) (hnm : nm.size ≤ maxLen) {k : Int} (hx : errA (bg A) nm.data.toList = some k) :
    Calls Tryz.prog 31 #[.pointer (some ⟨p, 0, none⟩), .string nm] w fun e w' => e = .returned (.tuple #[.pointer none, .int .i64 k]) ∧ Outc w w' fd p (bg A) := by
  have SZ := h.size (by omega) nm hnm
  have e2 : sizeA (bg A) nm.data.toList = (0, k) := by
    unfold sizeA
    rw [hx]
  rw [show beginA A.1 A.2 = bg A from rfl, e2] at SZ
  have HS := hide SZ
  have hk0 : ¬ k = 0 := by rcases errA_ne hx with h | h <;> omega
  have hkb : (k == 0) = false := by simpa using hk0
  clear SZ e2 h hx
  go_enter Tryz.func31, Tryz.ntmps31
  go_wp2_with fail
  refine HS.out.mono ?_
  rintro e w1 ⟨rfl, o1⟩
  go_wp2
  go_ret2
  exact ⟨rfl, o1⟩
end

end Go.Proofs.YtgpbanjammipiaaGreatDoor
