/-
  Lemma texts, one behind the other: INext3, IRd, IRdL. No statement of the seat is proved here.
-/
import Derived.Test.YtgpbanjammipiaaGreatDoorGAI
import Derived.Test.YtgpbanjammipiaaGreatDoorGAG
import Derived.Test.YtgpbanjammipiaaGreatDoorGAC
namespace Go.Proofs.YtgpbanjammipiaaGreatDoor
open Go.RowKit Go.Maps

section
variable {w : World} {fd : List Nat} {tv : Value} {p q : Nat} {l : List Ab} {R U k : Int} {nm : ByteArray} {c : List Int} {st : Rst}

set_option maxRecDepth 100000 in
set_option maxHeartbeats 4000000 in
/-- An error stays. -/
theorem next_err (h : RkE w fd tv p q l R U k nm c st) (he : st.err ≠ 0) (ht : st.text = []) : Calls Tryz.prog 36 #[.pointer (some ⟨q, 0, none⟩)] w fun e w' => e = .returned (.tuple #[.agg #[.int .u64 0, .int .u64 0], .bool false, .int .i64 st.err]) ∧ RkO w w' (rfp fd q tv st.text) p q l R U k 2 nm c st := by
  obtain ⟨ta, tc, rfl, _⟩ := h.text.form
  have M := NxM.start h
  have HLT := hide h.lt
  obtain ⟨⟨f2, f3, f4, f6, f7⟩, b0, b1, z0⟩ := M.facts
  have HM := hide M
  rw [ht] at f4
  simp only [List.length_nil] at f4
  obtain ⟨er, her⟩ : ∃ er, er = st.err := ⟨_, rfl⟩
  rw [← her] at f6 he ⊢
  have he' : (er == 0) = false := by simpa using he
  have HER := hide her
  have HT := hide ht
  clear her ht
  clear M h
  go_enter Tryz.func36, Tryz.ntmps36
  go_wp2
  go_quiet (fail)
  obtain ⟨W1, hW1⟩ : ∃ W1, W1 = (w.alloc (.cells #[.int .u64 0, .int .u64 0] 52)).drewN nq := ⟨_, rfl⟩
  have M1 : NxM w W1 fd (.slice ta st.text.length tc) p q l R U k nm c st := by rw [hW1]; exact HM.out.next (below_drewN _ _)
  have K1 : Kept (rfp fd q (.slice ta st.text.length tc) st.text) w W1 := by rw [hW1]; exact ((Kept.refl _ w).alloc _).drewN _
  have N1 : Newly w (rfp fd q (.slice ta st.text.length tc) st.text) (rfp fd q (.slice ta st.text.length tc) st.text) := Newly.refl _ _
  have hkk : k ≤ k ∧ k ≤ k + 2 := by omega
  have HQL : Hid (w.heap.size ∉ rfp fd q (.slice ta st.text.length tc) st.text ∧ q < w.heap.size) := ⟨fun e => by have := HLT.out _ e; omega, HLT.out q (rfp_mem.2 (.inr (.inl rfl)))⟩
  rw [← hW1]
  clear f2 f3 f4 f6 f7 b0 b1 z0 hW1 HM HLT
  obtain ⟨⟨f2, f3, f4, f6, f7⟩, b0, b1, z0⟩ := M1.facts
  rw [HT.out] at f4
  simp only [List.length_nil] at f4
  rw [← HER.out] at f6
  have hqn : q ≠ w.heap.size := by have := HQL.out.2; omega
  have HM1 := hide (And.intro M1 (And.intro K1 (And.intro N1 hkk)))
  have g6 : W1.drew.cell? ⟨q, 6, none⟩ = some (.int .i64 er) := f6
  have g0 : W1.drew.cell? ⟨w.heap.size, 0, none⟩ = some (.int .u64 0) := b0
  have g1 : W1.drew.cell? ⟨w.heap.size, 1, none⟩ = some (.int .u64 0) := b1
  have z1 : ∀ o, W1.drew.frozen? ⟨w.heap.size, o, none⟩ = false := z0
  clear M1 K1 N1 hkk
  go_wp2
  go_region_held (fun W => W.cell? ⟨q, 6, none⟩ = some (.int .i64 er)) (first | assumption | exact cell_set9 (by assumption) hqn) (fail)
  all_goals
    go_wp2
    obtain ⟨m1, k1, n1, kk1, kk2⟩ := HM1.out
    obtain ⟨r1, r2⟩ := (m1.next (Below.refl _ W1).drew).boxed (.int .u64 0) (.int .u64 0)
    refine bodyPost_ret (nextRes _ _ w.heap.size 0 0 rfl r1 r2) rfl ?_
    obtain ⟨t1, t2⟩ := (m1.next (Below.refl _ W1).drew).told k1.drew (.int .u64 0) (.int .u64 0) HQL.out.1
    exact ⟨rfl, fd, _, k, t1, kk1, kk2, t2, n1⟩

set_option maxRecDepth 100000 in
set_option maxHeartbeats 4000000 in
/-- No more. -/
theorem next_end (h : RkE w fd tv p q l R U k nm c st) (he : st.err = 0) (ht : st.text = []) (ha : c.length ≤ st.at_) : Calls Tryz.prog 36 #[.pointer (some ⟨q, 0, none⟩)] w fun e w' => e = .returned (.tuple #[.agg #[.int .u64 0, .int .u64 0], .bool false, .int .i64 st.err]) ∧ RkO w w' (rfp fd q tv st.text) p q l R U k 2 nm c st := by
  obtain ⟨ta, tc, rfl, _⟩ := h.text.form
  have M := NxM.start h
  have HLT := hide h.lt
  obtain ⟨⟨f2, f3, f4, f6, f7⟩, b0, b1, z0⟩ := M.facts
  have HM := hide M
  rw [ht] at f4
  simp only [List.length_nil] at f4
  obtain ⟨er, her⟩ : ∃ er, er = st.err := ⟨_, rfl⟩
  have her0 : er = 0 := her.trans he
  rw [he] at f6
  rw [← her, her0]
  have HER : Hid (0 = st.err) := he.symm
  have HT := hide ht
  obtain ⟨N9, hN⟩ : ∃ N, N = c.length := ⟨_, rfl⟩
  obtain ⟨a9, ha9⟩ : ∃ a, a = st.at_ := ⟨_, rfl⟩
  rw [← hN] at f2
  rw [← ha9] at f3
  have haN : ¬ (a9 : Int) < (N9 : Int) := by omega
  clear ht hN ha9 ha her her0 he
  clear M h
  go_enter Tryz.func36, Tryz.ntmps36
  go_wp2
  go_quiet (fail)
  obtain ⟨W1, hW1⟩ : ∃ W1, W1 = (w.alloc (.cells #[.int .u64 0, .int .u64 0] 52)).drewN nq := ⟨_, rfl⟩
  have M1 : NxM w W1 fd (.slice ta st.text.length tc) p q l R U k nm c st := by rw [hW1]; exact HM.out.next (below_drewN _ _)
  have K1 : Kept (rfp fd q (.slice ta st.text.length tc) st.text) w W1 := by rw [hW1]; exact ((Kept.refl _ w).alloc _).drewN _
  have N1 : Newly w (rfp fd q (.slice ta st.text.length tc) st.text) (rfp fd q (.slice ta st.text.length tc) st.text) := Newly.refl _ _
  have hkk : k ≤ k ∧ k ≤ k + 2 := by omega
  have HQL : Hid (w.heap.size ∉ rfp fd q (.slice ta st.text.length tc) st.text ∧ q < w.heap.size) := ⟨fun e => by have := HLT.out _ e; omega, HLT.out q (rfp_mem.2 (.inr (.inl rfl)))⟩
  rw [← hW1]
  clear f2 f3 f4 f6 f7 b0 b1 z0 hW1 HM HLT
  obtain ⟨⟨f2, f3, f4, f6, f7⟩, b0, b1, z0⟩ := M1.facts
  rw [HT.out] at f4
  simp only [List.length_nil] at f4
  rw [← HER.out] at f6
  have hqn : q ≠ w.heap.size := by have := HQL.out.2; omega
  have HM1 := hide (And.intro M1 (And.intro K1 (And.intro N1 hkk)))
  have g6 : W1.drew.cell? ⟨q, 6, none⟩ = some (.int .i64 0) := f6
  have g0 : W1.drew.cell? ⟨w.heap.size, 0, none⟩ = some (.int .u64 0) := b0
  have g1 : W1.drew.cell? ⟨w.heap.size, 1, none⟩ = some (.int .u64 0) := b1
  have z1 : ∀ o, W1.drew.frozen? ⟨w.heap.size, o, none⟩ = false := z0
  clear M1 K1 N1 hkk
  go_wp2
  go_region_held (fun W => W.cell? ⟨q, 6, none⟩ = some (.int .i64 0)) (first | assumption | exact cell_set9 (by assumption) hqn) (fail)
  all_goals
    go_wp2
    obtain ⟨m1, k1, n1, kk1, kk2⟩ := HM1.out
    obtain ⟨r1, r2⟩ := (m1.next (Below.refl _ W1).drew).boxed (.int .u64 0) (.int .u64 0)
    refine bodyPost_ret (nextRes _ _ w.heap.size 0 0 rfl r1 r2) rfl ?_
    obtain ⟨t1, t2⟩ := (m1.next (Below.refl _ W1).drew).told k1.drew (.int .u64 0) (.int .u64 0) HQL.out.1
    exact ⟨rfl, fd, _, k, t1, kk1, kk2, t2, n1⟩

set_option maxRecDepth 100000 in
set_option maxHeartbeats 4000000 in
/-- What is left of the text. -/
theorem next_text (h : RkE w fd tv p q l R U k nm c st) (he : st.err = 0) (ht : 16 ≤ st.text.length) (htl : st.text.length ≤ 1000000) : Calls Tryz.prog 36 #[.pointer (some ⟨q, 0, none⟩)] w fun e w' => e = .returned (.tuple #[valR (recAt st.text), .bool true, .int .i64 0]) ∧ RkO w w' (rfp fd q tv st.text) p q l R U k 2 nm c { st with text := st.text.drop 16 } := by
  obtain ⟨ta, tc, rfl, _⟩ := h.text.form
  have M := NxM.start h
  have HLT := hide h.lt
  obtain ⟨⟨f2, f3, f4, f6, f7⟩, b0, b1, z0⟩ := M.facts
  have HM := hide M
  obtain ⟨n9, hn9⟩ : ∃ n, n = st.text.length := ⟨_, rfl⟩
  have hp9 : ¬ (n9 : Int) = 0 := by omega
  have hp8 : ¬ n9 = 0 := by omega
  have HTL : Hid (16 ≤ st.text.length ∧ st.text.length ≤ 1000000) := ⟨ht, htl⟩
  rw [← hn9] at f4
  rw [he] at f6
  clear ht htl hn9 he
  clear M h
  go_enter Tryz.func36, Tryz.ntmps36
  go_wp2
  go_quiet (fail)
  obtain ⟨W1, hW1⟩ : ∃ W1, W1 = (w.alloc (.cells #[.int .u64 0, .int .u64 0] 52)).drewN nq := ⟨_, rfl⟩
  have M1 : NxM w W1 fd (.slice ta st.text.length tc) p q l R U k nm c st := by rw [hW1]; exact HM.out.next (below_drewN _ _)
  have K1 : Kept (rfp fd q (.slice ta st.text.length tc) st.text) w W1 := by rw [hW1]; exact ((Kept.refl _ w).alloc _).drewN _
  have N1 : Newly w (rfp fd q (.slice ta st.text.length tc) st.text) (rfp fd q (.slice ta st.text.length tc) st.text) := Newly.refl _ _
  have hkk : k ≤ k ∧ k ≤ k + 2 := by omega
  have HQL : Hid (w.heap.size ∉ rfp fd q (.slice ta st.text.length tc) st.text ∧ q < w.heap.size) := ⟨fun e => by have := HLT.out _ e; omega, HLT.out q (rfp_mem.2 (.inr (.inl rfl)))⟩
  rw [← hW1]
  clear f2 f3 f4 f6 f7 b0 b1 z0 hW1 HM HLT
  obtain ⟨⟨f2, f3, f4, f6, f7⟩, b0, b1, z0⟩ := M1.facts
  have hqn : q ≠ w.heap.size := by have := HQL.out.2; omega
  have G1 := hide (get_yes _ _ 0 8 W1 M1.rk.text (by have := HTL.out; omega) (by omega) (by omega) (by have := HTL.out; omega))
  have G2 := hide (fun (W : World) (b : Below W1.heap.size W1 W) => get_yes _ _ 8 8 W (M1.rk.text.below b) (by have := HTL.out; omega) (by omega) (by omega) (by have := HTL.out; omega))
  rw [List.drop_zero] at G1
  obtain ⟨x1, hx1⟩ : ∃ x, x = valB 256 ((st).text.take 8) := ⟨_, rfl⟩
  obtain ⟨x2, hx2⟩ : ∃ x, x = valB 256 (((st).text.drop 8).take 8) := ⟨_, rfl⟩
  rw [← hx1] at G1
  rw [← hx2] at G2
  have HX : Hid (recAt (st).text = (x1, x2)) := by show _ = _; rw [recAt, hx1, hx2]
  have HM1 := hide (And.intro M1 (And.intro K1 (And.intro N1 hkk)))
  obtain ⟨n, hn⟩ : ∃ n, n = (st).text.length := ⟨_, rfl⟩
  have hn16 : 16 ≤ n := by rw [hn]; exact HTL.out.1
  have hnc : n ≤ 1000000 := by rw [hn]; exact HTL.out.2
  rw [← hn] at f4 G1 G2
  have sl1 : ∀ W, (Instr.slice 46 (.slice ta n tc) (some (.int .i64 16)) none none).run Tryz.prog W = .ok (.slice (if tc = 16 then ta else ta.map (·.add 16)) (n - 16) (tc - 16)) W := slice_from ta n tc 16 hn16
  obtain ⟨dp, hdp⟩ : ∃ dp, dp = (if tc = 16 then ta else ta.map (·.add 16)) := ⟨_, rfl⟩
  rw [← hdp] at sl1
  have HDP := hide hdp
  have HN9 := hide hn
  clear M1 K1 N1 hkk hdp hx1 hx2 hn
  go_wp2_with fail
  refine G1.out.mono ?_
  rintro e W2 ⟨rfl, bel2⟩
  have M2 := HM1.out.1.next bel2
  obtain ⟨⟨_, _, f4', _, f7'⟩, _, _, _⟩ := M2.facts
  rw [← HN9.out] at f4'
  have G3 := hide (G2.out W2 bel2)
  have HB2 := hide bel2
  clear M2 G2 bel2
  go_wp2_with fail
  refine G3.out.mono ?_
  rintro e W3 ⟨rfl, bel3⟩
  have B3 := below_then HB2.out bel3
  have M3 := HM1.out.1.next B3
  have I3 := M3.rk.text.from 16 HTL.out.1
  rw [← HDP.out, ← HN9.out] at I3
  have hsub : ∀ x ∈ own (.slice dp (n - 16) (tc - 16)), x ∈ own (.slice ta (st).text.length tc) := fun x hx => by
    rw [HDP.out] at hx
    cases ta with
    | none => split at hx <;> simp [own, Value.ownBlock] at hx
    | some ta => split at hx <;> simpa [own, Value.ownBlock, Addr.add] using hx
  have hne : (st).text ≠ [] := fun e => by have := HTL.out.1; rw [e] at this; simp at this
  obtain ⟨M4, K4⟩ := M3.cut (by omega) I3 (fun _ x hx => ⟨M3.rk.tfd hne x (hsub x hx), fun e => M3.rk.qt hne (e ▸ hsub x hx)⟩)
  obtain ⟨⟨_, _, f4'', _, f7''⟩, _, _, _⟩ := M3.facts
  rw [← HN9.out] at f4''
  obtain ⟨_, g0, g1, g2⟩ := M4.facts
  have HM4 := hide (And.intro M4 (And.intro K4 (And.intro hsub (And.intro hne B3))))
  clear M3 M4 K4 hsub hne I3 B3 bel3
  go_wp2
  obtain ⟨m1, k1, n1, kk1, kk2⟩ := HM1.out
  obtain ⟨m4, k4, hsub, hne, bel3⟩ := HM4.out
  obtain ⟨r1, r2⟩ := m4.boxed (.int .u64 x1) (.int .u64 x2)
  refine bodyPost_ret (nextRes _ _ w.heap.size x1 x2 rfl r1 r2) rfl ?_
  have hin : ∀ x ∈ rfp fd q (.slice dp (n - 16) (tc - 16)) ((st).text.drop 16), x ∈ rfp fd q (.slice ta (st).text.length tc) (st).text := fun x hx => by
    rcases rfp_mem.1 hx with hx | hx | ⟨_, hx⟩
    · exact rfp_mem.2 (.inl hx)
    · exact rfp_mem.2 (.inr (.inl hx))
    · exact rfp_mem.2 (.inr (.inr ⟨hne, hsub x hx⟩))
  have k3 := (k1.trans (Kept.of_below (fp := []) bel3) (fun _ hx => by simp at hx)).trans k4 n1
  obtain ⟨t1, t2⟩ := m4.told k3 (.int .u64 x1) (.int .u64 x2) (fun e => HQL.out.1 (hin _ e))
  exact ⟨by rw [HX.out]; rfl, fd, _, k, t1, kk1, kk2, t2, fun x hx => n1 x (hin x hx)⟩

set_option maxRecDepth 100000 in
set_option maxHeartbeats 4000000 in
/-- The next block is wrong. -/
theorem next_bad (h : RkE w fd tv p q l R U k nm c st) (he : st.err = 0) (ht : st.text = []) (ha : st.at_ < c.length) (hk : k ≤ 999998) (hnm : nm.size ≤ maxLen) (hz : (loadS c st).text = []) : Calls Tryz.prog 36 #[.pointer (some ⟨q, 0, none⟩)] w fun e w' => e = .returned (.tuple #[.agg #[.int .u64 0, .int .u64 0], .bool false, .int .i64 (loadS c st).err]) ∧ RkO w w' (rfp fd q tv st.text) p q l R U k 2 nm c (loadS c st) := by
  have HT := hide hz
  clear hz
  obtain ⟨er, her⟩ : ∃ er, er = (loadS c st).err := ⟨_, rfl⟩
  rw [← her]
  have HL := hide (fun (W : World) (hb : Below w.heap.size w W) => load_any (h.below hb) ht hk hnm)
  obtain ⟨ta, tc, rfl, _⟩ := h.text.form
  have M := NxM.start h
  have HLT := hide h.lt
  obtain ⟨⟨f2, f3, f4, f6, f7⟩, b0, b1, z0⟩ := M.facts
  have hB := hide ((Below.refl w.heap.size w).alloc (Nat.le_refl _) (.cells #[.int .u64 0, .int .u64 0] 52))
  have HM := hide M
  have HT0 := hide ht
  rw [ht] at f4
  simp only [List.length_nil] at f4
  rw [he] at f6
  obtain ⟨N9, hN⟩ : ∃ N, N = c.length := ⟨_, rfl⟩
  obtain ⟨a9, ha9⟩ : ∃ a, a = st.at_ := ⟨_, rfl⟩
  rw [← hN] at f2
  rw [← ha9] at f3
  have haN : (a9 : Int) < (N9 : Int) := by omega
  clear M h ht he hN ha9 ha
  go_enter Tryz.func36, Tryz.ntmps36
  go_wp2
  go_quiet (fail)
  go_wp2_with fail
  refine (HL.out _ (hB.out.trans (below_drewN _ _ |>.mono (by simp)))).mono ?_
  rintro e w2 ⟨rfl, fd2, tv2, k2, E2, hk1, hk2, K2, N2⟩
  obtain ⟨ta2, tc2, rfl, _⟩ := E2.text.form
  have hbx : w2.heap[w.heap.size]? = some (.cells #[.int .u64 0, .int .u64 0] 52 (0, 0)) := K2.heap9 (by simpa using HM.out.box) (fun e => by have := HLT.out _ (rfp_nil st.text e); omega)
  have e6 := E2.cellAt.2.2.2.2.2.2.1
  have e7 := E2.cellAt.2.2.2.2.2.2.2
  have HQL : Hid (w.heap.size ∉ rfp fd2 q (.slice ta2 (loadR c st).1.text.length tc2) (loadR c st).1.text ∧ q < w.heap.size) := ⟨fun e => by
    rcases N2 _ e with e | e
    · have := HLT.out _ (rfp_nil st.text e); omega
    · have e2 : (w.alloc (.cells #[.int .u64 0, .int .u64 0] 52)).heap.size ≤ w.heap.size := e
      rw [World.size_alloc] at e2
      omega, HLT.out q (rfp_mem.2 (.inr (.inl rfl)))⟩
  have e4 : w2.cell? ⟨q, 4, none⟩ = some (.slice ta2 0 tc2) := by
    have h4 := E2.cellAt.2.2.2.2.1
    rw [show (loadR c st).1.text = [] from HT.out] at h4
    exact h4
  rw [show (loadR c st).2 = er from her.symm]
  have HER := hide her
  have HE2 := hide (And.intro E2 (And.intro K2 (And.intro N2 hbx)))
  clear E2 K2 N2 hbx HL her f2 f3 f4 f6 f7 b0 b1 z0
  go_wp2_with fail
  have W1s : True := trivial
  obtain ⟨E2, K2, N2, hbx⟩ := HE2.out
  obtain ⟨W1, hW1⟩ : ∃ W1, W1 = w2.setCell ⟨q, 6, none⟩ (.int .i64 er) := ⟨_, rfl⟩
  have ks : Kept [q] w2 W1 := by rw [hW1]; exact (Kept.refl _ w2).setCell (.inl (by simp)) _
  have hcs := heap_setCell E2.cells 6 (.int .i64 er)
  rw [← hW1] at hcs ⊢
  have hne9 : (loadR c st).1.text ≠ [] → ∀ x ∈ own (.slice ta2 (loadR c st).1.text.length tc2), x ∉ fd2 ∧ x ≠ q := fun h0 x hx => ⟨E2.tfd h0 x hx, fun e => E2.qt h0 (e ▸ hx)⟩
  obtain ⟨E3, K3⟩ := E2.turn (tv' := .slice ta2 (loadR c st).1.text.length tc2) (st' := loadS c st) ks (by have h9 := HER.out; simp only [loadS] at h9 ⊢; rw [← h9]; simpa [rcells] using hcs) E2.text E2.at_le hne9
  have M1 : NxM w W1 fd2 (.slice ta2 (loadS c st).text.length tc2) p q l R U k2 nm c (loadS c st) := ⟨E3, ks.heap9 hbx (by have := HQL.out.2; simp; omega)⟩
  have hsu : ∀ x ∈ rfp fd q (.slice ta st.text.length tc) [], x ∈ rfp fd q (.slice ta st.text.length tc) st.text := fun x hx => rfp_nil st.text hx
  have K0 : Kept (rfp fd q (.slice ta st.text.length tc) st.text) w w2 := (((Kept.refl _ w).alloc _).drewN _).trans (K2.mono hsu) (Newly.refl _ _)
  have N1 : Newly w (rfp fd q (.slice ta st.text.length tc) st.text) (rfp fd2 q (.slice ta2 (loadS c st).text.length tc2) (loadS c st).text) := fun x hx => by
    rcases N2 x hx with e | e
    · exact .inl (hsu x e)
    · have e2 : (w.alloc (.cells #[.int .u64 0, .int .u64 0] 52)).heap.size ≤ x := e
      rw [World.size_alloc] at e2
      exact .inr (by omega)
  have K1 : Kept (rfp fd q (.slice ta st.text.length tc) st.text) w W1 := K0.trans K3 N1
  have hkk : k ≤ k2 ∧ k2 ≤ k + 2 := ⟨hk1, hk2⟩
  clear E2 K2 N2 hbx ks hcs hne9 E3 K3 hsu K0 hW1 HE2 hk1 hk2 e4 e6 e7 W1s
  obtain ⟨ta, tc, hta, htc⟩ : ∃ a b, a = ta2 ∧ b = tc2 := ⟨_, _, rfl, rfl⟩
  subst hta
  subst htc
  obtain ⟨⟨f2, f3, f4, f6, f7⟩, b0, b1, z0⟩ := M1.facts
  rw [HT.out] at f4
  simp only [List.length_nil] at f4
  rw [← HER.out] at f6
  have hqn : q ≠ w.heap.size := by have := HQL.out.2; omega
  have HM1 := hide (And.intro M1 (And.intro K1 (And.intro N1 hkk)))
  have g6 : W1.drew.cell? ⟨q, 6, none⟩ = some (.int .i64 er) := f6
  have g0 : W1.drew.cell? ⟨w.heap.size, 0, none⟩ = some (.int .u64 0) := b0
  have g1 : W1.drew.cell? ⟨w.heap.size, 1, none⟩ = some (.int .u64 0) := b1
  have z1 : ∀ o, W1.drew.frozen? ⟨w.heap.size, o, none⟩ = false := z0
  clear M1 K1 N1 hkk
  go_wp2
  go_region_held (fun W => W.cell? ⟨q, 6, none⟩ = some (.int .i64 er)) (first | assumption | exact cell_set9 (by assumption) hqn) (fail)
  all_goals
    go_wp2
    obtain ⟨m1, k1, n1, kk1, kk2⟩ := HM1.out
    obtain ⟨r1, r2⟩ := (m1.next (Below.refl _ W1).drew).boxed (.int .u64 0) (.int .u64 0)
    refine bodyPost_ret (nextRes _ _ w.heap.size 0 0 rfl r1 r2) rfl ?_
    obtain ⟨t1, t2⟩ := (m1.next (Below.refl _ W1).drew).told k1.drew (.int .u64 0) (.int .u64 0) HQL.out.1
    exact ⟨rfl, fd2, _, k2, t1, kk1, kk2, t2, n1⟩

set_option maxRecDepth 100000 in
set_option maxHeartbeats 4000000 in
/-- The next block. -/
theorem next_block (h : RkE w fd tv p q l R U k nm c st) (he : st.err = 0) (ht : st.text = []) (ha : st.at_ < c.length) (hk : k ≤ 999998) (hnm : nm.size ≤ maxLen) (hz : 16 ≤ (loadS c st).text.length) (hzl : (loadS c st).text.length ≤ 1000000) : Calls Tryz.prog 36 #[.pointer (some ⟨q, 0, none⟩)] w fun e w' => e = .returned (.tuple #[valR (recAt (loadS c st).text), .bool true, .int .i64 0]) ∧ RkO w w' (rfp fd q tv st.text) p q l R U k 2 nm c { (loadS c st) with text := (loadS c st).text.drop 16 } := by
  have HTL : Hid (16 ≤ (loadS c st).text.length ∧ (loadS c st).text.length ≤ 1000000) := ⟨hz, hzl⟩
  clear hz hzl
  obtain ⟨er, her⟩ : ∃ er, er = (loadS c st).err := ⟨_, rfl⟩
  have HL := hide (fun (W : World) (hb : Below w.heap.size w W) => load_any (h.below hb) ht hk hnm)
  obtain ⟨ta, tc, rfl, _⟩ := h.text.form
  have M := NxM.start h
  have HLT := hide h.lt
  obtain ⟨⟨f2, f3, f4, f6, f7⟩, b0, b1, z0⟩ := M.facts
  have hB := hide ((Below.refl w.heap.size w).alloc (Nat.le_refl _) (.cells #[.int .u64 0, .int .u64 0] 52))
  have HM := hide M
  have HT0 := hide ht
  rw [ht] at f4
  simp only [List.length_nil] at f4
  rw [he] at f6
  obtain ⟨N9, hN⟩ : ∃ N, N = c.length := ⟨_, rfl⟩
  obtain ⟨a9, ha9⟩ : ∃ a, a = st.at_ := ⟨_, rfl⟩
  rw [← hN] at f2
  rw [← ha9] at f3
  have haN : (a9 : Int) < (N9 : Int) := by omega
  clear M h ht he hN ha9 ha
  go_enter Tryz.func36, Tryz.ntmps36
  go_wp2
  go_quiet (fail)
  go_wp2_with fail
  refine (HL.out _ (hB.out.trans (below_drewN _ _ |>.mono (by simp)))).mono ?_
  rintro e w2 ⟨rfl, fd2, tv2, k2, E2, hk1, hk2, K2, N2⟩
  obtain ⟨ta2, tc2, rfl, _⟩ := E2.text.form
  have hbx : w2.heap[w.heap.size]? = some (.cells #[.int .u64 0, .int .u64 0] 52 (0, 0)) := K2.heap9 (by simpa using HM.out.box) (fun e => by have := HLT.out _ (rfp_nil st.text e); omega)
  have e6 := E2.cellAt.2.2.2.2.2.2.1
  have e7 := E2.cellAt.2.2.2.2.2.2.2
  have HQL : Hid (w.heap.size ∉ rfp fd2 q (.slice ta2 (loadR c st).1.text.length tc2) (loadR c st).1.text ∧ q < w.heap.size) := ⟨fun e => by
    rcases N2 _ e with e | e
    · have := HLT.out _ (rfp_nil st.text e); omega
    · have e2 : (w.alloc (.cells #[.int .u64 0, .int .u64 0] 52)).heap.size ≤ w.heap.size := e
      rw [World.size_alloc] at e2
      omega, HLT.out q (rfp_mem.2 (.inr (.inl rfl)))⟩
  obtain ⟨n, hn8⟩ : ∃ n, n = (loadS c st).text.length := ⟨_, rfl⟩
  have e4 : w2.cell? ⟨q, 4, none⟩ = some (.slice ta2 n tc2) := by
    have h4 := E2.cellAt.2.2.2.2.1
    rw [show (loadR c st).1.text.length = n from hn8.symm] at h4
    exact h4
  have hp8 : ¬ n = 0 := by rw [hn8]; have := HTL.out.1; omega
  have hp9 : ¬ (n : Int) = 0 := by omega
  have HN8 := hide hn8
  clear hn8
  rw [show (loadR c st).2 = er from her.symm]
  have HER := hide her
  have HE2 := hide (And.intro E2 (And.intro K2 (And.intro N2 hbx)))
  clear E2 K2 N2 hbx HL her f2 f3 f4 f6 f7 b0 b1 z0
  go_wp2_with fail
  have W1s : True := trivial
  obtain ⟨E2, K2, N2, hbx⟩ := HE2.out
  obtain ⟨W1, hW1⟩ : ∃ W1, W1 = w2.setCell ⟨q, 6, none⟩ (.int .i64 er) := ⟨_, rfl⟩
  have ks : Kept [q] w2 W1 := by rw [hW1]; exact (Kept.refl _ w2).setCell (.inl (by simp)) _
  have hcs := heap_setCell E2.cells 6 (.int .i64 er)
  rw [← hW1] at hcs ⊢
  have hne9 : (loadR c st).1.text ≠ [] → ∀ x ∈ own (.slice ta2 (loadR c st).1.text.length tc2), x ∉ fd2 ∧ x ≠ q := fun h0 x hx => ⟨E2.tfd h0 x hx, fun e => E2.qt h0 (e ▸ hx)⟩
  obtain ⟨E3, K3⟩ := E2.turn (tv' := .slice ta2 (loadR c st).1.text.length tc2) (st' := loadS c st) ks (by have h9 := HER.out; simp only [loadS] at h9 ⊢; rw [← h9]; simpa [rcells] using hcs) E2.text E2.at_le hne9
  have M1 : NxM w W1 fd2 (.slice ta2 (loadS c st).text.length tc2) p q l R U k2 nm c (loadS c st) := ⟨E3, ks.heap9 hbx (by have := HQL.out.2; simp; omega)⟩
  have hsu : ∀ x ∈ rfp fd q (.slice ta st.text.length tc) [], x ∈ rfp fd q (.slice ta st.text.length tc) st.text := fun x hx => rfp_nil st.text hx
  have K0 : Kept (rfp fd q (.slice ta st.text.length tc) st.text) w w2 := (((Kept.refl _ w).alloc _).drewN _).trans (K2.mono hsu) (Newly.refl _ _)
  have N1 : Newly w (rfp fd q (.slice ta st.text.length tc) st.text) (rfp fd2 q (.slice ta2 (loadS c st).text.length tc2) (loadS c st).text) := fun x hx => by
    rcases N2 x hx with e | e
    · exact .inl (hsu x e)
    · have e2 : (w.alloc (.cells #[.int .u64 0, .int .u64 0] 52)).heap.size ≤ x := e
      rw [World.size_alloc] at e2
      exact .inr (by omega)
  have K1 : Kept (rfp fd q (.slice ta st.text.length tc) st.text) w W1 := K0.trans K3 N1
  have hkk : k ≤ k2 ∧ k2 ≤ k + 2 := ⟨hk1, hk2⟩
  clear E2 K2 N2 hbx ks hcs hne9 E3 K3 hsu K0 hW1 HE2 hk1 hk2 e4 e6 e7 W1s
  obtain ⟨ta, tc, hta, htc⟩ : ∃ a b, a = ta2 ∧ b = tc2 := ⟨_, _, rfl, rfl⟩
  subst hta
  subst htc
  obtain ⟨⟨f2, f3, f4, f6, f7⟩, b0, b1, z0⟩ := M1.facts
  have hqn : q ≠ w.heap.size := by have := HQL.out.2; omega
  have G1 := hide (get_yes _ _ 0 8 W1 M1.rk.text (by have := HTL.out; omega) (by omega) (by omega) (by have := HTL.out; omega))
  have G2 := hide (fun (W : World) (b : Below W1.heap.size W1 W) => get_yes _ _ 8 8 W (M1.rk.text.below b) (by have := HTL.out; omega) (by omega) (by omega) (by have := HTL.out; omega))
  rw [List.drop_zero] at G1
  obtain ⟨x1, hx1⟩ : ∃ x, x = valB 256 (((loadS c st)).text.take 8) := ⟨_, rfl⟩
  obtain ⟨x2, hx2⟩ : ∃ x, x = valB 256 ((((loadS c st)).text.drop 8).take 8) := ⟨_, rfl⟩
  rw [← hx1] at G1
  rw [← hx2] at G2
  have HX : Hid (recAt ((loadS c st)).text = (x1, x2)) := by show _ = _; rw [recAt, hx1, hx2]
  have HM1 := hide (And.intro M1 (And.intro K1 (And.intro N1 hkk)))
  have hn := HN8.out
  have hn16 : 16 ≤ n := by rw [hn]; exact HTL.out.1
  have hnc : n ≤ 1000000 := by rw [hn]; exact HTL.out.2
  rw [← hn] at f4 G1 G2
  have sl1 : ∀ W, (Instr.slice 46 (.slice ta n tc) (some (.int .i64 16)) none none).run Tryz.prog W = .ok (.slice (if tc = 16 then ta else ta.map (·.add 16)) (n - 16) (tc - 16)) W := slice_from ta n tc 16 hn16
  obtain ⟨dp, hdp⟩ : ∃ dp, dp = (if tc = 16 then ta else ta.map (·.add 16)) := ⟨_, rfl⟩
  rw [← hdp] at sl1
  have HDP := hide hdp
  have HN9 := hide hn
  clear M1 K1 N1 hkk hdp hx1 hx2 hn
  go_wp2_with fail
  refine G1.out.mono ?_
  rintro e W2 ⟨rfl, bel2⟩
  have M2 := HM1.out.1.next bel2
  obtain ⟨⟨_, _, f4', _, f7'⟩, _, _, _⟩ := M2.facts
  rw [← HN9.out] at f4'
  have G3 := hide (G2.out W2 bel2)
  have HB2 := hide bel2
  clear M2 G2 bel2
  go_wp2_with fail
  refine G3.out.mono ?_
  rintro e W3 ⟨rfl, bel3⟩
  have B3 := below_then HB2.out bel3
  have M3 := HM1.out.1.next B3
  have I3 := M3.rk.text.from 16 HTL.out.1
  rw [← HDP.out, ← HN9.out] at I3
  have hsub : ∀ x ∈ own (.slice dp (n - 16) (tc - 16)), x ∈ own (.slice ta ((loadS c st)).text.length tc) := fun x hx => by
    rw [HDP.out] at hx
    cases ta with
    | none => split at hx <;> simp [own, Value.ownBlock] at hx
    | some ta => split at hx <;> simpa [own, Value.ownBlock, Addr.add] using hx
  have hne : ((loadS c st)).text ≠ [] := fun e => by have := HTL.out.1; rw [e] at this; simp at this
  obtain ⟨M4, K4⟩ := M3.cut (by omega) I3 (fun _ x hx => ⟨M3.rk.tfd hne x (hsub x hx), fun e => M3.rk.qt hne (e ▸ hsub x hx)⟩)
  obtain ⟨⟨_, _, f4'', _, f7''⟩, _, _, _⟩ := M3.facts
  rw [← HN9.out] at f4''
  obtain ⟨_, g0, g1, g2⟩ := M4.facts
  have HM4 := hide (And.intro M4 (And.intro K4 (And.intro hsub (And.intro hne B3))))
  clear M3 M4 K4 hsub hne I3 B3 bel3
  go_wp2
  obtain ⟨m1, k1, n1, kk1, kk2⟩ := HM1.out
  obtain ⟨m4, k4, hsub, hne, bel3⟩ := HM4.out
  obtain ⟨r1, r2⟩ := m4.boxed (.int .u64 x1) (.int .u64 x2)
  refine bodyPost_ret (nextRes _ _ w.heap.size x1 x2 rfl r1 r2) rfl ?_
  have hin : ∀ x ∈ rfp fd2 q (.slice dp (n - 16) (tc - 16)) (((loadS c st)).text.drop 16), x ∈ rfp fd2 q (.slice ta ((loadS c st)).text.length tc) ((loadS c st)).text := fun x hx => by
    rcases rfp_mem.1 hx with hx | hx | ⟨_, hx⟩
    · exact rfp_mem.2 (.inl hx)
    · exact rfp_mem.2 (.inr (.inl hx))
    · exact rfp_mem.2 (.inr (.inr ⟨hne, hsub x hx⟩))
  have k3 := (k1.trans (Kept.of_below (fp := []) bel3) (fun _ hx => by simp at hx)).trans k4 n1
  obtain ⟨t1, t2⟩ := m4.told k3 (.int .u64 x1) (.int .u64 x2) (fun e => HQL.out.1 (hin _ e))
  exact ⟨by rw [HX.out]; rfl, fd2, _, k2, t1, kk1, kk2, t2, fun x hx => n1 x (hin x hx)⟩

end

end Go.Proofs.YtgpbanjammipiaaGreatDoor

namespace Go.Proofs.YtgpbanjammipiaaGreatDoor
open Go.RowKit Go.Maps

/-- What a reader will read yet, and that its text is one of a block. -/
def Wil (c : List Int) (st : Rst) (rs : List Rc) (e : Int) : Prop := Will c st rs e ∧ st.text.length ≤ 800

theorem loadS_text {c : List Int} {st : Rst} (ht : st.text = []) : ((loadS c st).text = [] → (loadS c st).err ≠ 0) ∧ ((loadS c st).text ≠ [] → 16 ≤ (loadS c st).text.length) ∧ (loadS c st).text.length ≤ 800 := by
  unfold loadS loadR
  by_cases hd : (decB (c.drop st.at_)).2.2 ≠ 0
  · rw [if_pos hd]
    exact ⟨fun _ => hd, fun h => absurd ht h, by dsimp only; rw [ht]; simp⟩
  · rw [if_neg hd]
    by_cases hf : st.short = true ∨ rightB (decB (c.drop st.at_)).1 = false
    · rw [if_pos hf]
      exact ⟨fun _ => by simp, fun h => absurd ht h, by dsimp only; rw [ht]; simp⟩
    · rw [if_neg hf]
      have hr : rightB (decB (c.drop st.at_)).1 = true := by
        cases hr : rightB (decB (c.drop st.at_)).1 with
        | true => rfl
        | false => exact absurd (.inr hr) hf
      obtain ⟨r1, r2, r3⟩ := rightB_iff.1 hr
      exact ⟨fun e => by dsimp only at e; rw [e] at r1; simp at r1, fun _ => r1, r2⟩

section
variable {w : World} {fd : List Nat} {tv : Value} {p q : Nat} {l : List Ab} {R U k : Int} {nm : ByteArray} {c : List Int} {st : Rst}

/-- Next, of one record more. -/
theorem next_some (h : RkE w fd tv p q l R U k nm c st) {x : Rc} {rs : List Rc} {er : Int} (hw : Wil c st (x :: rs) er) (hk : k ≤ 999998) (hnm : nm.size ≤ maxLen) :
    Calls Tryz.prog 36 #[.pointer (some ⟨q, 0, none⟩)] w fun e w' => e = .returned (.tuple #[valR x, .bool true, .int .i64 0]) ∧ ∃ st', RkO w w' (rfp fd q tv st.text) p q l R U k 2 nm c st' ∧ Wil c st' rs er := by
  obtain ⟨hw, hl⟩ := hw
  by_cases ht : st.text = []
  · have he : st.err = 0 := by
      rcases hw with ⟨_, _, h3, _⟩ | ⟨h1, _⟩
      · exact absurd h3 (by simp)
      · exact h1
    by_cases ha : st.at_ < c.length
    · have hw2 := will_load hw he ht ha
      obtain ⟨t1, t2, t3⟩ := loadS_text (c := c) ht
      by_cases hz : (loadS c st).text = []
      · have := (will_empty hw2 hz (.inl (t1 hz))).1
        exact absurd this (by simp)
      · obtain ⟨rs', e1, e2, e3, _⟩ := will_next hw2 hz
        obtain ⟨rfl, rfl⟩ := List.cons.inj e1
        refine (next_block h he ht ha hk hnm (t2 hz) (by omega)).mono ?_
        rintro e w' ⟨rfl, o⟩
        exact ⟨rfl, _, o, e2, by dsimp only; rw [List.length_drop]; omega⟩
    · have := (will_empty hw ht (.inr (by omega))).1
      exact absurd this (by simp)
  · obtain ⟨rs', e1, e2, e3, e4⟩ := will_next hw ht
    obtain ⟨rfl, rfl⟩ := List.cons.inj e1
    refine (next_text h e4 e3 (by omega)).mono ?_
    rintro e w' ⟨rfl, o⟩
    exact ⟨rfl, _, o, e2, by dsimp only; rw [List.length_drop]; omega⟩

/-- Next, of no record more. -/
theorem next_none (h : RkE w fd tv p q l R U k nm c st) {er : Int} (hw : Wil c st [] er) (hk : k ≤ 999998) (hnm : nm.size ≤ maxLen) :
    Calls Tryz.prog 36 #[.pointer (some ⟨q, 0, none⟩)] w fun e w' => e = .returned (.tuple #[valR (0, 0), .bool false, .int .i64 er]) ∧ ∃ st', RkO w w' (rfp fd q tv st.text) p q l R U k 2 nm c st' ∧ Wil c st' [] er := by
  obtain ⟨hw, hl⟩ := hw
  by_cases ht : st.text = []
  · by_cases he : st.err = 0
    · by_cases ha : st.at_ < c.length
      · have hw2 := will_load hw he ht ha
        obtain ⟨t1, t2, t3⟩ := loadS_text (c := c) ht
        by_cases hz : (loadS c st).text = []
        · have e1 := (will_empty hw2 hz (.inl (t1 hz))).2
          refine (next_bad h he ht ha hk hnm hz).mono ?_
          rintro e w' ⟨rfl, o⟩
          exact ⟨by rw [e1]; rfl, _, o, hw2, t3⟩
        · obtain ⟨rs', e1, _⟩ := will_next hw2 hz
          exact absurd e1 (by simp)
      · have e1 := (will_empty hw ht (.inr (by omega))).2
        refine (next_end h he ht (by omega)).mono ?_
        rintro e w' ⟨rfl, o⟩
        exact ⟨by rw [e1]; rfl, _, o, hw, hl⟩
    · have e1 := (will_empty hw ht (.inl he)).2
      refine (next_err h he ht).mono ?_
      rintro e w' ⟨rfl, o⟩
      exact ⟨by rw [e1]; rfl, _, o, hw, hl⟩
  · obtain ⟨rs', e1, _⟩ := will_next hw ht
    exact absurd e1 (by simp)

/-- A new reader. -/
def rst0 : Rst := ⟨0, [], false, 0⟩

theorem wil_start (c : List Int) : Wil c rst0 (readB false c).1 (readB false c).2 :=
  ⟨.inr ⟨rfl, rfl, by simp [rst0, recsT_nil], by simp [rst0]⟩, by simp [rst0]⟩

set_option maxRecDepth 100000 in
set_option maxHeartbeats 4000000 in
theorem newReader_go (h : Dk w fd p l (upS R U k)) (hk : k ≤ 999998) (hnm : nm.size ≤ maxLen) {x : Ab} (hx : lookA l nm.data.toList = some x) (hlen : x.2.1.length ≤ 1000000000) :
    Calls Tryz.prog 31 #[.pointer (some ⟨p, 0, none⟩), .string nm] w fun e w' => ∃ q, e = .returned (.tuple #[.pointer (some ⟨q, 0, none⟩), .int .i64 0]) ∧ RkO w w' fd p q l R U k 1 nm x.2.1 rst0 := by
  have SZ := h.size (by simp only [upS]; omega) nm hnm
  have e1 : errA (beginA l (upS R U k)) nm.data.toList = none := by
    rw [begin_up]
    unfold errA
    rw [if_neg (by simp [upS])]
    dsimp only
    rw [hx]
  have e2 : sizeA (beginA l (upS R U k)) nm.data.toList = ((x.2.1.length : Int), 0) := by
    unfold sizeA
    rw [e1]
    dsimp only
    rw [begin_up]
    dsimp only
    rw [hx]
  rw [e2, begin_up] at SZ
  have HS := hide SZ
  obtain ⟨c, hc⟩ : ∃ c, c = x.2.1 := ⟨_, rfl⟩
  have HX : Hid (∃ x, lookA l nm.data.toList = some x ∧ c <+: x.2.1) := ⟨x, hx, by rw [hc]; exact List.prefix_refl _⟩
  rw [← hc] at HS hlen ⊢
  have HL := hide hlen
  clear SZ e1 e2 h hc hx hlen
  go_enter Tryz.func31, Tryz.ntmps31
  go_wp2_with fail
  refine HS.out.mono ?_
  rintro e w1 ⟨rfl, fd1, d1, k1, n1⟩
  go_wp2
  go_ret2
  have hlt := d1.lt
  have hb : Below w1.heap.size w1 (w1.alloc (.cells #[.pointer (some ⟨p, 0, none⟩), .string nm, .int .i64 (c.length : Int), .int .i64 0, .slice none 0 0, .bool false, .int .i64 0] 105)) := (Below.refl _ w1).alloc (Nat.le_refl _) _
  refine ⟨w1.heap.size, rfl, fd1, .slice none 0 0, k + 1, ⟨d1.below hb, HX.out, heap_alloc_new w1 _, IsB.nil _, Nat.zero_le _, HL.out, fun e => by have := hlt _ e; omega, fun h => absurd rfl h, fun h => absurd rfl h⟩, by omega, by omega, k1.alloc _, fun y hy => ?_⟩
  rcases rfp_mem.1 hy with hy | rfl | ⟨h0, _⟩
  · exact n1 y hy
  · exact .inr k1.size
  · exact absurd rfl h0

set_option maxRecDepth 100000 in
set_option maxHeartbeats 4000000 in
/-- .. of a file that there is not. -/
theorem newReader_no (h : Dk w fd p l (upS R U k)) (hk : k ≤ 999998) (hnm : nm.size ≤ maxLen) (hx : lookA l nm.data.toList = none) :
    Calls Tryz.prog 31 #[.pointer (some ⟨p, 0, none⟩), .string nm] w fun e w' => e = .returned (.tuple #[.pointer none, .int .i64 4]) ∧ Outc w w' fd p (l, upS R U (k + 1)) := by
  have SZ := h.size (by simp only [upS]; omega) nm hnm
  have e2 : sizeA (beginA l (upS R U k)) nm.data.toList = (0, 4) := by
    unfold sizeA errA
    rw [begin_up, if_neg (by simp [upS])]
    dsimp only
    rw [hx]
  rw [e2, begin_up] at SZ
  have HS := hide SZ
  clear SZ e2 h hx
  go_enter Tryz.func31, Tryz.ntmps31
  go_wp2_with fail
  refine HS.out.mono ?_
  rintro e w1 ⟨rfl, o1⟩
  go_wp2
  go_ret2
  exact ⟨rfl, o1⟩

set_option maxRecDepth 100000 in
set_option maxHeartbeats 4000000 in
theorem read_no (h : Dk w fd p l (upS R U k)) (hk : k ≤ 999998) (hnm : nm.size ≤ maxLen) (hx : lookA l nm.data.toList = none) :
    Calls Tryz.prog 16 #[.pointer (some ⟨p, 0, none⟩), .string nm] w fun e w' => e = .returned (.tuple #[.slice none 0 0, .int .i64 4]) ∧ Outc w w' fd p (l, upS R U (k + 1)) := by
  have NR := hide (newReader_no h hk hnm hx)
  clear h hx
  go_enter Tryz.func16, Tryz.ntmps16
  go_wp2_with fail
  refine NR.out.mono ?_
  rintro e w1 ⟨rfl, o1⟩
  go_wp2
  go_ret2
  exact ⟨rfl, o1⟩

end

end Go.Proofs.YtgpbanjammipiaaGreatDoor

namespace Go.Proofs.YtgpbanjammipiaaGreatDoor
open Go.RowKit Go.Maps

def lenS : Value → Nat | .slice _ n _ => n | _ => 0
theorem RowR.lenS {w : World} {v : Value} {l : List Rc} (h : RowR w v l) : lenS v = l.length := by
  rcases h.form with ⟨rfl, rfl⟩ | ⟨g, cap, rfl, _⟩ <;> rfl

/-- In the middle of Read: a reader, the row of what has been read, the box of the next one. -/
def RdL (w wr : World) (fd : List Nat) (bx : Nat) (v : Value) (y : Rc) (p q : Nat) (l : List Ab) (R U k0 : Int) (nm : ByteArray) (c : List Int) (st : Rst) (l0 : List Rc) : Prop :=
  ∃ fd' tv k', RkE wr fd' tv p q l R U k' nm c st ∧ k0 ≤ k' ∧ k' ≤ k0 + 2 * (l0.length : Int) + 3 ∧ RowR wr v l0 ∧ wr.heap[bx]? = some (.cells #[.int .u64 y.1, .int .u64 y.2] 52 (0, 0)) ∧ Kept fd w wr ∧ Newly w fd (rfp fd' q tv st.text) ∧
    bx ∉ rfp fd' q tv st.text ∧ w.heap.size ≤ bx ∧ ∀ z ∈ own v, z ∉ rfp fd' q tv st.text ∧ z ≠ bx ∧ w.heap.size ≤ z

section
variable {w : World} {fd : List Nat} {p : Nat} {l : List Ab} {R U k : Int} {nm : ByteArray}

/-- The first one. -/
theorem RdL.start {w2 : World} {q : Nat} {c : List Int} {st : Rst} {m : Int} (y : Rc) (h : RkO w w2 fd p q l R U k m nm c st) (hm : m ≤ 3) : RdL w (w2.alloc (.cells #[.int .u64 y.1, .int .u64 y.2] 52)) fd w2.heap.size (.slice none 0 0) y p q l R U k nm c st [] := by
  obtain ⟨fd', tv, k', E, h1, h2, K, N⟩ := h
  have hlt := E.lt
  exact ⟨fd', tv, k', E.below ((Below.refl _ w2).alloc (Nat.le_refl _) _), h1, by simp; omega, RowR.nil _, heap_alloc_new w2 _, K.alloc _, N, fun e => by have := hlt _ e; omega, K.size, by simp [own, Value.ownBlock]⟩

/-- One more. -/
theorem RdL.next {wr w4 w5 : World} {bx : Nat} {v v4 : Value} {y y2 : Rc} {q : Nat} {c : List Int} {st st' : Rst} {l0 : List Rc} {fd' : List Nat} {tv : Value} {k' : Int} (hk : k' ≤ k + 2 * (l0.length : Int) + 3) (hk0 : k ≤ k')
    (hrow : RowR w4 v4 (l0 ++ [y])) (hK : Kept fd w wr) (hN : Newly w fd (rfp fd' q tv st.text)) (hb : bx ∉ rfp fd' q tv st.text) (hbw : w.heap.size ≤ bx) (hbox : wr.heap[bx]? = some (.cells #[.int .u64 y.1, .int .u64 y.2] 52 (0, 0)))
    (hd : ∀ z ∈ own v, z ∉ rfp fd' q tv st.text ∧ z ≠ bx ∧ w.heap.size ≤ z) (k4 : Kept (own v) (wr.alloc (.cells #[.int .u64 y.1, .int .u64 y.2] 52)) w4) (n4 : Newly (wr.alloc (.cells #[.int .u64 y.1, .int .u64 y.2] 52)) (own v) (own v4))
    (hlt : ∀ z ∈ rfp fd' q tv st.text, z < wr.heap.size) (ho : RkO w4 w5 (rfp fd' q tv st.text) p q l R U k' 2 nm c st') :
    RdL w ((w5.setCell ⟨bx, 0, none⟩ (.int .u64 y2.1)).setCell ⟨bx, 1, none⟩ (.int .u64 y2.2)) fd bx v4 y2 p q l R U k nm c st' (l0 ++ [y]) := by
  obtain ⟨fd5, tv5, k5, E5, h1, h2, K5, N5⟩ := ho
  have hbl := heap_lt hbox
  have s4 := k4.size
  rw [World.size_alloc] at s4
  have hv4 : ∀ z ∈ own v4, z ∉ rfp fd' q tv st.text ∧ z ≠ bx ∧ w.heap.size ≤ z ∧ z < w4.heap.size := fun z hz => by
    have hz4 := hrow.low z hz
    rcases n4 z hz with e | e
    · exact ⟨(hd z e).1, (hd z e).2.1, (hd z e).2.2, hz4⟩
    · rw [World.size_alloc] at e
      exact ⟨fun e2 => by have := hlt z e2; omega, by omega, by have := hK.size; omega, hz4⟩
  have k14 : Kept (own v) wr w4 := ((Kept.refl _ wr).alloc _).trans k4 (Newly.refl _ _)
  have box4 := k14.heap9 hbox (fun e => (hd bx e).2.1 rfl)
  have box5 := K5.heap9 box4 hb
  have hb5 : bx ∉ rfp fd5 q tv5 st'.text := fun e => by
    rcases N5 bx e with e2 | e2
    · exact hb e2
    · omega
  have ks : Kept [bx] w5 ((w5.setCell ⟨bx, 0, none⟩ (.int .u64 y2.1)).setCell ⟨bx, 1, none⟩ (.int .u64 y2.2)) := ((Kept.refl _ w5).setCell (p := ⟨bx, 0, none⟩) (.inl (by simp)) _).setCell (p := ⟨bx, 1, none⟩) (.inl (by simp)) _
  have r5 : RowR w5 v4 (l0 ++ [y]) := hrow.kept K5 (fun z hz => (hv4 z hz).1)
  have kfd : Kept fd w w4 := hK.trans (fp' := own v) k14 (fun z hz => .inr (hd z hz).2.2)
  have hs : w.heap.size ≤ w4.heap.size := kfd.size
  refine ⟨fd5, tv5, k5, E5.kept ks (fun z hz e => by simp only [List.mem_singleton] at e; subst e; exact hb5 hz), by omega, by simp; omega, r5.kept ks (fun z hz e => by simp only [List.mem_singleton] at e; exact (hv4 z hz).2.1 e), ?_, ?_, ?_, hb5, hbw, fun z hz => ⟨fun e => ?_, (hv4 z hz).2.1, (hv4 z hz).2.2.1⟩⟩
  · have e := heap_setCell (heap_setCell box5 0 (.int .u64 y2.1)) 1 (.int .u64 y2.2)
    simpa using e
  · refine ((kfd.trans K5 hN).setCell (p := ⟨bx, 0, none⟩) (.inr hbw) _).setCell (p := ⟨bx, 1, none⟩) (.inr hbw) _
  · exact hN.trans N5 hs
  · rcases N5 z e with e2 | e2
    · exact (hv4 z hz).1 e2
    · have := (hv4 z hz).2.2.2; omega

/-- What Read leaves. -/
def ReadP (w : World) (fd : List Nat) (p : Nat) (l : List Ab) (R U k m : Int) (rs : List Rc) (er : Int) (e : Ending) (w' : World) : Prop :=
  ∃ v, e = .returned (.tuple #[v, .int .i64 er]) ∧ RowR w' v (if er = 0 then rs else []) ∧ ∃ fd' k', Dk w' fd' p l (upS R U k') ∧ k ≤ k' ∧ k' ≤ k + m ∧ Kept fd w w' ∧ Newly w fd fd' ∧ ∀ y ∈ own v, w.heap.size ≤ y ∧ y ∉ fd'

set_option maxRecDepth 100000 in
set_option maxHeartbeats 4000000 in
theorem read_go (h : Dk w fd p l (upS R U k)) (hnm : nm.size ≤ maxLen) {x : Ab} (hx : lookA l nm.data.toList = some x) (hlen : x.2.1.length ≤ 1000000000) {rs : List Rc} {er : Int} (hr : readB false x.2.1 = (rs, er)) (hok : ∀ y ∈ rs, okR y) (hk : k + 2 * (rs.length : Int) + 10 ≤ 999998) :
    Calls Tryz.prog 16 #[.pointer (some ⟨p, 0, none⟩), .string nm] w (ReadP w fd p l R U k (2 * (rs.length : Int) + 5) rs er) := by
  have NR := hide (newReader_go h (by omega) hnm hx hlen)
  have hws := wil_start x.2.1
  rw [hr] at hws
  obtain ⟨c, hc⟩ : ∃ c, c = x.2.1 := ⟨_, rfl⟩
  rw [← hc] at NR hws
  have HW := hide hws
  have HOK := hide hok
  have HK := hide hk
  obtain ⟨n, hn⟩ : ∃ n, n = rs.length := ⟨_, rfl⟩
  have HN := hide hn
  have HLN : Hid (n ≤ 1000000 ∨ True) := .inr trivial
  have hk0 : 0 ≤ k := by have := h.ok.ops; simpa [upS] using this
  have hnb : n ≤ 1000000 := by omega
  clear h hx hr hws hc hlen hok hn hk hk0 HLN
  go_enter Tryz.func16, Tryz.ntmps16
  go_wp2_with fail
  refine NR.out.mono ?_
  rintro e w1 ⟨q, rfl, o1⟩
  have H1 := hide o1
  -- the first Next
  have F : Hid (∃ (b : Bool) (y : Rc) (ev : Int), Hid (ev = if b then 0 else er) ∧ Calls Tryz.prog 36 #[.pointer (some ⟨q, 0, none⟩)] w1 fun e w' => e = .returned (.tuple #[.agg #[.int .u64 y.1, .int .u64 y.2], .bool b, .int .i64 ev]) ∧ ∃ st, RkO w w' fd p q l R U k 3 nm c st ∧ (b = true → ∃ rs', rs = y :: rs' ∧ Wil c st rs' er) ∧ (b = false → [] = rs)) := by
    obtain ⟨fd1, tv1, k1, E1, hk1, hk2, K1, N1⟩ := o1
    have hkb := HK.out
    have hrn : ∀ {w' : World} {st' : Rst}, RkO w1 w' (rfp fd1 q tv1 rst0.text) p q l R U k1 2 nm c st' → RkO w w' fd p q l R U k 3 nm c st' := fun ⟨fd', tv', k', E, a1, a2, K, N⟩ => ⟨fd', tv', k', E, by omega, by omega, K1.trans K N1, N1.trans N K1.size⟩
    cases hrs : rs with
    | nil =>
      refine ⟨false, (0, 0), er, rfl, (next_none (er := er) E1 (by have := HW.out; rw [hrs] at this; exact this) (by omega) hnm).mono ?_⟩
      rintro e w' ⟨rfl, st', o, hw⟩
      exact ⟨rfl, st', hrn o, fun h => by simp at h, fun _ => rfl⟩
    | cons y rs' =>
      refine ⟨true, y, 0, rfl, (next_some (x := y) (rs := rs') (er := er) E1 (by have := HW.out; rw [hrs] at this; exact this) (by omega) hnm).mono ?_⟩
      rintro e w' ⟨rfl, st', o, hw⟩
      exact ⟨rfl, st', hrn o, fun _ => ⟨rs', rfl, hw⟩, fun h => by simp at h⟩
  obtain ⟨b0, ⟨y1, y2⟩, ev0, HEV, F0⟩ := F.out
  have HF := hide F0
  clear F0 F H1 o1 HW
  dsimp only at HF
  go_wp2_with fail
  refine HF.out.mono ?_
  rintro e w2 ⟨rfl, st0, o2, ht, hf⟩
  have H2 := hide (RdL.start (y1, y2) o2 (by omega))
  have HTF := hide (And.intro ht hf)
  clear o2 ht hf HF
  go_wp2
  go_loopw [7, 8, 10] (fun v7 v8 v10 wr => ∃ (b : Bool) (y : Rc) (st : Rst) (l0 : List Rc) (ev : Int), v10 = .bool b ∧ v7 = .int .i64 ev ∧ Hid (ev = if b then 0 else er) ∧ Hid (RdL w wr fd w2.heap.size v8 y p q l R U k nm c st l0) ∧ Hid (b = true → ∃ rs', rs = l0 ++ y :: rs' ∧ Wil c st rs' er) ∧ Hid (b = false → l0 = rs)) (fun _ v8 _ _ => n + 1 - lenS v8)
  case atStart => exact ⟨b0, (y1, y2), st0, [], ev0, rfl, rfl, HEV, H2.out, HTF.out.1, HTF.out.2⟩
  case round =>
    obtain ⟨b, ⟨z1, z2⟩, st, l0, ev, rfl, rfl, HEV, HR, HT, HF⟩ := hrel
    cases b with
    | true =>
      obtain ⟨rs', hrs, hwil⟩ := HT.out rfl
      obtain ⟨fd', tv', k', E, hk1, hk2, hrow, hbox, hK, hN, hb, hbw, hd⟩ := HR.out
      have hzok : okR (z1, z2) := HOK.out _ (by rw [hrs]; simp)
      have hl0 : l0.length < n := by have := HN.out; rw [this, hrs]; simp
      have c1 := (cell_of_heap hbox 0).trans (rfl : _ = some (Value.int .u64 z1))
      have c2 := (cell_of_heap hbox 1).trans (rfl : _ = some (Value.int .u64 z2))
      have HE := hide (And.intro E (And.intro hk1 (And.intro hk2 (And.intro hK (And.intro hN (And.intro hb (And.intro hbw (And.intro hbox hd))))))))
      have HROW := hide hrow
      have HONE := hide (isR_one wr z1 z2 hzok)
      have HWIL := hide (And.intro hrs hwil)
      have HL0 := hide hl0
      have HLL : Hid (l0.length + [(z1, z2)].length ≤ 1099511627776) := by show _ ≤ _; simp; omega
      have hra : Hid (RowR (wr.alloc (.cells #[.int .u64 z1, .int .u64 z2] 52)) u8 l0) := hrow.kept ((Kept.refl [] wr).alloc _) (fun _ _ => by simp)
      clear hrs hwil E hrow hbox hK hN hb hbw hd hzok hk1 hk2 hl0
      go_wp2_with (at_builtin; refine wp_appendRc _ rfl _ _ rfl u8 (.slice (some ⟨wr.heap.size, 0, none⟩) 1 1) l0 [(z1, z2)] rfl hra.out rfl HONE.out HLL.out ?_; intro v4 w4 r4 k4 n4; have HR4 := hide r4; have HK4 := hide (And.intro k4 n4); clear r4 k4 n4)
      obtain ⟨E, hk1, hk2, hK, hN, hb, hbw, hbox, hd⟩ := HE.out
      obtain ⟨k4, n4⟩ := HK4.out
      have k14 : Kept (own u8) wr w4 := ((Kept.refl _ wr).alloc _).trans k4 (Newly.refl _ _)
      have E4 := E.kept k14 (fun z hz e => (hd z e).1 hz)
      have hkb := HK.out
      have hl0 := HL0.out
      have hnn := HN.out
      have F : Hid (∃ (b : Bool) (y : Rc) (ev : Int), Hid (ev = if b then 0 else er) ∧ Calls Tryz.prog 36 #[.pointer (some ⟨q, 0, none⟩)] w4 fun e w' => e = .returned (.tuple #[.agg #[.int .u64 y.1, .int .u64 y.2], .bool b, .int .i64 ev]) ∧ ∃ st', RkO w4 w' (rfp fd' q tv' st.text) p q l R U k' 2 nm c st' ∧ (b = true → ∃ rs'', rs = (l0 ++ [(z1, z2)]) ++ y :: rs'' ∧ Wil c st' rs'' er) ∧ (b = false → l0 ++ [(z1, z2)] = rs)) := by
        obtain ⟨hrs, hwil⟩ := HWIL.out
        cases hrs' : rs' with
        | nil =>
          refine ⟨false, (0, 0), er, rfl, (next_none (er := er) E4 (by rw [hrs'] at hwil; exact hwil) (by omega) hnm).mono ?_⟩
          rintro e w' ⟨rfl, st', o, hw⟩
          exact ⟨rfl, st', o, fun h => by simp at h, fun _ => by rw [hrs, hrs']⟩
        | cons y rs'' =>
          refine ⟨true, y, 0, rfl, (next_some (x := y) (rs := rs'') (er := er) E4 (by rw [hrs'] at hwil; exact hwil) (by omega) hnm).mono ?_⟩
          rintro e w' ⟨rfl, st', o, hw⟩
          exact ⟨rfl, st', o, fun _ => ⟨rs'', by rw [hrs, hrs']; simp, hw⟩, fun h => by simp at h⟩
      obtain ⟨b2, ⟨t1, t2⟩, ev2, HEV2, F0⟩ := F.out
      dsimp only at F0
      have HF2 := hide F0
      have HNX := hide (fun (w5 : World) (st' : Rst) (o : RkO w4 w5 (rfp fd' q tv' st.text) p q l R U k' 2 nm c st') => RdL.next (y2 := (t1, t2)) hk2 hk1 HR4.out hK hN hb hbw hbox hd k4 n4 E.lt o)
      have hb4 : w4.heap[w2.heap.size]? = some (.cells #[.int .u64 z1, .int .u64 z2] 52 (0, 0)) := k14.heap9 hbox (fun e => (hd _ e).2.1 rfl)
      have HB4 := hide (And.intro hb4 hb)
      clear F0 F E hk1 hk2 hK hN hb hbw hbox hd k4 n4 k14 E4 hkb hl0 hnn hb4 c1 c2
      go_wp2_with fail
      refine HF2.out.mono ?_
      rintro e w5 ⟨rfl, st', o5, ht, hf⟩
      have hb5 : w5.heap[w2.heap.size]? = some (.cells #[.int .u64 z1, .int .u64 z2] 52 (0, 0)) := by
        obtain ⟨_, _, _, _, _, _, K5, _⟩ := o5
        exact K5.heap9 HB4.out.1 HB4.out.2
      have d1 := (cell_of_heap hb5 0).trans (rfl : _ = some (Value.int .u64 z1))
      have d2 := (cell_of_heap hb5 1).trans (rfl : _ = some (Value.int .u64 z2))
      have d3 := fun o => frozen_of_heap hb5 o
      have HO5 := hide (HNX.out w5 st' o5)
      have HTF2 := hide (And.intro ht hf)
      clear o5 ht hf hb5
      go_wp2
      go_roundw
      case rel => exact ⟨b2, (t1, t2), st', l0 ++ [(z1, z2)], ev2, rfl, rfl, HEV2, HO5.out, HTF2.out.1, HTF2.out.2⟩
      case measure =>
        have e1 := HR4.out.lenS
        have e2 := HROW.out.lenS
        have := HL0.out
        rw [e1, e2, List.length_append, List.length_singleton]
        omega
    | false =>
      have hl := HF.out rfl
      subst hl
      obtain rfl : ev = er := HEV.out
      obtain ⟨fd', tv', k', E, hk1, hk2, hrow, hbox, hK, hN, hb, hbw, hd⟩ := HR.out
      have HE := hide (And.intro E (And.intro hk1 (And.intro hk2 (And.intro hrow (And.intro hK (And.intro hN hd))))))
      clear E hk1 hk2 hrow hbox hK hN hb hbw hd
      have hsub : Hid (∀ {z : Nat}, z ∈ fd' → z ∈ rfp fd' q tv' st.text) := fun hz => rfp_mem.2 (.inl hz)
      by_cases he : ev = 0
      · subst he
        go_wp2
        go_ret2
        obtain ⟨E, hk1, hk2, hrow, hK, hN, hd⟩ := HE.out
        exact ⟨u8, rfl, hrow, fd', k', E.disk, hk1, by omega, hK, fun z hz => hN z (hsub.out hz), fun z hz => ⟨(hd z hz).2.2, fun e => (hd z hz).1 (hsub.out e)⟩⟩
      · go_wp2
        go_ret2
        obtain ⟨E, hk1, hk2, hrow, hK, hN, hd⟩ := HE.out
        refine ⟨_, rfl, ?_, fd', k', E.disk, hk1, by omega, hK, fun z hz => hN z (hsub.out hz), by simp [own, Value.ownBlock]⟩
        rw [if_neg he]
        exact RowR.nil _

end

end Go.Proofs.YtgpbanjammipiaaGreatDoor
