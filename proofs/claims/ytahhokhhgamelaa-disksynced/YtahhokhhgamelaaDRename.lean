/-
  Rename, over a file that there is. A lemma file: no statement of the seat is proved here.
-/
import Derived.Test.YtahhokhhgamelaaDMore
namespace Go.Proofs.Ytahhokhhgamelaa
open Go.RowKit Go.Maps Go.Sort Go.Shelf

/-- A file that lies beside the disk is laid into it. -/
theorem disk_insert {w w1 : World} {p bm : Nat} {kv : Value} {fs : List Fl} {s : Ds} (h : DiskAt w p bm kv fs s) (f : Fl) (hf : FileAt w f) (hdis : ∀ x ∈ foot f, x ∉ feet p bm kv fs) (hno : look fs f.name = none) {D : DataW Unit} (hD : MapIs D fs) (ht : Tidy D)
    (hown : w1.ownsMap Try.prog 9 ptrE bm (fs.length + 1) (D.put (.string f.name) (.lit (.int .i64 f.blk)))) (hk : Kept [bm] w w1) : DiskAt w1 p bm kv (insF fs f) s := by
  have hnd := h.apart
  have hlt := h.lt
  have hbm : ∀ x, x ∈ own kv ∨ x ∈ fs.flatMap foot → x ≠ bm := fun x hx e => by
    subst e
    unfold feet at hnd
    rw [List.nodup_cons, List.nodup_cons] at hnd
    exact hnd.2.1 (List.mem_append.2 hx)
  have hpb : p ≠ bm := fun e => by
    subst e
    unfold feet at hnd
    rw [List.nodup_cons] at hnd
    exact hnd.1 (by simp)
  refine ⟨?_, ⟨_, ?_, hD.ins ht hno⟩, ?_, ?_, ?_, insF_sorted h.sorted (look_none hno)⟩
  · exact (hk.block p (hlt p (by simp [feet])) (by simpa using hpb)).trans h.cells
  · rw [(insF_perm fs f).length_eq]
    exact hown
  · intro g hg
    rcases List.mem_cons.1 ((insF_perm fs f).mem_iff.1 hg) with rfl | hg
    · exact hf.kept hk (fun x hx => by simp; rintro rfl; exact hdis x hx (by simp [feet]))
    · exact (h.files g hg).kept hk (fun x hx => by simpa using hbm x (.inr (List.mem_flatMap.2 ⟨g, hg, hx⟩)))
  · exact h.keep.kept hk (fun x hx => by simpa using hbm x (.inl hx))
  · refine (feet_ins p bm kv fs f).nodup_iff.2 ?_
    rw [List.nodup_append]
    exact ⟨hf.apart, hnd, fun x hx y hy e => hdis x hx (by rw [e]; exact hy)⟩

theorem usedB_perm {l m : List Ab} (h : l.Perm m) : usedB l = usedB m := by
  induction h with
  | nil => rfl
  | cons x _ ih => rw [usedB_cons, usedB_cons, ih]
  | swap x y l =>
    rw [usedB_cons, usedB_cons, usedB_cons, usedB_cons]
    omega
  | trans _ _ a b => rw [a, b]

/-- What Rename leaves, over a file that there is. -/
def renameA (A : List Ab × Ds) (x y : Ab) : List Ab × Ds := (insA (delA (delA A.1 x.1) y.1) (y.1, x.2.1, x.2.2), { A.2 with used := A.2.used - sec y.2.1.length })

theorem renameA_ok {l m : List Ab} {x y : Ab} {s : Ds} (hp : l.Perm (x :: y :: m)) (h : okA l s) : okA (insA m (y.1, x.2.1, x.2.2)) { s with used := s.used - sec y.2.1.length } := by
  have hq := insA_perm m (y.1, x.2.1, x.2.2)
  have hu : usedB l = sec x.2.1.length + (sec y.2.1.length + usedB m) := by
    rw [usedB_perm hp, usedB_cons, usedB_cons]
  have h1 := h.used
  have h2 := h.len
  have h3 := h.fits
  have h4 := sec_nonneg y.2.1.length
  have hm : ∀ z ∈ m, z ∈ l := fun z hz => hp.mem_iff.2 (by simp [hz])
  refine ⟨fun z hz => ?_, ?_, ?_, h.room, h.ops, ?_, h.left, h.keep, fun z hz => ?_⟩
  · rcases List.mem_cons.1 (hq.mem_iff.1 hz) with rfl | hz
    · exact h.ok x (hp.mem_iff.2 (by simp))
    · exact h.ok z (hm z hz)
  · rw [usedB_ins]
    simp only
    omega
  · simp only
    omega
  · have e := hp.length_eq
    simp only [hq.length_eq, List.length_cons] at e ⊢
    omega
  · rcases List.mem_cons.1 (hq.mem_iff.1 hz) with rfl | hz
    · exact h.names y (hp.mem_iff.2 (by simp))
    · exact h.names z (hm z hz)

set_option maxRecDepth 100000 in
set_option maxHeartbeats 4000000 in
/-- Rename, over another file that there is. -/
theorem Dk.rename_over {w : World} {fp : List Nat} {p : Nat} {l : List Ab} {s : Ds} (h : Dk w fp p l s) (hn : s.ops ≤ 1000000) (nm : ByteArray) (hnm : nm.size ≤ maxLen) (to : ByteArray) (hto : to.size ≤ maxLen) (hm : mayB to.data.toList = true) {x y : Ab} (he : errA (beginA l s) nm.data.toList = none)
    (hx : lookA (beginA l s).1 nm.data.toList = some x) (hne : nm.data.toList ≠ to.data.toList) (hy : lookA (beginA l s).1 to.data.toList = some y) :
    Calls Try.prog 28 #[.pointer (some ⟨p, 0, none⟩), .string nm, .string to] w fun e w' => e = .returned (.int .i64 0) ∧ Outc w w' fp p (renameA (beginA l s) x y) := by
  obtain ⟨bm, kv, fs, d, rfl, rfl, ho⟩ := h
  have hok := hide (beginA_ok ho)
  have FD := hide (find_ok d ho hn nm hnm he hx)
  have MB := mayBe_any to hto
  rw [hm] at MB
  have HMB := hide MB
  have HNM := hide hnm
  have HTO := hide hto
  have HY := hide hy
  have HX := hide hx
  have HNE := hide hne
  have hfl : (beginA (fs.map Fl.ab) s).1.length ≤ 1000000 := by rw [beginA_len]; have := ho.len; omega
  have HFL := hide hfl
  clear d ho he hnm hx MB hm hto hy hne hfl
  generalize beginA (fs.map Fl.ab) s = A at FD hok HY HX HFL ⊢
  go_enter Try.func28, Try.ntmps28
  go_wp2_with (first
    | (go_at_call 51; refine FD.out.mono ?_; rintro e w1 ⟨kv1, fs1, s1, f1, rfl, hl1, hf1, L1⟩; have c0 := L1.1.cellAt.1; obtain ⟨D, hown, hD⟩ := L1.1.map; have HOW := hide hown; have HD := hide hD; have HF1 := hide hf1; have HL1 := hide hl1; have HL := hide L1; clear L1 hf1 hl1 hown hD)
    | (go_at_call 46; refine (HMB.out _).mono ?_; rintro e w2 ⟨rfl, rfl⟩)
    | (at_delete; refine wpList_delete_own _ rfl _ _ 65 9 rfl 75 strLaw Try.underlying65 ptrE bm fs1.length D rfl HOW.out _ (.string nm.data.toList) rfl (WideMaps.keyOf_string_mk Try.underlying9 HNM.out) ?_; intro w3 o3 t3; have O3 := hide o3; have T3 := hide t3; clear o3 t3))
  have e1 : fs1.map Fl.ab = A.1 := congrArg (fun z => z.1) HL.out.2.1
  have e2 : s1 = A.2 := congrArg (fun z => z.2) HL.out.2.1
  have ok1 : okA (fs1.map Fl.ab) s1 := by rw [e1, e2]; exact hok.out
  have fn := (look_name HL1.out).2
  obtain ⟨ds, rs, hsp⟩ := List.append_of_mem (look_name HL1.out).1
  subst hsp
  have k3 : Kept [bm] w2 w3 := ⟨T3.out.grown.os, T3.out.grown.tape, T3.out.grown.output, T3.out.grown.size, fun k hk hne => T3.out.grown.block k hk (fun e => hne (by simpa using e))⟩
  have o3 := O3.out
  rw [← fn] at o3
  have d2 := HL.out.1
  obtain ⟨d3, kk3, nn3⟩ := disk_drop d2 (Kept.refl [p] w2) d2.cells rfl HD.out (HOW.out.tidy strLaw) o3 k3
  have hnd := (feet_perm p bm kv1 ds rs f1).nodup_iff.1 d2.apart
  rw [List.nodup_append] at hnd
  have hdis : ∀ z ∈ foot f1, z ∉ feet p bm kv1 (ds ++ rs) := fun z hz e => hnd.2.2 z hz z e rfl
  have F3 : FileAt w3 f1 := (d2.files f1 (by simp)).kept k3 (fun z hz => by simp; rintro rfl; exact hdis z hz (by simp [feet]))
  obtain ⟨g, hg, hgy⟩ : ∃ g, look (ds ++ rs) to.data.toList = some g ∧ g.ab = y := by
    have h1 := HY.out
    rw [← e1, look_ab] at h1
    obtain ⟨g, hg, hgy⟩ := Option.map_eq_some_iff.1 h1
    refine ⟨g, ?_, hgy⟩
    rw [look_del d2.sorted, if_neg (by rw [fn]; exact HNE.out)]
    exact hg
  obtain ⟨ds2, rs2, hsp2⟩ := List.append_of_mem (look_name hg).1
  have gn := (look_name hg).2
  have hgl := (file_len ok1 (f := g) (by
    have h1 : g ∈ ds ++ rs := (look_name hg).1
    rcases List.mem_append.1 h1 with h1 | h1
    · simp [h1]
    · simp [h1])).1
  have hus : 0 ≤ s1.used ∧ s1.used ≤ 67108864 := by
    have q1 := ok1.used
    have q2 := ok1.fits
    have q3 := ok1.room
    have q4 := usedB_nonneg ((ds ++ f1 :: rs).map Fl.ab)
    omega
  have hlen2 : (ds ++ f1 :: rs).length ≤ 1000000 := by
    have q1 := HFL.out
    rw [← e1, List.length_map] at q1
    exact q1
  rw [hsp2] at d3 hdis
  have HSP := hide hsp2
  refine (drop_go d3 to HTO.out gn.symm hgl hus).mono ?_
  rintro e w4 ⟨rfl, d4, k4, n4⟩
  have F4 : FileAt w4 f1 := F3.kept k4 hdis
  obtain ⟨D4, own4, hD4⟩ := d4.map
  have c4 := d4.cellAt.1
  have hlen4 : (ds2 ++ rs2).length < maxLen := by
    have q1 := congrArg List.length HSP.out
    simp only [List.length_append, List.length_cons] at q1 hlen2 ⊢
    unfold maxLen
    omega
  have HD4 := hide d4
  have HF4 := hide F4
  have HK4 := hide k4
  have HN4 := hide n4
  have HO4 := hide own4
  have HM4 := hide hD4
  have HLN := hide hlen4
  have HDI := hide hdis
  have HK3 := hide k3
  have HNN3 := hide nn3
  have HE1 := hide e1
  have HE2 := hide e2
  have HFN := hide fn
  have HGN := hide gn
  have HGY := hide hgy
  have HOK1 := hide ok1
  have HD2 := hide d2
  have HD3 := hide d3
  clear d4 F4 k4 n4 own4 hD4 hlen4 hdis k3 nn3 kk3 e1 e2 fn gn hgy ok1 d2 d3 hsp2 hlen2 hus hgl hg F3 hnd o3
  go_wp2_with (at_mapUpdate; refine wpList_mapUpdate_own _ rfl _ _ _ 65 rfl 9 75 strLaw Try.underlying65 ptrE bm (ds2 ++ rs2).length D4 rfl HO4.out HLN.out _ _ (.string to.data.toList) rfl rfl (WideMaps.keyOf_string_mk Try.underlying9 HTO.out) _ [] (ptrE_some _) ?_; intro w5 o5 g5; have O5 := hide o5; have G5 := hide g5; clear o5 g5)
  go_ret
  refine ⟨rfl, ?_⟩
  have hsort2 : (ds2 ++ g :: rs2).Pairwise (fun f g => f.name < g.name) := HD3.out.sorted
  have hno : look (ds2 ++ rs2) to.data.toList = none := by rw [look_del hsort2, if_pos HGN.out]
  have hsub : ∀ z ∈ feet p bm kv1 (ds2 ++ rs2), z ∈ feet p bm kv1 (ds2 ++ g :: rs2) := fun z hz => (feet_perm p bm kv1 ds2 rs2 g).mem_iff.2 (List.mem_append.2 (.inr hz))
  have hsub2 : ∀ z ∈ feet p bm kv1 (ds2 ++ g :: rs2), z ∈ feet p bm kv1 (ds ++ f1 :: rs) := fun z hz => by
    rw [← HSP.out] at hz
    exact (feet_perm p bm kv1 ds rs f1).mem_iff.2 (List.mem_append.2 (.inr hz))
  have k5 : Kept [bm] w4 w5 := Kept.of_grown G5.out
  have ins := disk_insert HD4.out { f1 with name := to.data.toList } ⟨HF4.out.cells, HF4.out.rnow, HF4.out.rsyn, HF4.out.apart⟩ (fun z hz e => HDI.out z hz (hsub z e)) hno HM4.out (HO4.out.tidy strLaw) O5.out k5
  have hd1 : delA A.1 x.1 = (ds ++ rs).map Fl.ab := by
    rw [← HE1.out, ← HF1.out, List.map_append, List.map_cons, delA_split (a := ds.map Fl.ab) (b := rs.map Fl.ab) (x := f1.ab) (by have := sortedA HD2.out.sorted; simpa using this), List.map_append]
  have hd2 : delA (delA A.1 x.1) y.1 = (ds2 ++ rs2).map Fl.ab := by
    rw [hd1, HSP.out, ← HGY.out, List.map_append, List.map_cons, delA_split (a := ds2.map Fl.ab) (b := rs2.map Fl.ab) (x := g.ab) (by have := sortedA hsort2; simpa using this), List.map_append]
  have hyn : y.1 = to.data.toList := by rw [← HGY.out]; exact HGN.out
  have eA : renameA A x y = ((insF (ds2 ++ rs2) { f1 with name := to.data.toList }).map Fl.ab, { s1 with used := s1.used - sec g.now.length }) := by
    unfold renameA
    rw [hd2, insF_ab, hyn, ← HE2.out, ← HF1.out, ← HGY.out]
    rfl
  have hp : A.1.Perm (x :: y :: (ds2 ++ rs2).map Fl.ab) := by
    rw [← HE1.out, ← HF1.out, ← HGY.out]
    have p1 : ((ds ++ f1 :: rs).map Fl.ab).Perm (f1.ab :: (ds ++ rs).map Fl.ab) := (List.perm_middle (l₁ := ds) (l₂ := rs) (a := f1)).map Fl.ab
    have p2 : ((ds ++ rs).map Fl.ab).Perm (g.ab :: (ds2 ++ rs2).map Fl.ab) := by
      rw [HSP.out]
      exact (List.perm_middle (l₁ := ds2) (l₂ := rs2) (a := g)).map Fl.ab
    exact p1.trans (p2.cons _)
  have okN := renameA_ok hp hok.out
  have e9 : insA (List.map Fl.ab (ds2 ++ rs2)) (y.1, x.2.1, x.2.2) = (insF (ds2 ++ rs2) { f1 with name := to.data.toList }).map Fl.ab := by
    rw [insF_ab, hyn, ← HF1.out]
    rfl
  have e10 : ({ A.2 with used := A.2.used - sec y.2.1.length } : Ds) = { s1 with used := s1.used - sec g.now.length } := by
    rw [← HE2.out, ← HGY.out]
    rfl
  rw [e9, e10] at okN
  have L2 : Left w2 w5 p bm kv1 (ds ++ f1 :: rs) kv1 (insF (ds2 ++ rs2) { f1 with name := to.data.toList }) { s1 with used := s1.used - sec g.now.length } (renameA A x y) := by
    refine ⟨ins, eA.symm, ?_, fun z hz => ?_⟩
    · exact ((HK3.out.mono (fp' := feet p bm kv1 (ds ++ f1 :: rs)) (by simp [feet])).trans HK4.out (Newly.of_sub hsub2)).trans k5 (Newly.of_sub (by simp [feet]))
    · rcases List.mem_append.1 ((feet_ins p bm kv1 _ _).mem_iff.1 hz) with h1 | h1
      · exact .inl ((feet_perm p bm kv1 ds rs f1).mem_iff.2 (List.mem_append.2 (.inl h1)))
      · exact .inl (hsub2 z (hsub z h1))
  refine (Left.trans HL.out L2).outc ?_
  rw [eA]
  exact okN

end Go.Proofs.Ytahhokhhgamelaa
