/-
  What drop and Remove do. A lemma file: no statement of the seat is proved here.
-/
import Derived.Test.YtahhokhhgamelaaDErr
namespace Go.Proofs.Ytahhokhhgamelaa
open Go.RowKit Go.Maps Go.Sort Go.Shelf

theorem look_del {ds rs : List Fl} {f : Fl} (hs : (ds ++ f :: rs).Pairwise (fun f g => f.name < g.name)) (n : List UInt8) : look (ds ++ rs) n = if f.name = n then none else look (ds ++ f :: rs) n := by
  rw [List.pairwise_append, List.pairwise_cons] at hs
  unfold look
  rw [List.find?_append, List.find?_append, List.find?_cons]
  by_cases h : f.name = n
  · subst h
    rw [if_pos rfl]
    have e1 : ds.find? (fun g => g.name == f.name) = none := List.find?_eq_none.2 fun g hg => by simpa using lt_ne (hs.2.2 g hg f (by simp))
    have e2 : rs.find? (fun g => g.name == f.name) = none := List.find?_eq_none.2 fun g hg => by simpa using Ne.symm (lt_ne (hs.2.1.1 g hg))
    rw [e1, e2]
    rfl
  · have e : (f.name == n) = false := by simpa using h
    rw [e, if_neg h]

theorem MapIs.del {D : DataW Unit} {ds rs : List Fl} {f : Fl} (h : MapIs D (ds ++ f :: rs)) (ht : Tidy D) (hs : (ds ++ f :: rs).Pairwise (fun f g => f.name < g.name)) : MapIs (D.del (.string f.name)) (ds ++ rs) := by
  have hlk : look (ds ++ f :: rs) f.name = some f := look_of_mem hs (by simp)
  refine ⟨fun n => ?_, fun n => ?_, ?_⟩
  · rw [look_del hs n]
    by_cases e : f.name = n
    · subst e
      rw [atKey_del_same, if_pos rfl]
    · rw [atKey_del_other (by simpa using fun e2 => e e2.symm), h.at_ n, if_neg e]
  · rw [look_del hs n]
    by_cases e : f.name = n
    · subst e
      rw [has_del_same, if_pos rfl]
      rfl
    · rw [has_del_other (by simpa using fun e2 => e e2.symm), h.has n, if_neg e]
  · have e := size_del (k := .string f.name) ht
    rw [h.has, hlk, h.size] at e
    simp at e ⊢
    omega

theorem disk_drop {w w1 w2 : World} {p bm : Nat} {kv : Value} {ds rs : List Fl} {f : Fl} {s s' : Ds} (h : DiskAt w p bm kv (ds ++ f :: rs) s) (hk1 : Kept [p] w w1) (hc : w1.heap[p]? = some (.cells (diskCells bm kv s') 72 (0, 0))) (hs : s'.keep = s.keep)
    {D : DataW Unit} (hD : MapIs D (ds ++ f :: rs)) (ht : Tidy D) (hown : w2.ownsMap Try.prog 9 ptrE bm (ds ++ f :: rs).length (D.del (.string f.name))) (hk : Kept [bm] w1 w2) :
    DiskAt w2 p bm kv (ds ++ rs) s' ∧ Kept (feet p bm kv (ds ++ f :: rs)) w w2 ∧ Newly w (feet p bm kv (ds ++ f :: rs)) (feet p bm kv (ds ++ rs)) := by
  have h1 := h.put0 hk1 hc hs
  have hnd := h1.apart
  have hsub : ∀ x ∈ feet p bm kv (ds ++ rs), x ∈ feet p bm kv (ds ++ f :: rs) := fun x hx => (feet_perm p bm kv ds rs f).mem_iff.2 (List.mem_append.2 (.inr hx))
  have hnd2 := (feet_perm p bm kv ds rs f).nodup_iff.1 hnd
  rw [List.nodup_append] at hnd2
  have hnd3 := hnd2.2.1
  have hbm : ∀ x, x ∈ own kv ∨ x ∈ (ds ++ rs).flatMap foot → x ≠ bm := fun x hx e => by
    subst e
    unfold feet at hnd3
    rw [List.nodup_cons, List.nodup_cons] at hnd3
    exact hnd3.2.1 (List.mem_append.2 hx)
  have hpb : p ≠ bm := fun e => by
    subst e
    unfold feet at hnd3
    rw [List.nodup_cons] at hnd3
    exact hnd3.1 (by simp)
  have hmd := hD.del ht h.sorted
  have hsz : Maps.size (D.del (.string f.name)) = (ds ++ rs).length := hmd.size
  refine ⟨⟨?_, ⟨_, ?_, hmd⟩, ?_, ?_, hnd3, ?_⟩, ?_, Newly.of_sub hsub⟩
  · exact (hk.block p (h1.lt p (by simp [feet])) (by simpa using hpb)).trans h1.cells
  · obtain ⟨es, clock, hb, F, hle, hD2⟩ := hown
    refine ⟨es, clock, hb, F, ?_, hD2⟩
    rw [← hsz, hD2]
    simp [Maps.size, length_sorted]
  · intro g hg
    have hg2 : g ∈ ds ++ f :: rs := by
      rcases List.mem_append.1 hg with hg | hg
      · simp [hg]
      · simp [hg]
    exact (h1.files g hg2).kept hk (fun x hx => by simpa using hbm x (.inr (List.mem_flatMap.2 ⟨g, hg, hx⟩)))
  · exact h1.keep.kept hk (fun x hx => by simpa using hbm x (.inl hx))
  · have := h.sorted
    rw [List.pairwise_append, List.pairwise_cons] at this
    rw [List.pairwise_append]
    exact ⟨this.1, this.2.1.2, fun a ha b hb => this.2.2 a ha b (by simp [hb])⟩
  · exact (hk1.mono (fp' := feet p bm kv (ds ++ f :: rs)) (by simp [feet])).trans hk (Newly.of_sub (by simp [feet]))

set_option maxRecDepth 100000 in
set_option maxHeartbeats 4000000 in
/-- drop, of a file that there is. -/
theorem drop_go {w : World} {p bm : Nat} {kv : Value} {ds rs : List Fl} {f : Fl} {s : Ds} (h : DiskAt w p bm kv (ds ++ f :: rs) s) (nm : ByteArray) (hnm : nm.size ≤ maxLen) (hn : nm.data.toList = f.name) (hl : f.now.length ≤ 1073741824) (hs0 : 0 ≤ s.used ∧ s.used ≤ 67108864) :
    Calls Try.prog 54 #[.pointer (some ⟨p, 0, none⟩), .string nm] w fun e w' => e = .returned (.tuple #[]) ∧ DiskAt w' p bm kv (ds ++ rs) { s with used := s.used - sec f.now.length } ∧ Kept (feet p bm kv (ds ++ f :: rs)) w w' ∧ Newly w (feet p bm kv (ds ++ f :: rs)) (feet p bm kv (ds ++ rs)) := by
  have hf := h.files f (by simp)
  have hpf : p ≠ f.blk := fun e => by
    have hnd := (feet_perm p bm kv ds rs f).nodup_iff.1 h.apart
    rw [List.nodup_append] at hnd
    exact hnd.2.2 p (by simp [foot, e]) p (by simp [feet]) rfl
  have c0 := cell_of_heap hf.cells 0
  simp at c0
  obtain ⟨na, ncap, hvn, _⟩ := hf.rnow.isB.form
  rw [hvn] at c0
  obtain ⟨d0, _, d2, _, _, _, _, d7⟩ := h.cellAt
  have LK := h.look nm hnm
  have e1 : look (ds ++ f :: rs) nm.data.toList = some f := by rw [hn]; exact look_of_mem h.sorted (by simp)
  rw [e1] at LK
  unfold ptrOf at LK
  simp only [Option.map_some] at LK
  obtain ⟨D, hown, hD⟩ := h.map
  obtain ⟨L, hL⟩ : ∃ L, L = f.now.length := ⟨_, rfl⟩
  rw [← hL] at c0 hl ⊢
  have S1 := hide (fun W => sectors_any L (by omega) W)
  have b1 := sec_nonneg L
  have b2 : sec L ≤ 67108865 := by unfold sec; omega
  generalize sec L = X at S1 b1 b2 ⊢
  have hwr : IntKind.i64.wrap (s.used - X) = s.used - X := i64_small _ (by omega) (by omega)
  obtain ⟨q, hq⟩ : ∃ q, q = f.blk := ⟨_, rfl⟩
  rw [← hq] at c0 LK hpf
  have k1 : Kept [p] w (w.setCell ⟨p, 2, none⟩ (.int .i64 (s.used - X))) := (Kept.refl _ w).setCell (p := ⟨p, 2, none⟩) (.inl (by simp)) _
  have h1c : (w.setCell ⟨p, 2, none⟩ (.int .i64 (s.used - X))).heap[p]? = some (.cells (diskCells bm kv { s with used := s.used - X }) 72 (0, 0)) := by
    have e := heap_setCell h.cells 2 (.int .i64 (s.used - X))
    simpa [diskCells] using e
  have hpb : bm ≠ p := fun e => by
    have hnd := h.apart
    unfold feet at hnd
    rw [List.nodup_cons] at hnd
    exact hnd.1 (by simp [e])
  have ow1 : (w.setCell ⟨p, 2, none⟩ (.int .i64 (s.used - X))).ownsMap Try.prog 9 ptrE bm (ds ++ f :: rs).length D := ownsMap_kept hown k1 (by simpa using hpb)
  have OW := hide ow1
  have HH := hide h
  have HD := hide hD
  have HT := hide (hown.tidy strLaw)
  have HK1 := hide k1
  have HC := hide h1c
  have HN := hide hn
  have HNM := hide hnm
  clear h hD hown k1 h1c hn hf hvn e1 hL hq ow1 hnm
  go_enter Try.func54, Try.ntmps54
  go_wp2
  go_region_law (go_simp; go_at_call 59; refine (S1.out _).mono ?_; rintro e w5 ⟨rfl, rfl⟩)
  all_goals
    go_wp2_with (at_delete; refine wpList_delete_own _ rfl _ _ 65 9 rfl 75 strLaw Try.underlying65 ptrE bm (ds ++ f :: rs).length D rfl OW.out.drew _ (.string nm.data.toList) rfl (WideMaps.keyOf_string_mk Try.underlying9 HNM.out) ?_; intro w6 o6 t6; have O6 := hide o6; have T6 := hide t6; clear o6 t6)
    go_end0
    have o7 := O6.out
    rw [HN.out] at o7
    have q := disk_drop HH.out HK1.out.drew HC.out rfl HD.out HT.out o7 (⟨T6.out.grown.os, T6.out.grown.tape, T6.out.grown.output, T6.out.grown.size, fun k hk hne => T6.out.grown.block k hk (fun e => hne (by simpa using e))⟩ : Kept [bm] _ w6)
    exact ⟨rfl, q.1, q.2.1, q.2.2⟩

/-- All files but the one of a name. -/
def delA (l : List Ab) (n : List UInt8) : List Ab := l.filter (fun y => !(y.1 == n))

theorem delA_split {a b : List Ab} {x : Ab} (h : (a ++ x :: b).Pairwise (fun f g => f.1 < g.1)) : delA (a ++ x :: b) x.1 = a ++ b := by
  rw [List.pairwise_append, List.pairwise_cons] at h
  unfold delA
  rw [List.filter_append, List.filter_cons, if_neg (by simp)]
  have e1 : a.filter (fun y => !(y.1 == x.1)) = a := List.filter_eq_self.2 fun z hz => by simpa using lt_ne (h.2.2 z hz x (by simp))
  have e2 : b.filter (fun y => !(y.1 == x.1)) = b := List.filter_eq_self.2 fun z hz => by simpa using Ne.symm (lt_ne (h.2.1.1 z hz))
  rw [e1, e2]

/-- What Remove leaves. -/
def removeA (A : List Ab × Ds) (x : Ab) : List Ab × Ds := (delA A.1 x.1, { A.2 with used := A.2.used - sec x.2.1.length })

theorem removeA_ok {a b : List Ab} {x : Ab} {s : Ds} (h : okA (a ++ x :: b) s) : okA (a ++ b) { s with used := s.used - sec x.2.1.length } := by
  have h1 := h.used
  have h2 := h.len
  have h3 := h.fits
  have h4 := sec_nonneg x.2.1.length
  rw [usedB_append, usedB_cons] at h1
  have hm : ∀ y ∈ a ++ b, y ∈ a ++ x :: b := fun y hy => by
    rcases List.mem_append.1 hy with hy | hy
    · simp [hy]
    · simp [hy]
  refine ⟨fun y hy => h.ok y (hm y hy), ?_, ?_, h.room, h.ops, ?_, h.left, h.keep, fun y hy => h.names y (hm y hy)⟩
  · rw [usedB_append]
    simp only
    omega
  · simp only
    omega
  · simp only [List.length_append, List.length_cons] at h2 ⊢
    omega

set_option maxRecDepth 100000 in
set_option maxHeartbeats 2000000 in
theorem Dk.remove_ok {w : World} {fp : List Nat} {p : Nat} {l : List Ab} {s : Ds} (h : Dk w fp p l s) (hn : s.ops ≤ 1000000) (nm : ByteArray) (hnm : nm.size ≤ maxLen) {x : Ab} (he : errA (beginA l s) nm.data.toList = none) (hx : lookA (beginA l s).1 nm.data.toList = some x) :
    Calls Try.prog 30 #[.pointer (some ⟨p, 0, none⟩), .string nm] w fun e w' => e = .returned (.int .i64 0) ∧ Outc w w' fp p (removeA (beginA l s) x) := by
  obtain ⟨bm, kv, fs, d, rfl, rfl, ho⟩ := h
  have hok := hide (beginA_ok ho)
  have FD := hide (find_ok d ho hn nm hnm he hx)
  have DR := hide (fun (w1 : World) (kv1 : Value) (fs1 : List Fl) (s1 : Ds) (f1 : Fl) (hl1 : look fs1 nm.data.toList = some f1) (hf1 : f1.ab = x) (L1 : Left w w1 p bm kv fs kv1 fs1 s1 (beginA (fs.map Fl.ab) s)) => by
    have hok1 : okA (fs1.map Fl.ab) s1 := by
      have e := L1.2.1
      have e1 := congrArg (fun y => y.1) e
      have e2 := congrArg (fun y => y.2) e
      simp only at e1 e2
      rw [e1, e2]
      exact hok.out
    obtain ⟨ds, rs, hsp⟩ := List.append_of_mem (look_name hl1).1
    have hL := file_len hok1 (look_name hl1).1
    have hu := hok1.used
    have hft := hok1.fits
    have hrm := hok1.room
    have hnn := usedB_nonneg (fs1.map Fl.ab)
    subst hsp
    have q := drop_go L1.1 nm hnm (look_name hl1).2.symm hL.1 ⟨by omega, by omega⟩
    refine (q.mono (R' := fun e w' => e = .returned (.tuple #[]) ∧ Outc w w' (feet p bm kv fs) p (removeA (beginA (fs.map Fl.ab) s) x)) ?_)
    rintro e w' ⟨rfl, d2, k2, n2⟩
    refine ⟨rfl, ?_⟩
    have e := L1.2.1
    have eA : removeA (beginA (fs.map Fl.ab) s) x = ((ds ++ rs).map Fl.ab, { s1 with used := s1.used - sec f1.now.length }) := by
      rw [← e, ← hf1]
      unfold removeA
      have e3 := delA_split (a := ds.map Fl.ab) (b := rs.map Fl.ab) (x := f1.ab) (by have := sortedA L1.1.sorted; simpa using this)
      simp only [List.map_append, List.map_cons]
      rw [e3]
      rfl
    have L2 : Left w1 w' p bm kv1 (ds ++ f1 :: rs) kv1 (ds ++ rs) { s1 with used := s1.used - sec f1.now.length } (removeA (beginA (fs.map Fl.ab) s) x) := ⟨d2, eA.symm, k2, n2⟩
    refine (Left.trans L1 L2).outc ?_
    rw [eA]
    have h9 := removeA_ok (a := ds.map Fl.ab) (b := rs.map Fl.ab) (x := f1.ab) (s := s1) (by simpa using hok1)
    simpa [Fl.ab] using h9)
  clear d ho he hx
  generalize beginA (fs.map Fl.ab) s = A at FD hok DR ⊢
  go_enter Try.func30, Try.ntmps30
  go_wp2_with (first | (go_at_call 51; refine FD.out.mono ?_; rintro e w1 ⟨kv1, fs1, s1, f1, rfl, hl1, hf1, L1⟩; have D1 := hide (DR.out w1 kv1 fs1 s1 f1 hl1 hf1 L1); clear L1 hf1 hl1) | (go_at_call 54; refine D1.out.mono ?_; rintro e w2 ⟨rfl, o2⟩; have O2 := hide o2; clear o2))
  go_ret
  exact ⟨rfl, O2.out⟩

end Go.Proofs.Ytahhokhhgamelaa
