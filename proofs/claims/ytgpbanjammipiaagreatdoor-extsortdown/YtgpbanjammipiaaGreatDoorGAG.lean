/-
  Lemma texts, one behind the other: DShown, DErr, DDrop, DRead, DSync, DMore, IPure. No statement of the seat is proved here.
-/
import Derived.Test.YtgpbanjammipiaaGreatDoorGAF
import Derived.Test.YtgpbanjammipiaaGreatDoorGAB
import Derived.Test.YtgpbanjammipiaaGreatDoorGAC
namespace Go.Proofs.YtgpbanjammipiaaGreatDoor
open Go.RowKit Go.Maps Go.Sort Go.Shelf

/-- A disk of the call's own, all of whose blocks lie from B on. -/
def Sd (B : Nat) (w0 w : World) (p : Nat) (l : List Ab) (s : Ds) : Prop := ∃ fp, Dk w fp p l s ∧ Below B w0 w ∧ (∀ x ∈ fp, B ≤ x) ∧ B ≤ w.heap.size

section
variable {B : Nat} {w0 w : World} {p : Nat} {l : List Ab} {s : Ds}

theorem Outc.sd {w' : World} {fp : List Nat} {A : List Ab × Ds} (h : Outc w w' fp p A) (hb : Below B w0 w) (hf : ∀ x ∈ fp, B ≤ x) (hB : B ≤ w.heap.size) : Sd B w0 w' p A.1 A.2 := by
  obtain ⟨fp', d, k, n⟩ := h
  refine ⟨fp', d, hb.trans (k.below hB hf), fun x hx => ?_, Nat.le_trans hB k.size⟩
  rcases n x hx with h1 | h1
  · exact hf x h1
  · omega

theorem Sd.base (h : Sd B w0 w p l s) : B ≤ w.heap.size := by
  obtain ⟨fp, d, b, f, hB⟩ := h
  exact hB
theorem Sd.bel (h : Sd B w0 w p l s) : Below B w0 w := by
  obtain ⟨fp, d, b, f, hB⟩ := h
  exact b

theorem Sd.below {w' : World} (h : Sd B w0 w p l s) (hb : Below w.heap.size w w') : Sd B w0 w' p l s := by
  obtain ⟨fp, d, b, f, hB⟩ := h
  exact ⟨fp, d.below hb, b.trans (hb.mono hB), f, Nat.le_trans hB hb.size⟩

theorem Sd.new (room : Int) (hr : room ≤ 67108864) (w : World) (hb : Below B w0 w) (hB : B ≤ w.heap.size) : Calls Tryz.prog 12 #[.int .i64 room] w fun e w' => e = .returned (.pointer (some ⟨w.heap.size + 1, 0, none⟩)) ∧
    Sd B w0 w' (w.heap.size + 1) [] { room := max room 0, used := 0, ops := 0, down := false, left := 0, keep := [] } := by
  refine (new_dk room hr w).mono ?_
  rintro e w' ⟨rfl, fp, d, b, f⟩
  exact ⟨rfl, fp, d, hb.trans (b.mono hB), fun x hx => Nat.le_trans hB (f x hx), Nat.le_trans hB b.size⟩

theorem Sd.create (h : Sd B w0 w p l s) (hn : s.ops ≤ 1000000) (nm : ByteArray) (hnm : nm.size ≤ maxLen) {k : Int} {l' : List Ab} {s' : Ds} (hr : createA (beginA l s) nm.data.toList = (k, (l', s'))) :
    Calls Tryz.prog 25 #[.pointer (some ⟨p, 0, none⟩), .string nm] w fun e w' => e = .returned (.int .i64 k) ∧ Sd B w0 w' p l' s' := by
  obtain ⟨fp, d, b, f, hB⟩ := h
  refine (d.create hn nm hnm).mono ?_
  rintro e w' ⟨rfl, o⟩
  rw [hr] at o ⊢
  exact ⟨rfl, o.sd b f hB⟩

/-- Append, of bytes that came in. -/
theorem Sd.append (h : Sd B w0 w p l s) (hn : s.ops ≤ 1000000) (nm : ByteArray) (hnm : nm.size ≤ maxLen) (u : Value) (cs : List Int) (hu : IsB w u cs) (hcl : cs.length ≤ 1073741824) (hux : cs ≠ [] → ∀ x ∈ own u, x < B) {k : Int} {l' : List Ab} {s' : Ds} (hr : appendA (beginA l s) nm.data.toList cs = (k, (l', s'))) :
    Calls Tryz.prog 26 #[.pointer (some ⟨p, 0, none⟩), .string nm, u] w fun e w' => e = .returned (.int .i64 k) ∧ Sd B w0 w' p l' s' := by
  obtain ⟨fp, d, b, f, hB⟩ := h
  refine (d.append hn nm hnm u cs hu hcl (fun hne x hx e => by have := hux hne x hx; have := f x e; omega)).mono ?_
  rintro e w' ⟨rfl, o⟩
  rw [hr] at o ⊢
  exact ⟨rfl, o.sd b f hB⟩

/-- Append, of bytes that were made behind the disk's last operation. -/
theorem Sd.appendN {w1 : World} (h : Sd B w0 w p l s) (hn : s.ops ≤ 1000000) (nm : ByteArray) (hnm : nm.size ≤ maxLen) (u : Value) (cs : List Int) (hb : Below w.heap.size w w1) (hu : IsB w1 u cs) (hcl : cs.length ≤ 1073741824) (hux : ∀ x ∈ own u, w.heap.size ≤ x) {k : Int} {l' : List Ab} {s' : Ds} (hr : appendA (beginA l s) nm.data.toList cs = (k, (l', s'))) :
    Calls Tryz.prog 26 #[.pointer (some ⟨p, 0, none⟩), .string nm, u] w1 fun e w' => e = .returned (.int .i64 k) ∧ Sd B w0 w' p l' s' := by
  obtain ⟨fp, d, b, f, hB⟩ := h
  have hlt := d.lt
  refine ((d.below hb).append hn nm hnm u cs hu hcl (fun _ x hx e => by have := hux x hx; have := hlt x e; omega)).mono ?_
  rintro e w' ⟨rfl, o⟩
  rw [hr] at o ⊢
  exact ⟨rfl, o.sd (b.trans (hb.mono hB)) f (Nat.le_trans hB hb.size)⟩

theorem Sd.size (h : Sd B w0 w p l s) (hn : s.ops ≤ 1000000) (nm : ByteArray) (hnm : nm.size ≤ maxLen) {k m : Int} {l' : List Ab} {s' : Ds} (hr : beginA l s = (l', s')) (hm : sizeA (l', s') nm.data.toList = (m, k)) :
    Calls Tryz.prog 52 #[.pointer (some ⟨p, 0, none⟩), .string nm] w fun e w' => e = .returned (.tuple #[.int .i64 m, .int .i64 k]) ∧ Sd B w0 w' p l' s' := by
  obtain ⟨fp, d, b, f, hB⟩ := h
  refine (d.size hn nm hnm).mono ?_
  rintro e w' ⟨rfl, o⟩
  rw [hr] at o ⊢
  rw [hm]
  exact ⟨rfl, o.sd b f hB⟩

theorem Sd.crash (h : Sd B w0 w p l s) (hn : s.ops ≤ 1048576) (u : Value) (ks : List Bool) (hu : IsK w u ks) (hux : ks ≠ [] → ∀ x ∈ own u, x < B) (hkl : ks.length ≤ 1099511627776) {l' : List Ab} {s' : Ds} (hr : crashA ks l s = (l', s')) :
    Calls Tryz.prog 91 #[.pointer (some ⟨p, 0, none⟩), u] w fun e w' => e = .returned (.tuple #[]) ∧ Sd B w0 w' p l' s' := by
  obtain ⟨fp, d, b, f, hB⟩ := h
  refine (d.crash hn u ks hu (fun hne x hx e => by have := hux hne x hx; have := f x e; omega) hkl).mono ?_
  rintro e w' ⟨rfl, o⟩
  rw [hr] at o
  exact ⟨rfl, o.sd b f hB⟩

theorem Sd.arm (h : Sd B w0 w p l s) (n : Int) (hn : n ≤ 9223372036854775807) (u : Value) (ks : List Bool) (hu : IsK w u ks) (hux : ks ≠ [] → ∀ x ∈ own u, x < B) (hkl : ks.length ≤ 1099511627776) {l' : List Ab} {s' : Ds} (hr : armA l s n ks = (l', s')) :
    Calls Tryz.prog 22 #[.pointer (some ⟨p, 0, none⟩), .int .i64 n, u] w fun e w' => e = .returned (.tuple #[]) ∧ Sd B w0 w' p l' s' := by
  obtain ⟨fp, d, b, f, hB⟩ := h
  refine (d.arm n hn u ks hu (fun hne x hx e => by have := hux hne x hx; have := f x e; omega) hkl).mono ?_
  rintro e w' ⟨rfl, o⟩
  rw [hr] at o
  exact ⟨rfl, o.sd b f hB⟩

theorem Sd.restart (h : Sd B w0 w p l s) : Calls Tryz.prog 24 #[.pointer (some ⟨p, 0, none⟩)] w fun e w' => e = .returned (.tuple #[]) ∧ Sd B w0 w' p l { s with down := false } := by
  obtain ⟨fp, d, b, f, hB⟩ := h
  refine d.restart.mono ?_
  rintro e w' ⟨rfl, o⟩
  exact ⟨rfl, o.sd b f hB⟩

theorem Sd.down (h : Sd B w0 w p l s) : Calls Tryz.prog 23 #[.pointer (some ⟨p, 0, none⟩)] w fun e w' => e = .returned (.bool s.down) ∧ w' = w := by
  obtain ⟨fp, d, _⟩ := h
  exact d.down
theorem Sd.used (h : Sd B w0 w p l s) : Calls Tryz.prog 21 #[.pointer (some ⟨p, 0, none⟩)] w fun e w' => e = .returned (.int .i64 s.used) ∧ w' = w := by
  obtain ⟨fp, d, _⟩ := h
  exact d.used
end

end Go.Proofs.YtgpbanjammipiaaGreatDoor

namespace Go.Proofs.YtgpbanjammipiaaGreatDoor
open Go.RowKit Go.Maps Go.Sort Go.Shelf

section
variable {w : World} {fp : List Nat} {p : Nat} {l : List Ab} {s : Ds}

set_option maxRecDepth 100000 in
set_option maxHeartbeats 2000000 in
theorem Dk.readAt_err (h : Dk w fp p l s) (hn : s.ops ≤ 1000000) (nm : ByteArray) (hnm : nm.size ≤ maxLen) (at_ n : Int) {k : Int} (he : errA (beginA l s) nm.data.toList = some k) :
    Calls Tryz.prog 147 #[.pointer (some ⟨p, 0, none⟩), .string nm, .int .i64 at_, .int .i64 n] w fun e w' => e = .returned (.tuple #[.slice none 0 0, .int .i64 k]) ∧ Outc w w' fp p (beginA l s) := by
  obtain ⟨bm, kv, fs, d, rfl, rfl, ho⟩ := h
  have hok := hide (beginA_ok ho)
  have FD := hide (find_err d ho hn nm hnm he)
  have hk := errA_ne he
  have hk0 : ¬ k = 0 := by omega
  clear d ho he hnm
  generalize beginA (fs.map Fl.ab) s = A at FD hok ⊢
  go_enter Tryz.func147, Tryz.ntmps147
  go_wp2_with (go_at_call 42; refine FD.out.mono ?_; rintro e w1 ⟨rfl, kv1, fs1, s1, L1⟩; have HL := hide L1; clear L1)
  go_ret2
  exact ⟨rfl, HL.out.outc hok.out⟩

set_option maxRecDepth 100000 in
set_option maxHeartbeats 2000000 in
theorem Dk.sync_err (h : Dk w fp p l s) (hn : s.ops ≤ 1000000) (nm : ByteArray) (hnm : nm.size ≤ maxLen) {k : Int} (he : errA (beginA l s) nm.data.toList = some k) :
    Calls Tryz.prog 47 #[.pointer (some ⟨p, 0, none⟩), .string nm] w fun e w' => e = .returned (.int .i64 k) ∧ Outc w w' fp p (beginA l s) := by
  obtain ⟨bm, kv, fs, d, rfl, rfl, ho⟩ := h
  have hok := hide (beginA_ok ho)
  have FD := hide (find_err d ho hn nm hnm he)
  have hk := errA_ne he
  have hk0 : ¬ k = 0 := by omega
  clear d ho he hnm
  generalize beginA (fs.map Fl.ab) s = A at FD hok ⊢
  go_enter Tryz.func47, Tryz.ntmps47
  go_wp2_with (go_at_call 42; refine FD.out.mono ?_; rintro e w1 ⟨rfl, kv1, fs1, s1, L1⟩; have HL := hide L1; clear L1)
  go_ret
  exact ⟨rfl, HL.out.outc hok.out⟩

set_option maxRecDepth 100000 in
set_option maxHeartbeats 2000000 in
theorem Dk.remove_err (h : Dk w fp p l s) (hn : s.ops ≤ 1000000) (nm : ByteArray) (hnm : nm.size ≤ maxLen) {k : Int} (he : errA (beginA l s) nm.data.toList = some k) :
    Calls Tryz.prog 60 #[.pointer (some ⟨p, 0, none⟩), .string nm] w fun e w' => e = .returned (.int .i64 k) ∧ Outc w w' fp p (beginA l s) := by
  obtain ⟨bm, kv, fs, d, rfl, rfl, ho⟩ := h
  have hok := hide (beginA_ok ho)
  have FD := hide (find_err d ho hn nm hnm he)
  have hk := errA_ne he
  have hk0 : ¬ k = 0 := by omega
  clear d ho he hnm
  generalize beginA (fs.map Fl.ab) s = A at FD hok ⊢
  go_enter Tryz.func60, Tryz.ntmps60
  go_wp2_with (go_at_call 42; refine FD.out.mono ?_; rintro e w1 ⟨rfl, kv1, fs1, s1, L1⟩; have HL := hide L1; clear L1)
  go_ret
  exact ⟨rfl, HL.out.outc hok.out⟩

end

end Go.Proofs.YtgpbanjammipiaaGreatDoor

namespace Go.Proofs.YtgpbanjammipiaaGreatDoor
open Go.RowKit Go.Maps Go.Sort Go.Shelf

theorem look_del {ds rs : List Fl} {f : Fl} (hs : (ds ++ f :: rs).Pairwise (fun f g => f.name < g.name)) (n : List UInt8) : look (ds ++ rs) n = if f.name = n then none else look (ds ++ f :: rs) n := by
  rw [List.pairwise_append, List.pairwise_cons] at hs
  unfold look
  rw [List.find?_append, List.find?_append, List.find?_cons]
  by_cases h : f.name = n
  · subst h
    rw [if_pos rfl]
    have e1 : ds.find? (fun g => g.name == f.name) = none := List.find?_eq_none.2 fun g hg => by simpa using lt_ne (hs.2.2 g hg f (by simp))
    have e2 : rs.find? (fun g => g.name == f.name) = none := List.find?_eq_none.2 fun g hg => by simpa using Ne.symm (lt_ne (hs.2.1.1 g hg))
    rw [e1, e2]
    rfl
  · have e : (f.name == n) = false := by simpa using h
    rw [e, if_neg h]

theorem MapIs.del {D : DataW Unit} {ds rs : List Fl} {f : Fl} (h : MapIs D (ds ++ f :: rs)) (ht : Tidy D) (hs : (ds ++ f :: rs).Pairwise (fun f g => f.name < g.name)) : MapIs (D.del (.string f.name)) (ds ++ rs) := by
  have hlk : look (ds ++ f :: rs) f.name = some f := look_of_mem hs (by simp)
  refine ⟨fun n => ?_, fun n => ?_, ?_⟩
  · rw [look_del hs n]
    by_cases e : f.name = n
    · subst e
      rw [atKey_del_same, if_pos rfl]
    · rw [atKey_del_other (by simpa using fun e2 => e e2.symm), h.at_ n, if_neg e]
  · rw [look_del hs n]
    by_cases e : f.name = n
    · subst e
      rw [has_del_same, if_pos rfl]
      rfl
    · rw [has_del_other (by simpa using fun e2 => e e2.symm), h.has n, if_neg e]
  · have e := size_del (k := .string f.name) ht
    rw [h.has, hlk, h.size] at e
    simp at e ⊢
    omega

theorem disk_drop {w w1 w2 : World} {p bm : Nat} {kv : Value} {ds rs : List Fl} {f : Fl} {s s' : Ds} (h : DiskAt w p bm kv (ds ++ f :: rs) s) (hk1 : Kept [p] w w1) (hc : w1.heap[p]? = some (.cells (diskCells bm kv s') 60 (0, 0))) (hs : s'.keep = s.keep)
    {D : DataW Unit} (hD : MapIs D (ds ++ f :: rs)) (ht : Tidy D) (hown : w2.ownsMap Tryz.prog 9 ptrE bm (ds ++ f :: rs).length (D.del (.string f.name))) (hk : Kept [bm] w1 w2) :
    DiskAt w2 p bm kv (ds ++ rs) s' ∧ Kept (feet p bm kv (ds ++ f :: rs)) w w2 ∧ Newly w (feet p bm kv (ds ++ f :: rs)) (feet p bm kv (ds ++ rs)) := by
  have h1 := h.put0 hk1 hc hs
  have hnd := h1.apart
  have hsub : ∀ x ∈ feet p bm kv (ds ++ rs), x ∈ feet p bm kv (ds ++ f :: rs) := fun x hx => (feet_perm p bm kv ds rs f).mem_iff.2 (List.mem_append.2 (.inr hx))
  have hnd2 := (feet_perm p bm kv ds rs f).nodup_iff.1 hnd
  rw [List.nodup_append] at hnd2
  have hnd3 := hnd2.2.1
  have hbm : ∀ x, x ∈ own kv ∨ x ∈ (ds ++ rs).flatMap foot → x ≠ bm := fun x hx e => by
    subst e
    unfold feet at hnd3
    rw [List.nodup_cons, List.nodup_cons] at hnd3
    exact hnd3.2.1 (List.mem_append.2 hx)
  have hpb : p ≠ bm := fun e => by
    subst e
    unfold feet at hnd3
    rw [List.nodup_cons] at hnd3
    exact hnd3.1 (by simp)
  have hmd := hD.del ht h.sorted
  have hsz : Maps.size (D.del (.string f.name)) = (ds ++ rs).length := hmd.size
  refine ⟨⟨?_, ⟨_, ?_, hmd⟩, ?_, ?_, hnd3, ?_⟩, ?_, Newly.of_sub hsub⟩
  · exact (hk.block p (h1.lt p (by simp [feet])) (by simpa using hpb)).trans h1.cells
  · obtain ⟨es, clock, hb, F, hle, hD2⟩ := hown
    refine ⟨es, clock, hb, F, ?_, hD2⟩
    rw [← hsz, hD2]
    simp [Maps.size, length_sorted]
  · intro g hg
    have hg2 : g ∈ ds ++ f :: rs := by
      rcases List.mem_append.1 hg with hg | hg
      · simp [hg]
      · simp [hg]
    exact (h1.files g hg2).kept hk (fun x hx => by simpa using hbm x (.inr (List.mem_flatMap.2 ⟨g, hg, hx⟩)))
  · exact h1.keep.kept hk (fun x hx => by simpa using hbm x (.inl hx))
  · have := h.sorted
    rw [List.pairwise_append, List.pairwise_cons] at this
    rw [List.pairwise_append]
    exact ⟨this.1, this.2.1.2, fun a ha b hb => this.2.2 a ha b (by simp [hb])⟩
  · exact (hk1.mono (fp' := feet p bm kv (ds ++ f :: rs)) (by simp [feet])).trans hk (Newly.of_sub (by simp [feet]))

set_option maxRecDepth 100000 in
set_option maxHeartbeats 4000000 in
/-- drop, of a file that there is. -/
theorem drop_go {w : World} {p bm : Nat} {kv : Value} {ds rs : List Fl} {f : Fl} {s : Ds} (h : DiskAt w p bm kv (ds ++ f :: rs) s) (nm : ByteArray) (hnm : nm.size ≤ maxLen) (hn : nm.data.toList = f.name) (hl : f.now.length ≤ 1073741824) (hs0 : 0 ≤ s.used ∧ s.used ≤ 67108864) :
    Calls Tryz.prog 88 #[.pointer (some ⟨p, 0, none⟩), .string nm] w fun e w' => e = .returned (.tuple #[]) ∧ DiskAt w' p bm kv (ds ++ rs) { s with used := s.used - sec f.now.length } ∧ Kept (feet p bm kv (ds ++ f :: rs)) w w' ∧ Newly w (feet p bm kv (ds ++ f :: rs)) (feet p bm kv (ds ++ rs)) := by
  have hf := h.files f (by simp)
  have hpf : p ≠ f.blk := fun e => by
    have hnd := (feet_perm p bm kv ds rs f).nodup_iff.1 h.apart
    rw [List.nodup_append] at hnd
    exact hnd.2.2 p (by simp [foot, e]) p (by simp [feet]) rfl
  have c0 := cell_of_heap hf.cells 0
  simp at c0
  obtain ⟨na, ncap, hvn, _⟩ := hf.rnow.isB.form
  rw [hvn] at c0
  obtain ⟨d0, _, d2, _, _, _, _, d7⟩ := h.cellAt
  have LK := h.look nm hnm
  have e1 : look (ds ++ f :: rs) nm.data.toList = some f := by rw [hn]; exact look_of_mem h.sorted (by simp)
  rw [e1] at LK
  unfold ptrOf at LK
  simp only [Option.map_some] at LK
  obtain ⟨D, hown, hD⟩ := h.map
  obtain ⟨L, hL⟩ : ∃ L, L = f.now.length := ⟨_, rfl⟩
  rw [← hL] at c0 hl ⊢
  have S1 := hide (fun W => sectors_any L (by omega) W)
  have b1 := sec_nonneg L
  have b2 : sec L ≤ 67108865 := by unfold sec; omega
  generalize sec L = X at S1 b1 b2 ⊢
  have hwr : IntKind.i64.wrap (s.used - X) = s.used - X := i64_small _ (by omega) (by omega)
  obtain ⟨q, hq⟩ : ∃ q, q = f.blk := ⟨_, rfl⟩
  rw [← hq] at c0 LK hpf
  have k1 : Kept [p] w (w.setCell ⟨p, 2, none⟩ (.int .i64 (s.used - X))) := (Kept.refl _ w).setCell (p := ⟨p, 2, none⟩) (.inl (by simp)) _
  have h1c : (w.setCell ⟨p, 2, none⟩ (.int .i64 (s.used - X))).heap[p]? = some (.cells (diskCells bm kv { s with used := s.used - X }) 60 (0, 0)) := by
    have e := heap_setCell h.cells 2 (.int .i64 (s.used - X))
    simpa [diskCells] using e
  have hpb : bm ≠ p := fun e => by
    have hnd := h.apart
    unfold feet at hnd
    rw [List.nodup_cons] at hnd
    exact hnd.1 (by simp [e])
  have ow1 : (w.setCell ⟨p, 2, none⟩ (.int .i64 (s.used - X))).ownsMap Tryz.prog 9 ptrE bm (ds ++ f :: rs).length D := ownsMap_kept hown k1 (by simpa using hpb)
  have OW := hide ow1
  have HH := hide h
  have HD := hide hD
  have HT := hide (hown.tidy strLaw)
  have HK1 := hide k1
  have HC := hide h1c
  have HN := hide hn
  have HNM := hide hnm
  clear h hD hown k1 h1c hn hf hvn e1 hL hq ow1 hnm
  go_enter Tryz.func88, Tryz.ntmps88
  go_wp2
  go_region_law (go_simp; go_at_call 69; refine (S1.out _).mono ?_; rintro e w5 ⟨rfl, rfl⟩)
  all_goals
    go_wp2_with (at_delete; refine wpList_delete_own _ rfl _ _ 53 9 rfl 90 strLaw Tryz.underlying53 ptrE bm (ds ++ f :: rs).length D rfl OW.out.drew _ (.string nm.data.toList) rfl (WideMaps.keyOf_string_mk Tryz.underlying9 HNM.out) ?_; intro w6 o6 t6; have O6 := hide o6; have T6 := hide t6; clear o6 t6)
    go_end0
    have o7 := O6.out
    rw [HN.out] at o7
    have q := disk_drop HH.out HK1.out.drew HC.out rfl HD.out HT.out o7 (⟨T6.out.grown.os, T6.out.grown.tape, T6.out.grown.output, T6.out.grown.size, fun k hk hne => T6.out.grown.block k hk (fun e => hne (by simpa using e))⟩ : Kept [bm] _ w6)
    exact ⟨rfl, q.1, q.2.1, q.2.2⟩

/-- All files but the one of a name. -/
def delA (l : List Ab) (n : List UInt8) : List Ab := l.filter (fun y => !(y.1 == n))

theorem delA_split {a b : List Ab} {x : Ab} (h : (a ++ x :: b).Pairwise (fun f g => f.1 < g.1)) : delA (a ++ x :: b) x.1 = a ++ b := by
  rw [List.pairwise_append, List.pairwise_cons] at h
  unfold delA
  rw [List.filter_append, List.filter_cons, if_neg (by simp)]
  have e1 : a.filter (fun y => !(y.1 == x.1)) = a := List.filter_eq_self.2 fun z hz => by simpa using lt_ne (h.2.2 z hz x (by simp))
  have e2 : b.filter (fun y => !(y.1 == x.1)) = b := List.filter_eq_self.2 fun z hz => by simpa using Ne.symm (lt_ne (h.2.1.1 z hz))
  rw [e1, e2]

/-- What Remove leaves. -/
def removeA (A : List Ab × Ds) (x : Ab) : List Ab × Ds := (delA A.1 x.1, { A.2 with used := A.2.used - sec x.2.1.length })

theorem removeA_ok {a b : List Ab} {x : Ab} {s : Ds} (h : okA (a ++ x :: b) s) : okA (a ++ b) { s with used := s.used - sec x.2.1.length } := by
  have h1 := h.used
  have h2 := h.len
  have h3 := h.fits
  have h4 := sec_nonneg x.2.1.length
  rw [usedB_append, usedB_cons] at h1
  have hm : ∀ y ∈ a ++ b, y ∈ a ++ x :: b := fun y hy => by
    rcases List.mem_append.1 hy with hy | hy
    · simp [hy]
    · simp [hy]
  refine ⟨fun y hy => h.ok y (hm y hy), ?_, ?_, h.room, h.ops, ?_, h.left, h.keep, fun y hy => h.names y (hm y hy)⟩
  · rw [usedB_append]
    simp only
    omega
  · simp only
    omega
  · simp only [List.length_append, List.length_cons] at h2 ⊢
    omega

set_option maxRecDepth 100000 in
set_option maxHeartbeats 2000000 in
theorem Dk.remove_ok {w : World} {fp : List Nat} {p : Nat} {l : List Ab} {s : Ds} (h : Dk w fp p l s) (hn : s.ops ≤ 1000000) (nm : ByteArray) (hnm : nm.size ≤ maxLen) {x : Ab} (he : errA (beginA l s) nm.data.toList = none) (hx : lookA (beginA l s).1 nm.data.toList = some x) :
    Calls Tryz.prog 60 #[.pointer (some ⟨p, 0, none⟩), .string nm] w fun e w' => e = .returned (.int .i64 0) ∧ Outc w w' fp p (removeA (beginA l s) x) := by
  obtain ⟨bm, kv, fs, d, rfl, rfl, ho⟩ := h
  have hok := hide (beginA_ok ho)
  have FD := hide (find_ok d ho hn nm hnm he hx)
  have DR := hide (fun (w1 : World) (kv1 : Value) (fs1 : List Fl) (s1 : Ds) (f1 : Fl) (hl1 : look fs1 nm.data.toList = some f1) (hf1 : f1.ab = x) (L1 : Left w w1 p bm kv fs kv1 fs1 s1 (beginA (fs.map Fl.ab) s)) => by
    have hok1 : okA (fs1.map Fl.ab) s1 := by
      have e := L1.2.1
      have e1 := congrArg (fun y => y.1) e
      have e2 := congrArg (fun y => y.2) e
      simp only at e1 e2
      rw [e1, e2]
      exact hok.out
    obtain ⟨ds, rs, hsp⟩ := List.append_of_mem (look_name hl1).1
    have hL := file_len hok1 (look_name hl1).1
    have hu := hok1.used
    have hft := hok1.fits
    have hrm := hok1.room
    have hnn := usedB_nonneg (fs1.map Fl.ab)
    subst hsp
    have q := drop_go L1.1 nm hnm (look_name hl1).2.symm hL.1 ⟨by omega, by omega⟩
    refine (q.mono (R' := fun e w' => e = .returned (.tuple #[]) ∧ Outc w w' (feet p bm kv fs) p (removeA (beginA (fs.map Fl.ab) s) x)) ?_)
    rintro e w' ⟨rfl, d2, k2, n2⟩
    refine ⟨rfl, ?_⟩
    have e := L1.2.1
    have eA : removeA (beginA (fs.map Fl.ab) s) x = ((ds ++ rs).map Fl.ab, { s1 with used := s1.used - sec f1.now.length }) := by
      rw [← e, ← hf1]
      unfold removeA
      have e3 := delA_split (a := ds.map Fl.ab) (b := rs.map Fl.ab) (x := f1.ab) (by have := sortedA L1.1.sorted; simpa using this)
      simp only [List.map_append, List.map_cons]
      rw [e3]
      rfl
    have L2 : Left w1 w' p bm kv1 (ds ++ f1 :: rs) kv1 (ds ++ rs) { s1 with used := s1.used - sec f1.now.length } (removeA (beginA (fs.map Fl.ab) s) x) := ⟨d2, eA.symm, k2, n2⟩
    refine (Left.trans L1 L2).outc ?_
    rw [eA]
    have h9 := removeA_ok (a := ds.map Fl.ab) (b := rs.map Fl.ab) (x := f1.ab) (s := s1) (by simpa using hok1)
    simpa [Fl.ab] using h9)
  clear d ho he hx
  generalize beginA (fs.map Fl.ab) s = A at FD hok DR ⊢
  go_enter Tryz.func60, Tryz.ntmps60
  go_wp2_with (first | (go_at_call 42; refine FD.out.mono ?_; rintro e w1 ⟨kv1, fs1, s1, f1, rfl, hl1, hf1, L1⟩; have D1 := hide (DR.out w1 kv1 fs1 s1 f1 hl1 hf1 L1); clear L1 hf1 hl1) | (go_at_call 88; refine D1.out.mono ?_; rintro e w2 ⟨rfl, o2⟩; have O2 := hide o2; clear o2))
  go_ret
  exact ⟨rfl, O2.out⟩

end Go.Proofs.YtgpbanjammipiaaGreatDoor

namespace Go.Proofs.YtgpbanjammipiaaGreatDoor
open Go.RowKit Go.Maps Go.Sort Go.Shelf

theorem read_list (now : List Int) (a m : Nat) (h : a + m ≤ now.length) : (zs0 m).take 0 ++ ((now.drop a).take ((zs0 m).length - 0) ++ (zs0 m).drop (0 + (now.drop a).length)) = (now.drop a).take m := by
  have e : (zs0 m).drop (0 + (now.drop a).length) = [] := List.drop_of_length_le (by rw [zs0_length]; simp; omega)
  rw [e, zs0_length]
  simp

set_option maxRecDepth 100000 in
set_option maxHeartbeats 4000000 in
/-- ReadAt: bytes of a file that there is. -/
theorem Dk.read {w : World} {fp : List Nat} {p : Nat} {l : List Ab} {s : Ds} (h : Dk w fp p l s) (hn : s.ops ≤ 1000000) (nm : ByteArray) (hnm : nm.size ≤ maxLen) {x : Ab} (he : errA (beginA l s) nm.data.toList = none) (hx : lookA (beginA l s).1 nm.data.toList = some x) (a m : Nat) (ham : a + m ≤ x.2.1.length) :
    Calls Tryz.prog 147 #[.pointer (some ⟨p, 0, none⟩), .string nm, .int .i64 (a : Int), .int .i64 (m : Int)] w fun e w' => ∃ v, e = .returned (.tuple #[v, .int .i64 0]) ∧ RowB w' v ((x.2.1.drop a).take m) ∧
      ∃ fp', Dk w' fp' p (beginA l s).1 (beginA l s).2 ∧ Kept fp w w' ∧ Newly w fp fp' ∧ ∀ y ∈ own v, w.heap.size ≤ y ∧ y ∉ fp' := by
  obtain ⟨bm, kv, fs, d, rfl, rfl, ho⟩ := h
  have hok := beginA_ok ho
  have HOK := hide hok
  have FD := hide (find_ok d ho hn nm hnm he hx)
  have hxl : x.2.1.length ≤ 1073741824 := by
    have h1 := usedB_mem (lookA_mem hx).1
    have h2 := hok.used
    have h3 := hok.fits
    have h4 := hok.room
    have h5 := sec_le _ _ (Int.le_trans h1 (by omega : usedB (beginA (fs.map Fl.ab) s).1 ≤ 67108864))
    omega
  obtain ⟨L, hL⟩ : ∃ L, L = x.2.1.length := ⟨_, rfl⟩
  have HL := hide hL
  have HRL := hide (read_list x.2.1 a m ham)
  have hi1 : (m : Int) ≤ (L : Int) - (a : Int) := by omega
  have hi2 : ¬ (L : Int) - (a : Int) < (m : Int) := by omega
  have haL : a ≤ L := by omega
  have hmL : m ≤ 1099511627776 := by omega
  have hL2 : L ≤ 1073741824 := by omega
  clear d ho he hnm hx hL hok
  generalize beginA (fs.map Fl.ab) s = A at FD HOK ⊢
  go_enter Tryz.func147, Tryz.ntmps147
  go_wp2_with (first
    | (go_at_call 42; refine FD.out.mono ?_; rintro e w1 ⟨kv1, fs1, s1, f1, rfl, hl1, hf1, L1⟩; have FA := L1.1.files f1 (look_name hl1).1; have c0 := cell_of_heap FA.cells 0; simp at c0; obtain ⟨va, vc, hvn, hvc⟩ := FA.rnow.isB.form; rw [hvn] at c0; have e3 : f1.now = x.2.1 := (by rw [← hf1]; rfl); rw [e3, ← HL.out] at c0 hvc; have RN := FA.rnow; rw [hvn, e3, ← HL.out] at RN; have HRN := hide RN; have hfl := FA.lt f1.blk (by simp [foot]); have sl1 := slice_from va L vc a haL; obtain ⟨dp, hdp⟩ : ∃ dp, dp = (if vc = a then va else va.map (·.add a)) := ⟨_, rfl⟩; have HSB : Hid (IsB w1 (.slice dp (L - a) (vc - a)) (x.2.1.drop a)) := (by rw [hdp]; exact RN.isB.from a haL); rw [← hdp] at sl1; have HLT := hide L1.1.lt; have HL1 := hide L1; clear L1 FA hvn hf1 hl1 e3 RN hdp)
    | (at_make; refine wp_makeB _ rfl _ _ rfl m (m : Int) (m : Int) rfl rfl rfl rfl hmL ?_; intro w2 r2 b2; have R2 := hide r2; have B2 := hide b2; clear r2 b2; have c2 := (B2.out.cell (p := ⟨f1.blk, 0, none⟩) hfl).trans c0)
    | (refine wp_copyM _ rfl _ _ rfl (.slice (some ⟨w1.heap.size, 0, none⟩) m m) (zs0 m) R2.out 0 (Nat.zero_le _) (.slice dp (L - a) (vc - a)) (x.2.1.drop a) (HSB.out.below B2.out) (some ⟨w1.heap.size, 0, none⟩) m m rfl (by rw [zs0_length]; rfl) (by intro _ g hg; simp [Value.ownBlock] at hg; rw [hg]) rfl (min (x.2.1.drop a).length ((zs0 m).length - 0)) rfl ((x.2.1.drop a).take m) HRL.out.symm ?_; intro w3 r3 k3; have R3 := hide r3; have K3 := hide k3; clear r3 k3))
  go_ret2
  obtain ⟨q1, q2, q3, q4⟩ := HL1.out
  have hnw : ∀ y ∈ own (.slice (some ⟨w1.heap.size, 0, none⟩) m m), y = w1.heap.size := fun y hy => by simp [own, Value.ownBlock] at hy; omega
  have k13 : Kept [] w1 w3 := (Kept.of_below (fp := []) B2.out).trans K3.out (fun y hy => .inr (by rw [hnw y hy]; exact Nat.le_refl _))
  refine ⟨_, rfl, R3.out, feet p bm kv1 fs1, ⟨bm, kv1, fs1, ?_, ?_, rfl, HOK.out⟩, q3.trans k13 (Newly.of_sub (by simp)), q4, fun y hy => ?_⟩
  · have e2 := congrArg (fun z => z.2) q2
    simp only at e2
    rw [← e2]
    exact q1.kept k13 (by simp)
  · exact congrArg (fun z => z.1) q2
  · rw [hnw y hy]
    refine ⟨q3.size, fun e => ?_⟩
    have := HLT.out _ e
    omega

end Go.Proofs.YtgpbanjammipiaaGreatDoor

namespace Go.Proofs.YtgpbanjammipiaaGreatDoor
open Go.RowKit Go.Maps Go.Sort Go.Shelf

theorem addr_add0 (a : Addr) : a.add 0 = a := by simp [Addr.add]

/-- A slice's beginning, of no bytes. -/
theorem slice_zero (na : Option Addr) (L cap : Nat) (W : World) :
    (Instr.slice 46 (.slice na L cap) none (some (.int .i64 0)) none).run Tryz.prog W = .ok (.slice na 0 cap) W := by
  obtain ⟨i0, hi, hz0, hz1, hz2⟩ := info_parts Tryz.infoU8
  have e : (na.map fun x => x.add 0) = na := by cases na <;> simp [addr_add0]
  simp [Instr.slice, Instr.sliceBounds, Instr.sliceBound, asIntOf, run_underlying Tryz.underlying46, sizeOf, typeInfo, hi]
  first | done | (intro _; exact e.symm) | (intro _; exact e)

theorem RowB.front {w : World} {na : Option Addr} {L cap : Nat} {bs : List Int} (h : RowB w (.slice na L cap) bs) : RowB w (.slice na 0 cap) [] := by
  obtain ⟨⟨h1, h2⟩, h3⟩ := h
  refine ⟨⟨by simp, ?_⟩, by simp⟩
  rcases h2 with ⟨e, _⟩ | ⟨g, c, cur, e, r1, r2, r3, r4, r5, r6⟩
  · simp only [Value.slice.injEq] at e
    obtain ⟨rfl, rfl, rfl⟩ := e
    exact .inl ⟨rfl, rfl⟩
  · simp only [Value.slice.injEq] at e
    obtain ⟨rfl, rfl, rfl⟩ := e
    exact .inr ⟨g, cap, cur, rfl, r1, r2, Nat.zero_le _, r4, r5, by simp⟩

theorem syncA_ok {a b : List Ab} {x : Ab} {s : Ds} (h : okA (a ++ x :: b) s) : okA (a ++ (x.1, x.2.1, x.2.1) :: b) s :=
  okA_set h rfl (Nat.le_refl _) (by simp only; omega) h.fits rfl rfl rfl rfl

set_option maxRecDepth 100000 in
set_option maxHeartbeats 4000000 in
theorem Dk.sync_ok {w : World} {fp : List Nat} {p : Nat} {l : List Ab} {s : Ds} (h : Dk w fp p l s) (hn : s.ops ≤ 1000000) (nm : ByteArray) (hnm : nm.size ≤ maxLen) {x : Ab} (he : errA (beginA l s) nm.data.toList = none) (hx : lookA (beginA l s).1 nm.data.toList = some x) :
    Calls Tryz.prog 47 #[.pointer (some ⟨p, 0, none⟩), .string nm] w fun e w' => e = .returned (.int .i64 0) ∧ Outc w w' fp p (setA (beginA l s).1 (x.1, x.2.1, x.2.1), (beginA l s).2) := by
  obtain ⟨bm, kv, fs, d, rfl, rfl, ho⟩ := h
  have hok := beginA_ok ho
  have HOK := hide hok
  have FD := hide (find_ok d ho hn nm hnm he hx)
  have hxl : x.2.1.length ≤ 1073741824 := by
    have h1 := usedB_mem (lookA_mem hx).1
    have h2 := hok.used
    have h3 := hok.fits
    have h4 := hok.room
    have h5 := sec_le _ _ (Int.le_trans h1 (by omega : usedB (beginA (fs.map Fl.ab) s).1 ≤ 67108864))
    omega
  have hlen : ([] : List Int).length + x.2.1.length ≤ 1099511627776 := by simp; omega
  have HLEN := hide hlen
  clear d ho he hnm hx hok hlen
  generalize beginA (fs.map Fl.ab) s = A at FD HOK ⊢
  go_enter Tryz.func47, Tryz.ntmps47
  go_wp2_with (go_at_call 42; refine FD.out.mono ?_; rintro e w1 ⟨kv1, fs1, s1, f1, rfl, hl1, hf1, L1⟩; have FA := L1.1.files f1 (look_name hl1).1; have c0 := cell_of_heap FA.cells 0; have c1 := cell_of_heap FA.cells 1; have c2 := frozen_of_heap FA.cells; simp at c0 c1; obtain ⟨na, nc, hvn, _⟩ := FA.rnow.isB.form; obtain ⟨sa, sc, hvs, _⟩ := FA.rsyn.isB.form; rw [hvn] at c0; rw [hvs] at c1; have e3 : f1.now = x.2.1 := (by rw [← hf1]; rfl); have RN := FA.rnow; have RS := FA.rsyn; rw [hvn, e3] at RN; rw [hvs] at RS; rw [e3] at c0; have HRN := hide RN; have HRS := hide RS.front; have sl1 := slice_zero sa f1.syn.length sc; have HVN := hide hvn; have HVS := hide hvs; have HFA := hide FA; have HLK := hide hl1; have HF1 := hide hf1; have HL1 := hide L1; have HE3 := hide e3; obtain ⟨q, hq⟩ : ∃ q, q = f1.blk := ⟨_, rfl⟩; rw [← hq] at c0 c1 c2; have HQ := hide hq; have hq2 : f1.blk = q := hq.symm; clear L1 FA hvn hvs hf1 hl1 e3 RN RS hq)
  have hvo : ∀ y ∈ own (.slice sa 0 sc), y ∈ own f1.vs := fun y hy => by
    rw [HVS.out]
    cases sa with
    | none => simp [own, Value.ownBlock] at hy
    | some sa => simpa [own, Value.ownBlock] using hy
  have hap := HFA.out.apart
  unfold foot at hap
  rw [List.nodup_cons, List.nodup_append] at hap
  have HQN : Hid (q ∉ own (.slice sa 0 sc)) := fun e => hap.1 (List.mem_append.2 (.inr (by rw [hq2]; exact hvo q e)))
  have HQL : Hid (q < w1.heap.size) := by show q < _; rw [HQ.out]; exact HFA.out.lt _ (by simp [foot])
  have HQC : Hid (w1.heap[q]? = some (.cells #[f1.vn, f1.vs] 92 (0, 0))) := by
    show _ = _
    rw [HQ.out]
    exact HFA.out.cells
  have HAP := hide hap
  have HVO := hide hvo
  clear hap hvo hq2
  go_region_law (refine step_appendR _ ?_ (.tmp 21) (.tmp 25) ?_ (.slice sa 0 sc) (.slice na x.2.1.length nc) [] x.2.1 ?_ ?_ ?_ ?_ ?_ ?_; rfl; rfl; rfl; exact HRS.out; rfl; exact HRN.out.isB; exact HLEN.out; intro v3 w3 r3 k3 n3; rw [List.nil_append] at r3; obtain ⟨va, vc, rfl, hvc⟩ := r3.isB.form; have R3 := hide r3; have N3 := hide n3; have K3 : Hid (Kept (own (.slice sa 0 sc)) w1 w3) := (⟨k3.os, k3.tape, k3.output, k3.size, k3.block⟩ : Kept _ w1 w3); clear r3 k3 n3; have hq3 := (K3.out.block q HQL.out HQN.out).trans HQC.out; have e1 := K3.out.cell c1 HQN.out; have z3 := frozen_of_heap hq3; have HQ3 := hide hq3; clear hq3)
  all_goals
    go_wp2
    go_ret
    refine ⟨rfl, ?_⟩
    have hap := HAP.out
    have k4 : Kept (foot f1) w1 (w3.setCell ⟨q, 1, none⟩ (.slice va x.2.1.length vc)) := (K3.out.mono (fp' := foot f1) (fun y hy => by
      simp only [foot, List.mem_cons, List.mem_append]
      exact .inr (.inr (HVO.out y hy)))).setCell (p := ⟨q, 1, none⟩) (.inl (by simp [foot, HQ.out])) _
    have hnap : ∀ y ∈ own (.slice va x.2.1.length vc), y ∈ own f1.vs ∨ w1.heap.size ≤ y := fun y hy => by
      rcases N3.out y hy with h1 | h1
      · exact .inl (HVO.out y h1)
      · exact .inr h1
    have hqv : q ∉ own (.slice va x.2.1.length vc) := fun e => by
      rcases hnap q e with h1 | h1
      · exact hap.1 (List.mem_append.2 (.inr (by rw [← HQ.out]; exact h1)))
      · have := HQL.out
        omega
    have hqn : q ∉ own f1.vn := fun e => hap.1 (List.mem_append.2 (.inl (by rw [← HQ.out]; exact e)))
    have kq : Kept [q] w3 (w3.setCell ⟨q, 1, none⟩ (.slice va x.2.1.length vc)) := (Kept.refl _ w3).setCell (p := ⟨q, 1, none⟩) (.inl (by simp)) _
    have fileN : FileAt (w3.setCell ⟨q, 1, none⟩ (.slice va x.2.1.length vc)) { f1 with vs := .slice va x.2.1.length vc, syn := x.2.1 } := by
      refine ⟨?_, ?_, R3.out.kept kq (fun y hy => by simp; rintro rfl; exact hqv hy), ?_⟩
      · have e := heap_setCell HQ3.out 1 (.slice va x.2.1.length vc)
        simp only
        rw [← HQ.out]
        simpa using e
      · exact (HFA.out.rnow.kept K3.out (fun y hy e => hap.2.2.2 y hy y (HVO.out y e) rfl)).kept kq (fun y hy => by simp; rintro rfl; exact hqn hy)
      · show (f1.blk :: (own f1.vn ++ own (.slice va x.2.1.length vc))).Nodup
        rw [List.nodup_cons, List.nodup_append]
        refine ⟨fun e => ?_, hap.2.1, by cases va <;> simp [own, Value.ownBlock], fun y hy z hz e => ?_⟩
        · rcases List.mem_append.1 e with e | e
          · exact hqn (by rw [HQ.out]; exact e)
          · exact hqv (by rw [HQ.out]; exact e)
        · subst e
          rcases hnap y hz with h1 | h1
          · exact hap.2.2.2 y hy y h1 rfl
          · have := HFA.out.rnow.lt y hy
            omega
    have newN : Newly w1 (foot f1) (foot { f1 with vs := .slice va x.2.1.length vc, syn := x.2.1 }) := fun y hy => by
      simp only [foot, List.mem_cons, List.mem_append] at hy ⊢
      rcases hy with hy | hy | hy
      · exact .inl (.inl hy)
      · exact .inl (.inr (.inl hy))
      · rcases hnap y hy with h1 | h1
        · exact .inl (.inr (.inr h1))
        · exact .inr h1
    obtain ⟨ds, rs, hsp⟩ := List.append_of_mem (look_name HLK.out).1
    obtain ⟨q1, q2, q3, q4⟩ := HL1.out
    subst hsp
    have dN := q1.file (f' := { f1 with vs := .slice va x.2.1.length vc, syn := x.2.1 }) rfl rfl k4 (fun y hy => .inl hy) fileN newN
    have eA1 := congrArg (fun z => z.1) q2
    have eA2 := congrArg (fun z => z.2) q2
    simp only at eA1 eA2
    have hset : setA A.1 (x.1, x.2.1, x.2.1) = (ds ++ { f1 with vs := .slice va x.2.1.length vc, syn := x.2.1 } :: rs).map Fl.ab := by
      rw [← eA1, List.map_append, List.map_cons, ← HF1.out]
      rw [setA_split (a := ds.map Fl.ab) (b := rs.map Fl.ab) (x := f1.ab) (y := (f1.ab.1, f1.ab.2.1, f1.ab.2.1)) (by have := sortedA q1.sorted; simpa using this) rfl]
      simp [Fl.ab]
    have hk5 : Kept (feet p bm kv1 (ds ++ f1 :: rs)) w1 (w3.setCell ⟨q, 1, none⟩ (.slice va x.2.1.length vc)) := k4.mono (fun y hy => (feet_perm p bm kv1 ds rs f1).mem_iff.2 (List.mem_append.2 (.inl hy)))
    refine ⟨feet p bm kv1 (ds ++ { f1 with vs := .slice va x.2.1.length vc, syn := x.2.1 } :: rs), ⟨bm, kv1, _, ?_, hset.symm, rfl, ?_⟩, ?_, q4.trans (feet_file newN rfl) q3.size⟩
    · simp only
      rw [← eA2]
      first | exact dN | exact dN.kept ((Kept.refl [] _).drew) (by simp)
    · simp only
      rw [hset, ← eA2]
      have h9 := syncA_ok (a := ds.map Fl.ab) (b := rs.map Fl.ab) (x := f1.ab) (s := s1) (by have := HOK.out; rw [← eA1, ← eA2] at this; simpa using this)
      have e9 : x.2.1 = f1.now := HE3.out.symm
      simpa [Fl.ab, e9] using h9
    · first | exact q3.trans hk5 q4 | exact q3.trans hk5.drew q4

end Go.Proofs.YtgpbanjammipiaaGreatDoor

namespace Go.Proofs.YtgpbanjammipiaaGreatDoor
open Go.RowKit Go.Maps Go.Sort Go.Shelf

section
variable {w : World} {fp : List Nat} {p : Nat} {l : List Ab} {s : Ds}

set_option maxRecDepth 100000 in
set_option maxHeartbeats 2000000 in
/-- List, of a disk that is up. -/
theorem Dk.list (h : Dk w fp p l s) (hn : s.ops ≤ 1000000) (hd : (beginA l s).2.down = false) : Calls Tryz.prog 15 #[.pointer (some ⟨p, 0, none⟩)] w fun e w' =>
    ∃ v, e = .returned (.tuple #[v, .int .i64 0]) ∧ w'.ownsRow w.heap.size 9 1 v (beginA l s).1.length ((beginA l s).1.map fun x => encStr x.1) ∧
      ∃ fp', Dk w' fp' p (beginA l s).1 (beginA l s).2 ∧ Kept fp w w' ∧ Newly w fp fp' ∧ ∀ y ∈ own v, y ∉ fp' := by
  obtain ⟨bm, kv, fs, d, rfl, rfl, ho⟩ := h
  have hok := hide (beginA_ok ho)
  have BG := begin_any d ho hn
  have hfl : (beginA (fs.map Fl.ab) s).1.length ≤ 1000000 := by rw [beginA_len]; have := ho.len; omega
  generalize beginA (fs.map Fl.ab) s = A at BG hok hfl hd ⊢
  rw [hd] at BG
  have HB := hide BG
  have HFL := hide hfl
  have NM := hide (fun (w1 : World) (kv1 : Value) (fs1 : List Fl) (s1 : Ds) (L1 : Left w w1 p bm kv fs kv1 fs1 s1 A) => names_any L1.1 (by
    have := congrArg (fun y => y.1.length) L1.2.1
    simp only [List.length_map] at this
    have := HFL.out
    omega))
  clear d ho BG hfl hd
  go_enter Tryz.func15, Tryz.ntmps15
  go_wp2_with (first | (go_at_call 34; refine HB.out.mono ?_; rintro e w1 ⟨rfl, kv1, fs1, s1, L1⟩; have N1 := hide (NM.out w1 kv1 fs1 s1 L1); have HL := hide L1; clear L1) | (go_at_call 35; refine N1.out.mono ?_; rintro e w2 ⟨v, rfl, r2, b2⟩; have R2 := hide r2; have B2 := hide b2; clear r2 b2))
  go_ret2
  obtain ⟨q1, q2, q3, q4⟩ := HL.out
  have e1 : fs1.map Fl.ab = A.1 := congrArg (fun z => z.1) q2
  have e2 : s1 = A.2 := congrArg (fun z => z.2) q2
  have hlt := q1.lt
  refine ⟨v, rfl, ?_, feet p bm kv1 fs1, ⟨bm, kv1, fs1, ?_, e1, rfl, hok.out⟩, q3.trans (Kept.of_below (fp := []) B2.out) (Newly.of_sub (by simp)), q4, fun y hy e => ?_⟩
  · have r := ownsRow_base_a R2.out q3.size
    rw [← e1, List.length_map, List.map_map]
    exact r
  · rw [← e2]
    exact q1.below B2.out
  · have h1 := World.ownsRow.lt R2.out y (by simpa [own] using hy)
    have h2 := hlt y e
    omega

end

end Go.Proofs.YtgpbanjammipiaaGreatDoor

namespace Go.Proofs.YtgpbanjammipiaaGreatDoor
open Go.RowKit

/-- The bytes of a record. -/
def recB (x : Rc) : List Int := putB 8 x.1 ++ putB 8 x.2
/-- The bytes of records. -/
def textB (l : List Rc) : List Int := l.flatMap recB
/-- The record that bytes begin with. -/
def recAt (t : List Int) : Rc := (valB 256 (t.take 8), valB 256 ((t.drop 8).take 8))
/-- So many records of bytes. -/
def recsOf : Nat → List Int → List Rc
  | 0, _ => []
  | n + 1, t => recAt t :: recsOf n (t.drop 16)
/-- All records of a text. -/
def recsT (t : List Int) : List Rc := recsOf (t.length / 16) t

theorem recB_length (x : Rc) : (recB x).length = 16 := by
  rw [recB, List.length_append, putB_length, putB_length]
theorem recB_bytes (x : Rc) : ∀ z ∈ recB x, 0 ≤ z ∧ z ≤ 255 := by
  intro z hz
  rcases List.mem_append.1 hz with hz | hz <;> exact putB_bytes _ _ z hz
theorem textB_cons (x : Rc) (l : List Rc) : textB (x :: l) = recB x ++ textB l := by simp [textB]
theorem textB_append (l m : List Rc) : textB (l ++ m) = textB l ++ textB m := by simp [textB]
theorem textB_snoc (l : List Rc) (x : Rc) : textB (l ++ [x]) = textB l ++ recB x := by simp [textB]
theorem textB_length (l : List Rc) : (textB l).length = 16 * l.length := by
  induction l with
  | nil => rfl
  | cons x l ih => rw [textB_cons, List.length_append, recB_length, ih, List.length_cons]; omega
theorem textB_bytes (l : List Rc) : ∀ z ∈ textB l, 0 ≤ z ∧ z ≤ 255 := by
  intro z hz
  simp only [textB, List.mem_flatMap] at hz
  obtain ⟨x, _, hz⟩ := hz
  exact recB_bytes x z hz

theorem recAt_rec (x : Rc) (hx : okR x) (rest : List Int) : recAt (recB x ++ rest) = x := by
  have e1 : (recB x ++ rest).take 8 = putB 8 x.1 := by
    rw [recB, List.append_assoc, List.take_append_of_le_length (by rw [putB_length]; omega), List.take_of_length_le (by rw [putB_length]; omega)]
  have e2 : ((recB x ++ rest).drop 8).take 8 = putB 8 x.2 := by
    rw [recB, List.append_assoc, List.drop_append_of_le_length (by rw [putB_length]; omega), List.drop_of_length_le (by rw [putB_length]; omega), List.nil_append, List.take_append_of_le_length (by rw [putB_length]; omega), List.take_of_length_le (by rw [putB_length]; omega)]
  obtain ⟨⟨a0, a1⟩, b0, b1⟩ := hx
  rw [recAt, e1, e2, valB_put, valB_put]
  have p : (256 : Int) ^ 8 = 18446744073709551616 := by decide
  rw [p, Int.emod_eq_of_lt a0 a1, Int.emod_eq_of_lt b0 b1]

theorem recsOf_text (l : List Rc) (h : ∀ x ∈ l, okR x) : recsOf l.length (textB l) = l := by
  induction l with
  | nil => rfl
  | cons x l ih =>
    rw [List.length_cons, recsOf, textB_cons, recAt_rec x (h x (by simp)), List.drop_append_of_le_length (by rw [recB_length]; omega), List.drop_of_length_le (by rw [recB_length]; omega), List.nil_append, ih (fun y hy => h y (by simp [hy]))]

theorem recsT_text (l : List Rc) (h : ∀ x ∈ l, okR x) : recsT (textB l) = l := by
  rw [recsT, textB_length, show 16 * l.length / 16 = l.length by omega, recsOf_text l h]

theorem recAt_ok (t : List Int) (h : ∀ z ∈ t, 0 ≤ z ∧ z ≤ 255) : okR (recAt t) := by
  have p : ∀ (bs : List Int), (∀ z ∈ bs, 0 ≤ z ∧ z ≤ 255) → bs.length ≤ 8 → 0 ≤ valB 256 bs ∧ valB 256 bs < 18446744073709551616 := fun bs hb hl => by
    have h1 := valB_nonneg 256 (by omega) bs (fun z hz => (hb z hz).1)
    have h2 := valB_lt 256 (by omega) bs (fun z hz => by have := hb z hz; omega)
    refine ⟨h1, Int.lt_of_lt_of_le h2 ?_⟩
    have e : bs.length = 0 ∨ bs.length = 1 ∨ bs.length = 2 ∨ bs.length = 3 ∨ bs.length = 4 ∨ bs.length = 5 ∨ bs.length = 6 ∨ bs.length = 7 ∨ bs.length = 8 := by omega
    rcases e with e | e | e | e | e | e | e | e | e <;> rw [e] <;> decide
  exact ⟨p _ (fun z hz => h z (List.mem_of_mem_take hz)) (by rw [List.length_take]; omega), p _ (fun z hz => h z (List.mem_of_mem_drop (List.mem_of_mem_take hz))) (by rw [List.length_take]; omega)⟩

theorem recsOf_ok (n : Nat) (t : List Int) (h : ∀ z ∈ t, 0 ≤ z ∧ z ≤ 255) : ∀ x ∈ recsOf n t, okR x := by
  induction n generalizing t with
  | zero => simp [recsOf]
  | succ n ih =>
    intro x hx
    rw [recsOf] at hx
    rcases List.mem_cons.1 hx with rfl | hx
    · exact recAt_ok t h
    · exact ih _ (fun z hz => h z (List.mem_of_mem_drop hz)) x hx

theorem recsOf_length (n : Nat) (t : List Int) : (recsOf n t).length = n := by
  induction n generalizing t with
  | zero => rfl
  | succ n ih => rw [recsOf, List.length_cons, ih]

/-- The first record of a text, and the others. -/
theorem recsT_step (t : List Int) (h : t ≠ []) (hm : t.length % 16 = 0) : recsT t = recAt t :: recsT (t.drop 16) ∧ 16 ≤ t.length ∧ (t.drop 16).length % 16 = 0 := by
  have h0 : 0 < t.length := List.length_pos_iff.2 h
  obtain ⟨n, hn⟩ : ∃ n, t.length / 16 = n + 1 := ⟨t.length / 16 - 1, by omega⟩
  refine ⟨?_, by omega, by rw [List.length_drop]; omega⟩
  rw [recsT, hn, recsOf, recsT, List.length_drop, show (t.length - 16) / 16 = n by omega]

/-! ### A file of records -/

def fileN : Nat → List Rc → List Int
  | 0, _ => []
  | n + 1, l => if l = [] then [] else blkB (textB (l.take 50)) ++ fileN n (l.drop 50)
/-- The bytes of a file of records. -/
def fileB (l : List Rc) : List Int := fileN l.length l

theorem fileN_fuel (n m : Nat) (l : List Rc) (hn : l.length ≤ n) (hm : l.length ≤ m) : fileN n l = fileN m l := by
  induction n generalizing m l with
  | zero =>
    obtain rfl : l = [] := List.eq_nil_of_length_eq_zero (by omega)
    cases m <;> simp [fileN]
  | succ n ih =>
    cases m with
    | zero =>
      obtain rfl : l = [] := List.eq_nil_of_length_eq_zero (by omega)
      simp [fileN]
    | succ m =>
      simp only [fileN]
      split
      · rfl
      · rename_i h
        have := List.length_pos_iff.2 h
        rw [ih m (l.drop 50) (by rw [List.length_drop]; omega) (by rw [List.length_drop]; omega)]

theorem fileB_nil : fileB [] = [] := rfl
theorem fileB_step (l : List Rc) (h : l ≠ []) : fileB l = blkB (textB (l.take 50)) ++ fileB (l.drop 50) := by
  have h0 := List.length_pos_iff.2 h
  obtain ⟨n, hn⟩ : ∃ n, l.length = n + 1 := ⟨l.length - 1, by omega⟩
  rw [fileB, hn, fileN, if_neg h, fileB, fileN_fuel n (l.drop 50).length _ (by rw [List.length_drop]; omega) (Nat.le_refl _)]
theorem fileB_short (l : List Rc) (h : l ≠ []) (hl : l.length ≤ 50) : fileB l = blkB (textB l) := by
  rw [fileB_step l h, List.take_of_length_le hl, List.drop_of_length_le hl, fileB_nil, List.append_nil]
/-- A full block ahead. -/
theorem fileB_full (a l : List Rc) (ha : a.length = 50) : fileB (a ++ l) = blkB (textB a) ++ fileB l := by
  rw [fileB_step (a ++ l) (by intro e; simp at e; rw [e.1] at ha; simp at ha), List.take_append_of_le_length (by omega), List.take_of_length_le (by omega), List.drop_append_of_le_length (by omega), List.drop_of_length_le (by omega), List.nil_append]

theorem len_ind {P : List Rc → Prop} (h : ∀ l, (∀ m : List Rc, m.length < l.length → P m) → P l) (l : List Rc) : P l := by
  have : ∀ n (l : List Rc), l.length ≤ n → P l := fun n => by
    induction n with
    | zero => exact fun l hl => h l (fun m hm => by omega)
    | succ n ih => exact fun l hl => h l (fun m hm => ih m (by omega))
  exact this l.length l (Nat.le_refl _)

theorem fileB_bytes (l : List Rc) : ∀ z ∈ fileB l, 0 ≤ z ∧ z ≤ 255 := by
  refine len_ind (P := fun l => ∀ z ∈ fileB l, 0 ≤ z ∧ z ≤ 255) (fun l ih => ?_) l
  by_cases h : l = []
  · subst h
    simp [fileB_nil]
  · have h0 := List.length_pos_iff.2 h
    intro z hz
    rw [fileB_step l h] at hz
    rcases List.mem_append.1 hz with hz | hz
    · exact blkB_bytes _ (textB_bytes _) z hz
    · exact ih (l.drop 50) (by rw [List.length_drop]; omega) z hz

theorem fileB_length (l : List Rc) : (fileB l).length = 16 * l.length + 6 * ((l.length + 49) / 50) := by
  refine len_ind (P := fun l => (fileB l).length = 16 * l.length + 6 * ((l.length + 49) / 50)) (fun l ih => ?_) l
  by_cases h : l = []
  · subst h
    rfl
  · have h0 := List.length_pos_iff.2 h
    rw [fileB_step l h, List.length_append, blkB_length, textB_length, List.length_take, ih (l.drop 50) (by rw [List.length_drop]; omega), List.length_drop]
    omega

/-! ### What is read -/

/-- A text is one of from 1 to 50 records. -/
def rightB (t : List Int) : Bool := decide (16 ≤ t.length) && (decide (t.length ≤ 800) && decide (t.length % 16 = 0))

theorem rightB_iff {t : List Int} : rightB t = true ↔ 16 ≤ t.length ∧ t.length ≤ 800 ∧ t.length % 16 = 0 := by
  simp [rightB]

/-- The records of bytes, up to the error. s: the block ahead was short. -/
def readN : Nat → Bool → List Int → List Rc × Int
  | 0, _, _ => ([], 0)
  | n + 1, s, c => if c = [] then ([], 0) else if (decB c).2.2 ≠ 0 then ([], (decB c).2.2) else if s = true ∨ rightB (decB c).1 = false then ([], 2) else
      (recsT (decB c).1 ++ (readN n (decide ((decB c).1.length < 800)) (c.drop (decB c).2.1)).1, (readN n (decide ((decB c).1.length < 800)) (c.drop (decB c).2.1)).2)
def readB (s : Bool) (c : List Int) : List Rc × Int := readN c.length s c

theorem decB_pos (c : List Int) (h : (decB c).2.2 = 0) : 6 ≤ (decB c).2.1 ∧ (decB c).2.1 ≤ c.length ∧ (decB c).1.length + 6 = (decB c).2.1 ∧ (decB c).1.length ≤ 1000 := by
  unfold decB at h ⊢
  split
  · rename_i h1; rw [if_pos h1] at h; simp at h
  · rename_i h1
    rw [if_neg h1] at h
    split
    · rename_i h2; rw [if_pos h2] at h; simp at h
    · rename_i h2
      rw [if_neg h2] at h
      split
      · rename_i h3; rw [if_pos h3] at h; simp at h
      · rename_i h3
        rw [if_neg h3] at h
        split
        · rename_i h4; rw [if_pos h4] at h; simp at h
        · simp
          omega

theorem readN_fuel (n m : Nat) (s : Bool) (c : List Int) (hn : c.length ≤ n) (hm : c.length ≤ m) : readN n s c = readN m s c := by
  induction n generalizing m s c with
  | zero =>
    obtain rfl : c = [] := List.eq_nil_of_length_eq_zero (by omega)
    cases m <;> simp [readN]
  | succ n ih =>
    cases m with
    | zero =>
      obtain rfl : c = [] := List.eq_nil_of_length_eq_zero (by omega)
      simp [readN]
    | succ m =>
      simp only [readN]
      split
      · rfl
      · split
        · rfl
        · rename_i h1 h2
          split
          · rfl
          · have h3 := decB_pos c (by simpa using h2)
            rw [ih m _ (c.drop (decB c).2.1) (by rw [List.length_drop]; omega) (by rw [List.length_drop]; omega)]

theorem readB_nil (s : Bool) : readB s [] = ([], 0) := rfl
theorem readB_unfold (s : Bool) (c : List Int) (h : c ≠ []) : readB s c = if (decB c).2.2 ≠ 0 then ([], (decB c).2.2) else if s = true ∨ rightB (decB c).1 = false then ([], 2) else
      (recsT (decB c).1 ++ (readB (decide ((decB c).1.length < 800)) (c.drop (decB c).2.1)).1, (readB (decide ((decB c).1.length < 800)) (c.drop (decB c).2.1)).2) := by
  have h0 := List.length_pos_iff.2 h
  obtain ⟨n, hn⟩ : ∃ n, c.length = n + 1 := ⟨c.length - 1, by omega⟩
  rw [readB, hn, readN, if_neg h]
  split
  · rfl
  · rename_i h2
    have h3 := decB_pos c (by simpa using h2)
    split
    · rfl
    · rw [readB, readN_fuel n (c.drop (decB c).2.1).length _ (c.drop (decB c).2.1) (by rw [List.length_drop]; omega) (Nat.le_refl _)]

theorem readB_bad {s : Bool} {c : List Int} (h : c ≠ []) (he : (decB c).2.2 ≠ 0) : readB s c = ([], (decB c).2.2) := by
  rw [readB_unfold s c h, if_pos he]
theorem readB_form {s : Bool} {c : List Int} (h : c ≠ []) (he : (decB c).2.2 = 0) (hf : s = true ∨ rightB (decB c).1 = false) : readB s c = ([], 2) := by
  rw [readB_unfold s c h, if_neg (by simpa using he), if_pos hf]
theorem readB_more {c : List Int} (h : c ≠ []) (he : (decB c).2.2 = 0) (hr : rightB (decB c).1 = true) :
    readB false c = (recsT (decB c).1 ++ (readB (decide ((decB c).1.length < 800)) (c.drop (decB c).2.1)).1, (readB (decide ((decB c).1.length < 800)) (c.drop (decB c).2.1)).2) := by
  rw [readB_unfold false c h, if_neg (by simpa using he), if_neg (by simp [hr])]

/-- What was written is read. -/
theorem readB_file (l : List Rc) (hl : ∀ x ∈ l, okR x) : readB false (fileB l) = (l, 0) := by
  revert hl
  refine len_ind (P := fun l => (∀ x ∈ l, okR x) → readB false (fileB l) = (l, 0)) (fun l ih hl => ?_) l
  by_cases h : l = []
  · subst h
    rfl
  · have h0 := List.length_pos_iff.2 h
    have hlen : (textB (l.take 50)).length = 16 * min 50 l.length := by rw [textB_length, List.length_take]
    have hd := decB_blk (textB (l.take 50)) (fileB (l.drop 50)) (by omega) (textB_bytes _)
    rw [← fileB_step l h] at hd
    have hne : fileB l ≠ [] := by
      intro e
      have := fileB_length l
      rw [e] at this
      simp at this
      omega
    rw [readB_more hne (by rw [hd]) (by rw [hd]; exact rightB_iff.2 ⟨by dsimp only; omega, by dsimp only; omega, by dsimp only; omega⟩), hd]
    dsimp only
    have hdr : (fileB l).drop ((textB (l.take 50)).length + 6) = fileB (l.drop 50) := by
      rw [fileB_step l h, List.drop_append_of_le_length (by rw [blkB_length]; omega), List.drop_of_length_le (by rw [blkB_length]; omega), List.nil_append]
    rw [hdr, recsT_text _ (fun x hx => hl x (List.mem_of_mem_take hx))]
    by_cases h50 : l.length ≤ 50
    · rw [List.drop_of_length_le h50, fileB_nil, readB_nil, List.take_of_length_le h50, List.append_nil]
    · rw [decide_eq_false (by omega), ih (l.drop 50) (by rw [List.length_drop]; omega) (fun x hx => hl x (List.mem_of_mem_drop hx)), List.take_append_drop]

/-- Less than a block is none. -/
theorem decB_cut (t rest : List Int) (hl : t.length ≤ 1000) (k : Nat) (hk : k < t.length + 6) : decB ((blkB t ++ rest).take k) = ([], 0, 2) := by
  have hlen : ((blkB t ++ rest).take k).length ≤ k := by rw [List.length_take]; omega
  unfold decB
  by_cases h2 : ((blkB t ++ rest).take k).length < 2
  · rw [if_pos h2]
  · rw [if_neg h2]
    have hs : sizeB ((blkB t ++ rest).take k) = t.length := by
      have := sizeB_blk t rest hl
      unfold sizeB at this ⊢
      rw [List.take_take, Nat.min_eq_left (by omega)]
      exact this
    rw [hs, if_neg (by omega), if_pos (by omega)]

/-- What is read of a front of a file: some of the records, from the first one on, or an error of form. -/
theorem readB_front (l : List Rc) (hl : ∀ x ∈ l, okR x) (k : Nat) : ((readB false ((fileB l).take k)).2 = 0 ∧ (readB false ((fileB l).take k)).1 = l.take (readB false ((fileB l).take k)).1.length) ∨ (readB false ((fileB l).take k)).2 = 2 := by
  revert k hl
  refine len_ind (P := fun l => (∀ x ∈ l, okR x) → ∀ k, ((readB false ((fileB l).take k)).2 = 0 ∧ (readB false ((fileB l).take k)).1 = l.take (readB false ((fileB l).take k)).1.length) ∨ (readB false ((fileB l).take k)).2 = 2) (fun l ih hl k => ?_) l
  by_cases h : l = []
  · subst h
    left
    rw [fileB_nil, List.take_nil, readB_nil]
    simp
  · have h0 := List.length_pos_iff.2 h
    have hlen : (textB (l.take 50)).length = 16 * min 50 l.length := by rw [textB_length, List.length_take]
    by_cases hk0 : k = 0
    · subst hk0
      left
      rw [List.take_zero, readB_nil]
      simp
    · have hfl := fileB_length l
      have hne : (fileB l).take k ≠ [] := by
        intro e
        have e2 : min k (fileB l).length = 0 := by rw [← List.length_take, e]; rfl
        omega
      by_cases hk : k < (textB (l.take 50)).length + 6
      · right
        have hd := decB_cut (textB (l.take 50)) (fileB (l.drop 50)) (by omega) k hk
        rw [← fileB_step l h] at hd
        rw [readB_bad hne (by rw [hd]; simp), hd]
      · have ht : (fileB l).take k = blkB (textB (l.take 50)) ++ (fileB (l.drop 50)).take (k - ((textB (l.take 50)).length + 6)) := by
          rw [fileB_step l h, List.take_append, List.take_of_length_le (by rw [blkB_length]; omega), blkB_length]
        have hd := decB_blk (textB (l.take 50)) ((fileB (l.drop 50)).take (k - ((textB (l.take 50)).length + 6))) (by omega) (textB_bytes _)
        rw [← ht] at hd
        have hdr : ((fileB l).take k).drop ((textB (l.take 50)).length + 6) = (fileB (l.drop 50)).take (k - ((textB (l.take 50)).length + 6)) := by
          rw [ht, List.drop_append_of_le_length (by rw [blkB_length]; omega), List.drop_of_length_le (by rw [blkB_length]; omega), List.nil_append]
        rw [readB_more hne (by rw [hd]) (by rw [hd]; exact rightB_iff.2 ⟨by dsimp only; omega, by dsimp only; omega, by dsimp only; omega⟩), hd]
        dsimp only
        rw [hdr, recsT_text _ (fun x hx => hl x (List.mem_of_mem_take hx))]
        by_cases h50 : l.length ≤ 50
        · rw [List.drop_of_length_le h50, fileB_nil, List.take_nil, readB_nil, List.take_of_length_le h50]
          left
          simp
        · rw [decide_eq_false (by omega)]
          rcases ih (l.drop 50) (by rw [List.length_drop]; omega) (fun x hx => hl x (List.mem_of_mem_drop hx)) (k - ((textB (l.take 50)).length + 6)) with ⟨e1, e2⟩ | e
          · left
            refine ⟨e1, ?_⟩
            generalize (readB false ((fileB (l.drop 50)).take (k - ((textB (l.take 50)).length + 6)))).1 = r at e2
            have hr : r.length ≤ l.length - 50 := by
              have := congrArg List.length e2
              rw [List.length_take, List.length_drop] at this
              omega
            rw [List.length_append, List.length_take, Nat.min_eq_left (by omega), List.take_add, ← e2]
          · exact .inr e

/-- Of bytes, no more than so many are wanted to tell the block that they begin with. -/
theorem decB_take (c : List Int) (k : Nat) (h : (decB (c.take k)).2.2 ≠ 2 ∨ 1006 ≤ k ∨ c.length ≤ k) : decB (c.take k) = decB c := by
  by_cases hck : c.length ≤ k
  · rw [List.take_of_length_le hck]
  · have hlen : (c.take k).length = k := by rw [List.length_take]; omega
    by_cases hk2 : k < 2
    · exfalso
      have : decB (c.take k) = ([], 0, 2) := by rw [decB, if_pos (by omega)]
      rw [this] at h
      simp at h
      omega
    · have hs : sizeB (c.take k) = sizeB c := by
        unfold sizeB
        rw [List.take_take, Nat.min_eq_left (by omega)]
      unfold decB at h ⊢
      rw [hs, hlen] at h ⊢
      rw [if_neg (by omega), if_neg (by omega : ¬ c.length < 2)]
      rw [if_neg (by omega)] at h
      by_cases h1 : 1000 < sizeB c
      · rw [if_pos h1, if_pos h1]
      · rw [if_neg h1] at h ⊢
        rw [if_neg h1]
        by_cases h2 : k < sizeB c + 6
        · exfalso
          rw [if_pos h2] at h
          simp at h
          omega
        · rw [if_neg h2, if_neg (by omega : ¬ c.length < sizeB c + 6)]
          have e1 : ((c.take k).drop (sizeB c + 2)).take 4 = (c.drop (sizeB c + 2)).take 4 := by
            rw [List.drop_take, List.take_take, Nat.min_eq_left (by omega)]
          have e2 : (c.take k).take (sizeB c + 2) = c.take (sizeB c + 2) := by rw [List.take_take, Nat.min_eq_left (by omega)]
          have e3 : ((c.take k).drop 2).take (sizeB c) = (c.drop 2).take (sizeB c) := by
            rw [List.drop_take, List.take_take, Nat.min_eq_left (by omega)]
          rw [e1, e2, e3]

end Go.Proofs.YtgpbanjammipiaaGreatDoor
