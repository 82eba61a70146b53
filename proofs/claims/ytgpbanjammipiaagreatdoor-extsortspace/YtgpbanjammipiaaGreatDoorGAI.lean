/-
  Lemma texts, one behind the other: IWrite, IRead, INext, INext2. No statement of the seat is proved here.
-/
import Derived.Test.YtgpbanjammipiaaGreatDoorGAH
import Derived.Deep.RegionHeld
import Derived.Deep.RegionLaw
import Derived.BigQuiet
namespace Go.Proofs.YtgpbanjammipiaaGreatDoor
open Go.RowKit Go.Maps

theorem putW_len (A : Dsk) (n : List UInt8) (t : List Int) (x : Rc) : (putW A n t x).2.2.length < 800 := by
  unfold putW
  split
  · assumption
  · simp

set_option maxRecDepth 100000 in
set_option maxHeartbeats 4000000 in
theorem newWriter_go {w : World} {fd : List Nat} {p : Nat} {A : Dsk} (h : Dk w fd p A.1 A.2) (hn : A.2.ops ≤ 1000000) (nm : ByteArray) (hnm : nm.size ≤ maxLen) {B : Dsk} (hB : createA (beginA A.1 A.2) nm.data.toList = (0, B)) :
    Calls Tryz.prog 27 #[.pointer (some ⟨p, 0, none⟩), .string nm] w fun e w' => ∃ q, e = .returned (.tuple #[.pointer (some ⟨q, 0, none⟩), .int .i64 0]) ∧ ∃ fp', Wk w' fp' p q B nm [] ∧ Kept fd w w' ∧ Newly w fd fp' := by
  have CR := h.create hn nm hnm
  rw [hB] at CR
  have HC := hide CR
  clear CR hB h
  go_enter Tryz.func27, Tryz.ntmps27
  go_wp2_with fail
  refine HC.out.mono ?_
  rintro e w1 ⟨rfl, o1⟩
  go_wp2
  go_ret2
  obtain ⟨fd1, d1, k1, n1⟩ := o1
  have hlt := d1.lt
  refine ⟨w1.heap.size, rfl, wfp fd1 w1.heap.size (.slice none 0 0), ⟨fd1, .slice none 0 0, ⟨d1.below ((Below.refl _ w1).alloc (Nat.le_refl _) _), heap_alloc_new w1 _, RowB.nil _, fun e => by have := hlt _ e; omega, by simp [own, Value.ownBlock], by simp [own, Value.ownBlock]⟩, rfl⟩, k1.alloc _, fun x hx => ?_⟩
  rcases wfp_mem.1 hx with hx | rfl | hx
  · exact n1 x hx
  · exact .inr k1.size
  · simp [own, Value.ownBlock] at hx

set_option maxRecDepth 100000 in
set_option maxHeartbeats 4000000 in
theorem newWriter_no {w : World} {fd : List Nat} {p : Nat} {A : Dsk} (h : Dk w fd p A.1 A.2) (hn : A.2.ops ≤ 1000000) (nm : ByteArray) (hnm : nm.size ≤ maxLen) {k : Int} (hk : ¬ k = 0) {B : Dsk} (hB : createA (beginA A.1 A.2) nm.data.toList = (k, B)) :
    Calls Tryz.prog 27 #[.pointer (some ⟨p, 0, none⟩), .string nm] w fun e w' => e = .returned (.tuple #[.pointer none, .int .i64 k]) ∧ Outc w w' fd p B := by
  have CR := h.create hn nm hnm
  rw [hB] at CR
  have HC := hide CR
  clear CR hB h
  go_enter Tryz.func27, Tryz.ntmps27
  go_wp2_with fail
  refine HC.out.mono ?_
  rintro e w1 ⟨rfl, o1⟩
  go_wp2
  go_ret2
  exact ⟨rfl, o1⟩

/-- Behind its end a writer is a disk. -/
theorem WxO.outc {w w1 w' : World} {fd fp : List Nat} {p q : Nat} {B : Dsk} (h : WxO w1 w' fp p q B) (hk : Kept fd w w1) (hn : Newly w fd fp) : Outc w w' fd p B := by
  obtain ⟨fp2, ⟨fd2, d2, _, _, rfl⟩, k2, n2⟩ := h
  exact ⟨fd2, d2, hk.trans k2 hn, fun x hx => hn.trans n2 hk.size x (by simp [hx])⟩

theorem drop_rec {l : List Rc} {k : Nat} (hk : k < l.length) : l.drop k = l[k]! :: l.drop (k + 1) := by
  rw [List.drop_eq_getElem_cons hk, getElem!_pos l k hk]

/-- The box of a record, in a loop. -/
theorem boxed_below (w : World) (x1 x2 : Int) : Below w.heap.size w (w.alloc (.cells #[.int .u64 x1, .int .u64 x2] 52)) := (Below.refl _ w).alloc (Nat.le_refl _) _

set_option maxRecDepth 100000 in
set_option maxHeartbeats 4000000 in
theorem recWrite_go {w : World} {fd : List Nat} {p : Nat} {A : Dsk} (h : Dk w fd p A.1 A.2) (nm : ByteArray) (hnm : nm.size ≤ maxLen) {v : Value} {l : List Rc} (hn : A.2.ops + l.length + 10 ≤ 1000000) (hv : IsR w v l) (hvd : l ≠ [] → ∀ x ∈ own v, x ∉ fd) {C : Dsk}
    (hC : createA (beginA A.1 A.2) nm.data.toList = (0, C)) {k : Int} {B : Dsk} (hB : restW nm.data.toList C [] l = (k, B)) :
    Calls Tryz.prog 13 #[.pointer (some ⟨p, 0, none⟩), .string nm, v] w fun e w' => e = .returned (.int .i64 k) ∧ Outc w w' fd p B := by
  have NW := hide (newWriter_go h (by omega) nm hnm hC)
  have hco : C.2.ops = A.2.ops + 1 := by
    have := createA_ops (beginA A.1 A.2) nm.data.toList
    rw [hC, beginA_ops] at this
    exact this
  obtain ⟨a, cap, rfl, hcap⟩ := hv.form
  obtain ⟨n, hnl⟩ : ∃ n, n = l.length := ⟨_, rfl⟩
  have HV := hide (And.intro hv hvd)
  have HB := hide hB
  have HNL := hide hnl
  rw [← hnl] at hcap hn ⊢
  obtain ⟨m, hm⟩ : ∃ m, m = A.2.ops := ⟨_, rfl⟩
  have hm0 : 0 ≤ m := by rw [hm]; exact h.ok.ops
  have HCO : Hid (C.2.ops = m + 1) := by show _ = _; rw [hm, hco]
  rw [← hm] at hn
  clear h hv hvd hB hC hco hm hnl
  go_enter Tryz.func13, Tryz.ntmps13
  go_wp2_with fail
  refine NW.out.mono ?_
  rintro e w1 ⟨q, rfl, fp1, W1, K1, N1⟩
  have H1 := hide (And.intro W1 (And.intro K1 N1))
  clear W1 K1 N1
  go_wp2
  go_loopw [23] (fun vk wr => ∃ (i : Nat) (D : Dsk) (t : List Int), vk = .int .i64 i ∧ i ≤ n ∧ Hid (restW nm.data.toList C [] l = restW nm.data.toList D t (l.drop i)) ∧ Hid (t.length < 800 ∧ D.2.ops ≤ m + 1 + i) ∧ Hid (∃ fp', Wk wr fp' p q D nm t ∧ Kept fd w wr ∧ Newly w fd fp')) (fun vk _ => n + 1 - numOf vk)
  case atStart =>
    exact ⟨0, C, [], by first | rfl | go_num, Nat.zero_le _, by rw [List.drop_zero]; exact rfl, ⟨by simp, by have := HCO.out; omega⟩, fp1, H1.out⟩
  case round =>
    obtain ⟨i, D, t, rfl, hi, HE, HT, HW⟩ := hrel
    by_cases hin : i < n
    · have hin' : (i : Int) < (n : Int) := by omega
      have hw1 : IntKind.i64.wrap ((i : Int) + 1) = (i : Int) + 1 := i64_small _ (by omega) (by omega)
      have hil : i < l.length := by have := HNL.out; omega
      obtain ⟨fpr, W2, K2, N2⟩ := HW.out
      have hvr := HV.out.1.keptN K2 (fun hne x hx => HV.out.2 hne x hx)
      rw [← HNL.out] at hvr
      obtain ⟨g, o, c, e, _, hc⟩ := hvr.opened (by omega)
      simp only [Value.slice.injEq] at e
      obtain ⟨rfl, hx9, rfl⟩ := e
      clear hx9
      obtain ⟨c1, c2⟩ := hc i hil
      have hok := HV.out.1.okAt i hil
      have hdr := drop_rec hil
      obtain ⟨⟨x1, x2⟩, hx⟩ : ∃ x, x = l[i]! := ⟨_, rfl⟩
      rw [← hx] at c1 c2 hok hdr
      dsimp only at c1 c2
      obtain ⟨j, E, t2, hP⟩ : ∃ j E t2, putW D nm.data.toList t (x1, x2) = (j, E, t2) := ⟨_, _, _, rfl⟩
      have hE := HE.out
      rw [hdr, restW, hP] at hE
      dsimp only at hE
      have hpl := putW_len D nm.data.toList t (x1, x2)
      have hpo := putW_ops D nm.data.toList t (x1, x2)
      rw [hP] at hpl hpo
      dsimp only at hpl hpo
      have PT : Hid (∀ (W : World), Below wr.heap.size wr W → Calls Tryz.prog 28 #[.pointer (some ⟨q, 0, none⟩), .agg #[.int .u64 x1, .int .u64 x2]] W fun e w' => e = .returned (.int .i64 j) ∧ (j = 0 → WkO W w' fpr p q E nm t2) ∧ (j ≠ 0 → WxO W w' fpr p q E)) :=
        fun W hb => put_step (W2.below hb) hnm (by have := HT.out.2; omega) (x1, x2) hok HT.out.1 hP
      have HK2 := hide (And.intro K2 N2)
      have HW2 := hide W2
      have HPL := hide (And.intro hpl hpo)
      clear hc hvr hdr hx hok hP W2 K2 N2 hpl hpo
      by_cases hj : j = 0
      · rw [if_pos hj] at hE
        subst hj
        have HE2 := hide hE
        have PT0 : Hid (∀ (W : World), Below wr.heap.size wr W → Calls Tryz.prog 28 #[.pointer (some ⟨q, 0, none⟩), .agg #[.int .u64 x1, .int .u64 x2]] W fun e w' => e = .returned (.int .i64 0) ∧ WkO W w' fpr p q E nm t2) := fun W hb => (PT.out W hb).mono fun e w' h => ⟨h.1, h.2.1 rfl⟩
        clear hE PT
        go_wp2_with fail
        refine (PT0.out _ (boxed_below _ _ _)).mono ?_
        rintro e w3 ⟨rfl, o3⟩
        obtain ⟨fp3, W3, K3, N3⟩ := o3
        have H3 := hide (And.intro W3 (And.intro K3 N3))
        clear W3 K3 N3
        go_wp2
        go_roundw
        case rel =>
          obtain ⟨W3, K3, N3⟩ := H3.out
          have kb : Kept fd w _ := HK2.out.1.trans (Kept.of_below (fp := []) (boxed_below wr x1 x2)) (fun _ hx => by simp at hx)
          refine ⟨i + 1, E, t2, by go_num, by omega, HE2.out, ⟨HPL.out.1, by have := HPL.out.2; have := HT.out.2; push_cast; omega⟩, fp3, W3, kb.trans K3 HK2.out.2, HK2.out.2.trans (fun x hx => (N3 x hx).imp id (fun e => by have := (boxed_below wr x1 x2).size; omega)) HK2.out.1.size⟩
        case measure => simp [numOf]; omega
      · rw [if_neg hj] at hE
        have HE2 := hide hE
        clear hE
        go_wp2_with fail
        refine (PT.out _ (boxed_below _ _ _)).mono ?_
        rintro e w3 ⟨rfl, _, o3⟩
        have o4 := o3 hj
        clear o3
        go_wp2
        go_ret
        have kb : Kept fd w _ := HK2.out.1.trans (Kept.of_below (fp := []) (boxed_below wr x1 x2)) (fun _ hx => by simp at hx)
        have e1 := HB.out.symm.trans HE2.out
        simp only [Prod.mk.injEq] at e1
        obtain ⟨rfl, rfl⟩ := e1
        exact ⟨rfl, o4.outc kb HK2.out.2⟩
    · obtain rfl : i = n := by omega
      have hE := HE.out
      rw [List.drop_of_length_le (by have := HNL.out; omega), restW, HB.out] at hE
      obtain ⟨fpr, W2, K2, N2⟩ := HW.out
      have CL := hide (close_any W2 (by have := HT.out.1; omega) (by have := HT.out.2; omega) hnm hE.symm)
      have HK2 := hide (And.intro K2 N2)
      clear hE W2 K2 N2
      go_wp2_with fail
      refine CL.out.mono ?_
      rintro e w3 ⟨rfl, o3⟩
      go_wp2
      go_ret
      exact ⟨rfl, o3.outc HK2.out.1 HK2.out.2⟩

set_option maxRecDepth 100000 in
set_option maxHeartbeats 4000000 in
theorem recWrite_no {w : World} {fd : List Nat} {p : Nat} {A : Dsk} (h : Dk w fd p A.1 A.2) (nm : ByteArray) (hnm : nm.size ≤ maxLen) (a : Option Addr) (n cap : Nat) (hn : A.2.ops ≤ 1000000) {k : Int} (hk : ¬ k = 0) {C : Dsk}
    (hC : createA (beginA A.1 A.2) nm.data.toList = (k, C)) :
    Calls Tryz.prog 13 #[.pointer (some ⟨p, 0, none⟩), .string nm, .slice a n cap] w fun e w' => e = .returned (.int .i64 k) ∧ Outc w w' fd p C := by
  have NW := hide (newWriter_no h hn nm hnm hk hC)
  clear h hC
  go_enter Tryz.func13, Tryz.ntmps13
  go_wp2_with fail
  refine NW.out.mono ?_
  rintro e w1 ⟨rfl, o1⟩
  go_wp2
  go_ret
  exact ⟨rfl, o1⟩

/-- Write. -/
theorem recWrite_any {w : World} {fd : List Nat} {p : Nat} {A : Dsk} (h : Dk w fd p A.1 A.2) (nm : ByteArray) (hnm : nm.size ≤ maxLen) {v : Value} {l : List Rc} (hn : A.2.ops + l.length + 10 ≤ 1000000) (hv : IsR w v l) (hvd : l ≠ [] → ∀ x ∈ own v, x ∉ fd)
    {k : Int} {B : Dsk} (hB : writeW A nm.data.toList l = (k, B)) :
    Calls Tryz.prog 13 #[.pointer (some ⟨p, 0, none⟩), .string nm, v] w fun e w' => e = .returned (.int .i64 k) ∧ Outc w w' fd p B := by
  obtain ⟨j, C, hC⟩ : ∃ j C, createA (beginA A.1 A.2) nm.data.toList = (j, C) := ⟨_, _, rfl⟩
  unfold writeW at hB
  rw [hC] at hB
  dsimp only at hB
  by_cases hj : j = 0
  · rw [if_pos hj] at hB
    subst hj
    exact recWrite_go h nm hnm hn hv hvd hC hB
  · rw [if_neg hj] at hB
    simp only [Prod.mk.injEq] at hB
    obtain ⟨rfl, rfl⟩ := hB
    obtain ⟨a, cap, rfl, _⟩ := hv.form
    exact recWrite_no h nm hnm a _ cap (by omega) hj hC

end Go.Proofs.YtgpbanjammipiaaGreatDoor

namespace Go.Proofs.YtgpbanjammipiaaGreatDoor
open Go.RowKit Go.Maps

/-- What a reader has: where the next block begins, what is left of the text, whether the block was short, the error. -/
structure Rst where
  at_ : Nat
  text : List Int
  short : Bool
  err : Int

/-- A reader in its block. -/
def rcells (p : Nat) (nm : ByteArray) (n : Nat) (a : Nat) (tv : Value) (s : Bool) (e : Int) : Obj :=
  .cells #[.pointer (some ⟨p, 0, none⟩), .string nm, .int .i64 (n : Int), .int .i64 (a : Int), tv, .bool s, .int .i64 e] 105 (0, 0)

/-- A disk that is up, and a reader over it, of a file that has the bytes c and, perhaps, more: fd the disk's blocks, q the reader's, tv the slice of its text. -/
structure RkE (w : World) (fd : List Nat) (tv : Value) (p q : Nat) (l : List Ab) (R U k : Int) (nm : ByteArray) (c : List Int) (st : Rst) : Prop where
  disk : Dk w fd p l (upS R U k)
  file : ∃ x, lookA l nm.data.toList = some x ∧ c <+: x.2.1
  cells : w.heap[q]? = some (rcells p nm c.length st.at_ tv st.short st.err)
  text : IsB w tv st.text
  at_le : st.at_ ≤ c.length
  len : c.length ≤ 1000000000
  qfd : q ∉ fd
  tfd : st.text ≠ [] → ∀ x ∈ own tv, x ∉ fd
  qt : st.text ≠ [] → q ∉ own tv

/-- All its blocks. -/
def rfp (fd : List Nat) (q : Nat) (tv : Value) (t : List Int) : List Nat := fd ++ q :: (if t = [] then [] else own tv)
theorem rfp_mem {fd : List Nat} {q : Nat} {tv : Value} {t : List Int} {x : Nat} : x ∈ rfp fd q tv t ↔ x ∈ fd ∨ x = q ∨ (t ≠ [] ∧ x ∈ own tv) := by
  by_cases h : t = [] <;> simp [rfp, h]

theorem prefix_take {c d : List Int} (h : c <+: d) (a m : Nat) (hm : a + m ≤ c.length) : (d.drop a).take m = (c.drop a).take m := by
  obtain ⟨r, rfl⟩ := h
  rw [List.drop_append_of_le_length (by omega), List.take_append_of_le_length (by rw [List.length_drop]; omega)]

section
variable {w w' : World} {fd : List Nat} {tv : Value} {p q : Nat} {l : List Ab} {R U k : Int} {nm : ByteArray} {c : List Int} {st : Rst}

theorem RkE.lt (h : RkE w fd tv p q l R U k nm c st) : ∀ x ∈ rfp fd q tv st.text, x < w.heap.size := fun x hx => by
  rcases rfp_mem.1 hx with hx | rfl | ⟨h0, hx⟩
  · exact h.disk.lt x hx
  · exact heap_lt h.cells
  · exact h.text.lt h0 x hx

theorem RkE.kept {fp : List Nat} (h : RkE w fd tv p q l R U k nm c st) (hk : Kept fp w w') (hf : ∀ x ∈ rfp fd q tv st.text, x ∉ fp) : RkE w' fd tv p q l R U k nm c st :=
  ⟨h.disk.kept hk (fun x hx => hf x (rfp_mem.2 (.inl hx))), h.file, hk.heap9 h.cells (hf q (rfp_mem.2 (.inr (.inl rfl)))), h.text.kept hk (fun h0 x hx => hf x (rfp_mem.2 (.inr (.inr ⟨h0, hx⟩)))), h.at_le, h.len, h.qfd, h.tfd, h.qt⟩

theorem RkE.below (h : RkE w fd tv p q l R U k nm c st) (hb : Below w.heap.size w w') : RkE w' fd tv p q l R U k nm c st := h.kept (fp := []) (Kept.of_below hb) (by simp)

theorem RkE.cellAt (h : RkE w fd tv p q l R U k nm c st) : w.cell? ⟨q, 0, none⟩ = some (.pointer (some ⟨p, 0, none⟩)) ∧ w.cell? ⟨q, 1, none⟩ = some (.string nm) ∧ w.cell? ⟨q, 2, none⟩ = some (.int .i64 (c.length : Int)) ∧ w.cell? ⟨q, 3, none⟩ = some (.int .i64 (st.at_ : Int)) ∧
    w.cell? ⟨q, 4, none⟩ = some tv ∧ w.cell? ⟨q, 5, none⟩ = some (.bool st.short) ∧ w.cell? ⟨q, 6, none⟩ = some (.int .i64 st.err) ∧ ∀ o, w.frozen? ⟨q, o, none⟩ = false :=
  ⟨(cell_of_heap h.cells 0).trans rfl, (cell_of_heap h.cells 1).trans rfl, (cell_of_heap h.cells 2).trans rfl, (cell_of_heap h.cells 3).trans rfl, (cell_of_heap h.cells 4).trans rfl, (cell_of_heap h.cells 5).trans rfl, (cell_of_heap h.cells 6).trans rfl, fun o => frozen_of_heap h.cells o⟩

/-- An operation of the disk that reads. -/
theorem RkE.disk_op {k' : Int} {fd' : List Nat} (h : RkE w fd tv p q l R U k nm c st) (d : Dk w' fd' p l (upS R U k')) (hk : Kept fd w w') (n : Newly w fd fd') : RkE w' fd' tv p q l R U k' nm c st ∧ Kept (rfp fd q tv st.text) w w' ∧ Newly w (rfp fd q tv st.text) (rfp fd' q tv st.text) := by
  have hq := heap_lt h.cells
  refine ⟨⟨d, h.file, hk.heap9 h.cells h.qfd, h.text.kept hk h.tfd, h.at_le, h.len, fun e => ?_, fun h0 x hx e => ?_, h.qt⟩, hk.mono (fun x hx => rfp_mem.2 (.inl hx)), fun x hx => ?_⟩
  · rcases n q e with e | e
    · exact h.qfd e
    · omega
  · rcases n x e with e | e
    · exact h.tfd h0 x hx e
    · have := h.text.lt h0 x hx; omega
  · rcases rfp_mem.1 hx with hx | hx
    · exact (n x hx).imp (fun e => rfp_mem.2 (.inl e)) id
    · exact .inl (rfp_mem.2 (.inr hx))

/-- Another state of the reader. -/
theorem RkE.turn (h : RkE w fd tv p q l R U k nm c st) {tv' : Value} {st' : Rst} (hk : Kept [q] w w') (hc : w'.heap[q]? = some (rcells p nm c.length st'.at_ tv' st'.short st'.err)) (ht : IsB w tv' st'.text) (ha : st'.at_ ≤ c.length)
    (hn : st'.text ≠ [] → ∀ x ∈ own tv', x ∉ fd ∧ x ≠ q) : RkE w' fd tv' p q l R U k nm c st' ∧ Kept (rfp fd q tv st.text) w w' :=
  ⟨⟨h.disk.kept hk (fun x hx e => by simp only [List.mem_singleton] at e; subst e; exact h.qfd hx), h.file, hc, ht.kept hk (fun h0 x hx e => by simp only [List.mem_singleton] at e; exact (hn h0 x hx).2 e), ha, h.len, h.qfd, fun h0 x hx => (hn h0 x hx).1, fun h0 e => (hn h0 q e).2 rfl⟩,
    hk.mono (fun x hx => rfp_mem.2 (.inr (.inl (by simpa using hx))))⟩

end

/-! ### decode, next -/

/-- What decode and next leave: the text, how many bytes the block has, the error; more operations. -/
def NextP (w : World) (fd : List Nat) (tv : Value) (p q : Nat) (l : List Ab) (R U k : Int) (nm : ByteArray) (c : List Int) (st : Rst) (m : Int) (D : List Int × Nat × Int) (e : Ending) (w' : World) : Prop :=
  ∃ u fd' k', e = .returned (.tuple #[u, .int .i64 D.2.1, .int .i64 D.2.2]) ∧ IsB w' u D.1 ∧ RkE w' fd' tv p q l R U k' nm c st ∧ k ≤ k' ∧ k' ≤ k + m ∧ Kept (rfp fd q tv st.text) w w' ∧ Newly w (rfp fd q tv st.text) (rfp fd' q tv st.text) ∧ ∀ x ∈ own u, w.heap.size ≤ x ∧ x ∉ rfp fd' q tv st.text

section
variable {w : World} {fd : List Nat} {tv : Value} {p q : Nat} {l : List Ab} {R U k : Int} {nm : ByteArray} {c : List Int} {st : Rst}

set_option maxRecDepth 100000 in
set_option maxHeartbeats 4000000 in
theorem rdecode_any (h : RkE w fd tv p q l R U k nm c st) (hk : k ≤ 999999) (hnm : nm.size ≤ maxLen) (m : Nat) (hm : m ≤ 1006) :
    Calls Tryz.prog 119 #[.pointer (some ⟨q, 0, none⟩), .int .i64 (m : Int)] w (NextP w fd tv p q l R U k nm c st 1 (decB ((c.drop st.at_).take m))) := by
  obtain ⟨c0, c1, c2, c3, c4, c5, c6, c7⟩ := h.cellAt
  obtain ⟨x, hx, hpre⟩ := h.file
  obtain ⟨N, hN⟩ : ∃ N, N = c.length := ⟨_, rfl⟩
  obtain ⟨a, ha⟩ : ∃ a, a = st.at_ := ⟨_, rfl⟩
  have haN : a ≤ N := by rw [ha, hN]; exact h.at_le
  have hN2 : N ≤ 1000000000 := by rw [hN]; exact h.len
  obtain ⟨r, hr⟩ : ∃ r, r = min m (N - a) := ⟨_, rfl⟩
  have hpl := hpre.length_le
  have RD := fun (W : World) (hW : Below w.heap.size w W) => (h.disk.below hW).read (by simp only [upS]; omega) nm hnm (x := x) (by rw [begin_up]; unfold errA; rw [if_neg (by simp [upS])]; dsimp only; rw [hx]) (by rw [begin_up]; exact hx) a r (by omega)
  rw [begin_up, prefix_take hpre a r (by omega)] at RD
  have hcr : (c.drop a).take r = (c.drop a).take m := by
    rw [List.take_eq_take_iff, List.length_drop]
    omega
  rw [hcr] at RD
  have hmin : ∀ (ts : Array TypeId) (t : TypeId) (W : World), (Builtin.min_ ts t #[.int .i64 (m : Int), .int .i64 ((N : Int) - (a : Int))]).run Tryz.prog W = .ok (.int .i64 (r : Int)) W := fun ts t W => by
    have := min_len m (N - a) ((N : Int) - (a : Int)) (by omega) ts t W
    rw [← hr] at this
    exact this
  have hsub : IntKind.i64.wrap ((N : Int) - (a : Int)) = (N : Int) - (a : Int) := i64_small _ (by omega) (by omega)
  have HR := hide RD
  have H := hide h
  have HN := hide hN
  have HA := hide ha
  have HML : Hid (((c.drop a).take m).length ≤ 1099511627776) := by show _ ≤ _; rw [List.length_take]; omega
  rw [← hN] at c2
  rw [← ha] at c3 ⊢
  generalize (c.drop a).take m = bs at HR HML ⊢
  clear h hx hpre hcr hr hN ha RD hpl
  have c0' : w.drew.cell? ⟨q, 0, none⟩ = some (.pointer (some ⟨p, 0, none⟩)) := c0
  have c1' : w.drew.cell? ⟨q, 1, none⟩ = some (.string nm) := c1
  have c2' : w.drew.cell? ⟨q, 2, none⟩ = some (.int .i64 (N : Int)) := c2
  have c3' : w.drew.cell? ⟨q, 3, none⟩ = some (.int .i64 (a : Int)) := c3
  clear c0 c1 c2 c3 c4 c5 c6
  go_enter Tryz.func119, Tryz.ntmps119
  go_wp2_with fail
  go_region_held (fun W => W.cell? ⟨q, 0, none⟩ = some (.pointer (some ⟨p, 0, none⟩)) ∧ W.cell? ⟨q, 1, none⟩ = some (.string nm) ∧ W.cell? ⟨q, 2, none⟩ = some (.int .i64 (N : Int)) ∧ W.cell? ⟨q, 3, none⟩ = some (.int .i64 (a : Int))) (exact ⟨by assumption, by assumption, by assumption, by assumption⟩)
    (first | (go_at_call 147; refine (HR.out _ ((Below.refl _ w).drew)).mono ?_; rintro e w2 ⟨v2, rfl, r2, fd2, d2, k2, n2, y2⟩; obtain ⟨E2, K2, N2⟩ := (H.out.below ((Below.refl _ w).drew)).disk_op d2 k2 n2; obtain ⟨f0, f1, f2, f3, _⟩ := E2.cellAt; rw [← HN.out] at f2; rw [← HA.out] at f3; have HE2 := hide E2; have HK2 := hide K2; have HN2 := hide N2; have HR2 := hide r2; have HY2 := hide y2; clear d2 k2 n2 r2 y2 E2 K2 N2))
  have DC := hide (decode_any v2 bs w2 HR2.out.isB HML.out)
  go_wp2_with fail
  refine DC.out.mono ?_
  rintro e w3 ⟨u3, rfl, i3, b3, n3⟩
  go_wp2
  go_ret3
  have k2 : Kept (rfp fd q tv st.text) w w2 := ⟨HK2.out.os, HK2.out.tape, HK2.out.output, HK2.out.size, HK2.out.block⟩
  have n2 : Newly w (rfp fd q tv st.text) (rfp fd2 q tv st.text) := HN2.out
  have hlt := HE2.out.lt
  refine ⟨u3, fd2, k + 1, rfl, i3, HE2.out.below b3, by omega, by omega, k2.trans (Kept.of_below (fp := []) b3) (fun _ hx => by simp at hx), n2, fun x hx => ?_⟩
  have h1 := n3 x hx
  exact ⟨Nat.le_trans k2.size h1, fun e => by have := hlt x e; omega⟩

set_option maxRecDepth 100000 in
set_option maxHeartbeats 4000000 in
/-- next, of the block that the bytes begin with. -/
theorem rnext_any (h : RkE w fd tv p q l R U k nm c st) (hk : k ≤ 999998) (hnm : nm.size ≤ maxLen) :
    Calls Tryz.prog 95 #[.pointer (some ⟨q, 0, none⟩)] w (NextP w fd tv p q l R U k nm c st 2 (decB (c.drop st.at_))) := by
  have D1 := hide (rdecode_any h (by omega) hnm 806 (by omega))
  have D2 := hide (fun (W : World) (fd1 : List Nat) (k1 : Int) (h1 : RkE W fd1 tv p q l R U k1 nm c st) (hk1 : k1 ≤ 999999) => rdecode_any h1 hk1 hnm 1006 (by omega))
  have hlen : (c.drop st.at_).length = c.length - st.at_ := List.length_drop
  obtain ⟨N, hN⟩ : ∃ N, N = c.length := ⟨_, rfl⟩
  obtain ⟨a, ha⟩ : ∃ a, a = st.at_ := ⟨_, rfl⟩
  have haN : a ≤ N := by rw [ha, hN]; exact h.at_le
  have hN2 : N ≤ 1000000000 := by rw [hN]; exact h.len
  have hT1 := decB_take (c.drop st.at_) 806
  have hT2 := decB_take (c.drop st.at_) 1006 (.inr (.inl (Nat.le_refl _)))
  rw [hT2] at D2
  have HN := hide hN
  have HA := hide ha
  rw [hlen, ← hN, ← ha] at hT1
  have hsub : IntKind.i64.wrap ((N : Int) - (a : Int)) = (N : Int) - (a : Int) := i64_small _ (by omega) (by omega)
  obtain ⟨⟨t1, m1, e1⟩, hD1⟩ : ∃ D, D = decB ((c.drop st.at_).take 806) := ⟨_, rfl⟩
  rw [← hD1] at D1
  rw [← ha] at hD1
  rw [← hD1] at hT1
  have HD1 := hide hD1
  have HT1 := hide hT1
  generalize hdd : decB (c.drop st.at_) = DD at D2 ⊢
  rw [← ha] at hdd
  have HDD := hide hdd
  clear h hlen hN ha hT1 hT2 hD1 hdd
  by_cases he : e1 = 2
  · subst he
    by_cases hbig : 806 < N - a
    · have hbig' : (806 : Int) < (N : Int) - (a : Int) := by omega
      go_enter Tryz.func95, Tryz.ntmps95
      go_wp2_with fail
      refine D1.out.mono ?_
      rintro e w1 ⟨u1, fd1, k1, rfl, i1, E1, hk1, hk2, K1, N1, O1⟩
      obtain ⟨_, _, f2, f3, _⟩ := E1.cellAt
      rw [← HN.out] at f2
      rw [← HA.out] at f3
      have H2 := hide (D2.out _ _ _ (E1.below (Below.refl _ w1).drew) (by omega))
      have HK1 := hide (And.intro K1 N1)
      have F2 : w1.drew.cell? ⟨q, 2, none⟩ = some (.int .i64 (N : Int)) := f2
      have F3 : w1.drew.cell? ⟨q, 3, none⟩ = some (.int .i64 (a : Int)) := f3
      clear E1 K1 N1 O1 i1
      go_wp2
      go_region_held (fun W => W.cell? ⟨q, 2, none⟩ = some (.int .i64 (N : Int)) ∧ W.cell? ⟨q, 3, none⟩ = some (.int .i64 (a : Int))) (exact ⟨by assumption, by assumption⟩) (fail)
      go_wp2_with fail
      refine H2.out.mono ?_
      rintro e w2 ⟨u2, fd2, k2, rfl, i2, E2, hk3, hk4, K2, N2, O2⟩
      go_wp2
      go_ret3
      have K1 : Kept _ w w1 := HK1.out.1
      have K2' : Kept (rfp fd1 q tv st.text) w1 w2 := ⟨K2.os, K2.tape, K2.output, K2.size, K2.block⟩
      have N2' : Newly w1 (rfp fd1 q tv st.text) (rfp fd2 q tv st.text) := N2
      exact ⟨u2, fd2, k2, rfl, i2, E2, by omega, by omega, K1.trans K2' HK1.out.2, HK1.out.2.trans N2' K1.size, fun x hx => ⟨Nat.le_trans K1.size (O2 x hx).1, (O2 x hx).2⟩⟩
    · have hbig' : ¬ (806 : Int) < (N : Int) - (a : Int) := by omega
      have heq : ([], 0, 2) = DD ∨ True := .inr trivial
      have hDD : (t1, m1, (2 : Int)) = DD := by rw [← HDD.out]; exact HT1.out (.inr (.inr (by omega)))
      subst hDD
      clear heq
      go_enter Tryz.func95, Tryz.ntmps95
      go_wp2_with fail
      refine D1.out.mono ?_
      rintro e w1 ⟨u1, fd1, k1, rfl, i1, E1, hk1, hk2, K1, N1, O1⟩
      obtain ⟨_, _, f2, f3, _⟩ := E1.cellAt
      rw [← HN.out] at f2
      rw [← HA.out] at f3
      have HE1 := hide (E1.below (Below.refl _ w1).drew)
      have HI1 := hide i1
      have HK1 := hide (And.intro K1 (And.intro N1 O1))
      have F2 : w1.drew.cell? ⟨q, 2, none⟩ = some (.int .i64 (N : Int)) := f2
      have F3 : w1.drew.cell? ⟨q, 3, none⟩ = some (.int .i64 (a : Int)) := f3
      clear E1 K1 N1 O1 i1
      go_wp2
      go_region_held (fun W => W.cell? ⟨q, 2, none⟩ = some (.int .i64 (N : Int)) ∧ W.cell? ⟨q, 3, none⟩ = some (.int .i64 (a : Int))) (exact ⟨by assumption, by assumption⟩) (fail)
      go_wp2
      go_ret3
      exact ⟨u1, fd1, k1, rfl, HI1.out, HE1.out, by omega, by omega, HK1.out.1.drew, HK1.out.2.1, HK1.out.2.2⟩
  · have hDD : (t1, m1, e1) = DD := by rw [← HDD.out]; exact HT1.out (.inl he)
    subst hDD
    have he' : ¬ (e1 = 2) := he
    have heb : (e1 == 2) = false := by simpa using he
    go_enter Tryz.func95, Tryz.ntmps95
    go_wp2_with fail
    refine D1.out.mono ?_
    rintro e w1 ⟨u1, fd1, k1, rfl, i1, E1, hk1, hk2, K1, N1, O1⟩
    have HE1 := hide E1
    have HI1 := hide i1
    have HK1 := hide (And.intro K1 (And.intro N1 O1))
    clear E1 K1 N1 O1 i1
    go_wp2
    go_quiet (fail)
    go_wp2
    go_ret3
    have bq : Below w1.heap.size w1 (w1.drewN nq) := ⟨rfl, rfl, rfl, Nat.le_refl _, fun _ _ => rfl⟩
    exact ⟨u1, fd1, k1, rfl, HI1.out.below bq, HE1.out.below bq, by omega, by omega, HK1.out.1.drewN _, HK1.out.2.1, HK1.out.2.2⟩
end

end Go.Proofs.YtgpbanjammipiaaGreatDoor

namespace Go.Proofs.YtgpbanjammipiaaGreatDoor
open Go.RowKit Go.Maps

set_option maxRecDepth 100000 in
theorem right_any {w : World} {v : Value} {t : List Int} (h : IsB w v t) (hl : t.length ≤ 1000) : Calls Tryz.prog 96 #[v] w fun e w' => e = .returned (.bool (rightB t)) ∧ w' = w := by
  obtain ⟨a, cap, rfl, hc⟩ := h.form
  obtain ⟨n, hn⟩ : ∃ n, n = t.length := ⟨_, rfl⟩
  have hr : rightB t = (decide (16 ≤ n) && (decide (n ≤ 800) && decide (n % 16 = 0))) := by rw [hn]; rfl
  rw [hr, ← hn]
  rw [← hn] at hl
  clear h hc hr hn
  by_cases h1 : 16 ≤ n
  · by_cases h2 : n ≤ 800
    · go_enter Tryz.func96, Tryz.ntmps96
      go_wp2
      go_ret
      refine ⟨?_, rfl⟩
      simp [h1, h2]
      rw [Bool.eq_iff_iff]
      simp
      omega
    · have e2 : ¬ (n : Int) ≤ 800 := by omega
      go_enter Tryz.func96, Tryz.ntmps96
      go_wp2
      go_ret
      simp
  · have e1 : ¬ (16 : Int) ≤ (n : Int) := by omega
    go_enter Tryz.func96, Tryz.ntmps96
    go_wp2
    go_ret
    simp

/-- What the next block leaves of a reader. -/
def loadR (c : List Int) (st : Rst) : Rst × Int :=
  if (decB (c.drop st.at_)).2.2 ≠ 0 then (st, (decB (c.drop st.at_)).2.2)
  else if st.short = true ∨ rightB (decB (c.drop st.at_)).1 = false then (st, 2)
  else (⟨st.at_ + (decB (c.drop st.at_)).2.1, (decB (c.drop st.at_)).1, decide ((decB (c.drop st.at_)).1.length < 800), st.err⟩, 0)

/-- What an operation of a reader leaves. -/
def RkO (w w' : World) (fp : List Nat) (p q : Nat) (l : List Ab) (R U k m : Int) (nm : ByteArray) (c : List Int) (st : Rst) : Prop :=
  ∃ fd tv k', RkE w' fd tv p q l R U k' nm c st ∧ k ≤ k' ∧ k' ≤ k + m ∧ Kept fp w w' ∧ Newly w fp (rfp fd q tv st.text)

section
variable {w : World} {fd : List Nat} {tv : Value} {p q : Nat} {l : List Ab} {R U k : Int} {nm : ByteArray} {c : List Int} {st : Rst}

theorem rfp_nil {fd : List Nat} {q : Nat} {tv : Value} {x : Nat} (t : List Int) (h : x ∈ rfp fd q tv []) : x ∈ rfp fd q tv t := by
  rcases rfp_mem.1 h with h | h | ⟨h, _⟩
  · exact rfp_mem.2 (.inl h)
  · exact rfp_mem.2 (.inr (.inl h))
  · exact absurd rfl h

set_option maxRecDepth 100000 in
set_option maxHeartbeats 4000000 in
theorem load_any (h : RkE w fd tv p q l R U k nm c st) (h0 : st.text = []) (hk : k ≤ 999998) (hnm : nm.size ≤ maxLen) :
    Calls Tryz.prog 66 #[.pointer (some ⟨q, 0, none⟩)] w fun e w' => e = .returned (.int .i64 (loadR c st).2) ∧ RkO w w' (rfp fd q tv []) p q l R U k 2 nm c (loadR c st).1 := by
  have NX := rnext_any h hk hnm
  have hb : ∀ z ∈ c, True := fun _ _ => trivial
  obtain ⟨a, t0, s, er⟩ := st
  dsimp only at h0
  subst h0
  unfold loadR
  dsimp only at NX ⊢
  have hpos := decB_pos (c.drop a)
  have hal := h.at_le
  have hcl := h.len
  dsimp only at hal
  rw [List.length_drop] at hpos
  generalize decB (c.drop a) = D at NX hpos ⊢
  obtain ⟨t, m, e1⟩ := D
  dsimp only at NX hpos ⊢
  have HN := hide NX
  clear NX h hb
  by_cases he : e1 = 0
  · subst he
    obtain ⟨p1, p2, p3, p4⟩ := hpos rfl
    rw [if_neg (by simp)]
    by_cases hs : s = true
    · subst hs
      rw [if_pos (.inl rfl)]
      clear hpos
      go_enter Tryz.func66, Tryz.ntmps66
      go_wp2_with fail
      refine HN.out.mono ?_
      rintro e w1 ⟨u1, fd1, k1, rfl, i1, E1, hk1, hk2, K1, N1, O1⟩
      obtain ⟨_, _, _, _, _, f5, _⟩ := E1.cellAt
      have HE1 := hide (And.intro E1 (And.intro K1 N1))
      clear E1 K1 N1 O1 i1
      go_wp2
      go_ret
      exact ⟨rfl, fd1, tv, k1, HE1.out.1, hk1, hk2, HE1.out.2.1, HE1.out.2.2⟩
    · have hs2 : s = false := by simpa using hs
      subst hs2
      cases hr : rightB t with
      | false =>
        rw [if_pos (.inr rfl)]
        clear hpos
        go_enter Tryz.func66, Tryz.ntmps66
        go_wp2_with fail
        refine HN.out.mono ?_
        rintro e w1 ⟨u1, fd1, k1, rfl, i1, E1, hk1, hk2, K1, N1, O1⟩
        obtain ⟨_, _, _, _, _, f5, _⟩ := E1.cellAt
        have RT := right_any i1 p4
        rw [hr] at RT
        have HRT := hide RT
        have HE1 := hide (And.intro E1 (And.intro K1 N1))
        clear E1 K1 N1 O1 i1 RT
        go_wp2_with (go_at_call 96; refine HRT.out.mono ?_; rintro e w2 ⟨rfl, rfl⟩)
        go_ret
        exact ⟨rfl, fd1, tv, k1, HE1.out.1, hk1, hk2, HE1.out.2.1, HE1.out.2.2⟩
      | true =>
        rw [if_neg (by simp)]
        have hw1 : IntKind.i64.wrap ((a : Int) + (m : Int)) = (a : Int) + (m : Int) := i64_small _ (by omega) (by omega)
        have ham : a + m ≤ c.length := by omega
        have HAM := hide ham
        clear hpos
        go_enter Tryz.func66, Tryz.ntmps66
        go_wp2_with fail
        refine HN.out.mono ?_
        rintro e w1 ⟨u1, fd1, k1, rfl, i1, E1, hk1, hk2, K1, N1, O1⟩
        obtain ⟨_, _, _, f3, f4, f5, _, f7⟩ := E1.cellAt
        have RT := right_any i1 p4
        rw [hr] at RT
        have HRT := hide RT
        have HE1 := hide (And.intro E1 (And.intro K1 (And.intro N1 O1)))
        have HI1 := hide i1
        obtain ⟨ua, ucap, rfl, _⟩ := i1.form
        clear E1 K1 N1 O1 i1 RT ham
        go_wp2_with (go_at_call 96; refine HRT.out.mono ?_; rintro e w2 ⟨rfl, rfl⟩)
        go_ret
        refine ⟨rfl, ?_⟩
        obtain ⟨E, K, N, O⟩ := HE1.out
        have hd : decide ((t.length : Int) < 800) = decide (t.length < 800) := decide_eq_decide.2 (by omega)
        rw [hd]
        have ks : Kept [q] w2 (((w2.setCell ⟨q, 4, none⟩ (.slice ua t.length ucap)).setCell ⟨q, 3, none⟩ (.int .i64 ((a : Int) + (m : Int)))).setCell ⟨q, 5, none⟩ (.bool (decide (t.length < 800)))) :=
          (((Kept.refl _ w2).setCell (.inl (by simp)) _).setCell (.inl (by simp)) _).setCell (.inl (by simp)) _
        have hc := heap_setCell (heap_setCell (heap_setCell E.cells 4 (.slice ua t.length ucap)) 3 (.int .i64 ((a : Int) + (m : Int)))) 5 (.bool (decide (t.length < 800)))
        obtain ⟨T1, T2⟩ := E.turn (tv' := .slice ua t.length ucap) (st' := ⟨a + m, t, decide (t.length < 800), er⟩) ks (by simpa [rcells] using hc) HI1.out HAM.out (fun _ x hx => ⟨fun e => (O x hx).2 (rfp_mem.2 (.inl e)), fun e => (O x hx).2 (rfp_mem.2 (.inr (.inl e)))⟩)
        refine ⟨fd1, _, k1, T1, hk1, hk2, K.trans T2 N, fun x hx => ?_⟩
        rcases rfp_mem.1 hx with hx | hx | ⟨_, hx⟩
        · exact N x (rfp_mem.2 (.inl hx))
        · exact N x (rfp_mem.2 (.inr (.inl hx)))
        · exact .inr (O x hx).1
  · rw [if_pos he]
    clear hpos
    go_enter Tryz.func66, Tryz.ntmps66
    go_wp2_with fail
    refine HN.out.mono ?_
    rintro e w1 ⟨u1, fd1, k1, rfl, i1, E1, hk1, hk2, K1, N1, O1⟩
    have HE1 := hide (And.intro E1 (And.intro K1 N1))
    clear E1 K1 N1 O1 i1
    go_wp2
    go_ret
    exact ⟨rfl, fd1, tv, k1, HE1.out.1, hk1, hk2, HE1.out.2.1, HE1.out.2.2⟩
end

end Go.Proofs.YtgpbanjammipiaaGreatDoor

namespace Go.Proofs.YtgpbanjammipiaaGreatDoor
open Go.RowKit Go.Maps

/-- What a reader will read yet: these records, and then this error. -/
def Will (c : List Int) (st : Rst) (rs : List Rc) (e : Int) : Prop :=
  (st.err ≠ 0 ∧ st.text = [] ∧ rs = [] ∧ e = st.err) ∨
  (st.err = 0 ∧ st.text.length % 16 = 0 ∧ rs = recsT st.text ++ (readB st.short (c.drop st.at_)).1 ∧ e = (readB st.short (c.drop st.at_)).2)

/-- The reader behind load. -/
def loadS (c : List Int) (st : Rst) : Rst := { (loadR c st).1 with err := (loadR c st).2 }

theorem recsT_nil : recsT [] = [] := rfl

theorem will_load {c : List Int} {st : Rst} {rs : List Rc} {e : Int} (h : Will c st rs e) (h0 : st.err = 0) (ht : st.text = []) (ha : st.at_ < c.length) : Will c (loadS c st) rs e := by
  rcases h with ⟨h1, _⟩ | ⟨_, h2, h3, h4⟩
  · exact absurd h0 h1
  · have hne : c.drop st.at_ ≠ [] := by
      intro e
      have := congrArg List.length e
      rw [List.length_drop] at this
      simp at this
      omega
    rw [ht, recsT_nil, List.nil_append] at h3
    unfold loadS loadR
    by_cases hd : (decB (c.drop st.at_)).2.2 ≠ 0
    · rw [if_pos hd]
      rw [readB_bad hne hd] at h3 h4
      exact .inl ⟨hd, ht, h3, h4⟩
    · have hd0 : (decB (c.drop st.at_)).2.2 = 0 := by simpa using hd
      rw [if_neg hd]
      by_cases hf : st.short = true ∨ rightB (decB (c.drop st.at_)).1 = false
      · rw [if_pos hf]
        rw [readB_form hne hd0 hf] at h3 h4
        exact .inl ⟨by simp, ht, h3, h4⟩
      · rw [if_neg hf]
        have hs : st.short = false := by
          cases hs : st.short with
          | false => rfl
          | true => exact absurd (.inl hs) hf
        have hr : rightB (decB (c.drop st.at_)).1 = true := by
          cases hr : rightB (decB (c.drop st.at_)).1 with
          | true => rfl
          | false => exact absurd (.inr hr) hf
        rw [hs, readB_more hne hd0 hr, List.drop_drop] at h3 h4
        exact .inr ⟨rfl, (rightB_iff.1 hr).2.2, h3, h4⟩

theorem will_empty {c : List Int} {st : Rst} {rs : List Rc} {e : Int} (h : Will c st rs e) (ht : st.text = []) (ha : st.err ≠ 0 ∨ c.length ≤ st.at_) : rs = [] ∧ e = st.err := by
  rcases h with ⟨_, _, h3, h4⟩ | ⟨h1, _, h3, h4⟩
  · exact ⟨h3, h4⟩
  · have hd : c.drop st.at_ = [] := List.drop_of_length_le (by rcases ha with ha | ha; exact absurd h1 ha; exact ha)
    rw [hd, readB_nil] at h3 h4
    rw [ht, recsT_nil] at h3
    exact ⟨h3, by rw [h4, h1]⟩

theorem will_next {c : List Int} {st : Rst} {rs : List Rc} {e : Int} (h : Will c st rs e) (ht : st.text ≠ []) : ∃ rs', rs = recAt st.text :: rs' ∧ Will c { st with text := st.text.drop 16 } rs' e ∧ 16 ≤ st.text.length ∧ st.err = 0 := by
  rcases h with ⟨_, h2, _⟩ | ⟨h1, h2, h3, h4⟩
  · exact absurd h2 ht
  · obtain ⟨r1, r2, r3⟩ := recsT_step st.text ht h2
    refine ⟨recsT (st.text.drop 16) ++ (readB st.short (c.drop st.at_)).1, by rw [h3, r1]; rfl, .inr ⟨h1, r3, rfl, h4⟩, r2, h1⟩

theorem nextRes (tmps : Array Value) (w : World) (b : Nat) (x1 x2 : Int) (h2 : tmps.getD 2 undef = .pointer (some ⟨b, 0, none⟩)) (c1 : w.cell? ⟨b, 0, none⟩ = some (.int .u64 x1)) (c2 : w.cell? ⟨b, 1, none⟩ = some (.int .u64 x2)) :
    (results Tryz.f36 tmps).run Tryz.prog w = .ok (.tuple #[.agg #[.int .u64 x1, .int .u64 x2], tmps.getD 3 undef, tmps.getD 4 undef]) w := by
  have h2' : tmps[2]?.getD undef = .pointer (some ⟨b, 0, none⟩) := by simpa using h2
  simp [results, Tryz.results36, go_sem, h2', c1, c2]

/-- A reader beside the box of what is told. -/
structure NxM (w W : World) (fd : List Nat) (tv : Value) (p q : Nat) (l : List Ab) (R U k : Int) (nm : ByteArray) (c : List Int) (st : Rst) : Prop where
  rk : RkE W fd tv p q l R U k nm c st
  box : W.heap[w.heap.size]? = some (.cells #[.int .u64 0, .int .u64 0] 52 (0, 0))

section
variable {w : World} {fd : List Nat} {tv : Value} {p q : Nat} {l : List Ab} {R U k : Int} {nm : ByteArray} {c : List Int} {st : Rst}

theorem NxM.start (h : RkE w fd tv p q l R U k nm c st) : NxM w (w.alloc (.cells #[.int .u64 0, .int .u64 0] 52)) fd tv p q l R U k nm c st :=
  ⟨h.below ((Below.refl _ w).alloc (Nat.le_refl _) _), heap_alloc_new w _⟩

theorem NxM.next {W W' : World} (h : NxM w W fd tv p q l R U k nm c st) (hb : Below W.heap.size W W') : NxM w W' fd tv p q l R U k nm c st :=
  ⟨h.rk.below hb, (Kept.of_below (fp := []) hb).heap9 h.box (by simp)⟩

theorem NxM.facts {W : World} (h : NxM w W fd tv p q l R U k nm c st) : (W.cell? ⟨q, 2, none⟩ = some (.int .i64 (c.length : Int)) ∧ W.cell? ⟨q, 3, none⟩ = some (.int .i64 (st.at_ : Int)) ∧ W.cell? ⟨q, 4, none⟩ = some tv ∧ W.cell? ⟨q, 6, none⟩ = some (.int .i64 st.err) ∧ ∀ o, W.frozen? ⟨q, o, none⟩ = false) ∧
    W.cell? ⟨w.heap.size, 0, none⟩ = some (.int .u64 0) ∧ W.cell? ⟨w.heap.size, 1, none⟩ = some (.int .u64 0) ∧ ∀ o, W.frozen? ⟨w.heap.size, o, none⟩ = false := by
  obtain ⟨_, _, f2, f3, f4, _, f6, f7⟩ := h.rk.cellAt
  exact ⟨⟨f2, f3, f4, f6, f7⟩, (cell_of_heap h.box 0).trans rfl, (cell_of_heap h.box 1).trans rfl, fun o => frozen_of_heap h.box o⟩

theorem cell_set9 {W : World} {b : Nat} {x y v : Value} {a : Addr} (h : W.cell? a = some v) (hn : a.block ≠ b) : ((W.setCell ⟨b, 0, none⟩ x).setCell ⟨b, 1, none⟩ y).cell? a = some v :=
  (((Kept.refl [b] W).setCell (p := ⟨b, 0, none⟩) (.inl (by simp)) x).setCell (p := ⟨b, 1, none⟩) (.inl (by simp)) y).cell h (by simpa using hn)

theorem below_drewN (W : World) (n : Nat) : Below W.heap.size W (W.drewN n) := ⟨rfl, rfl, rfl, Nat.le_refl _, fun _ _ => rfl⟩

/-- What is told lies in the box: the reader stays. -/
theorem NxM.told {W : World} {fp0 : List Nat} (h : NxM w W fd tv p q l R U k nm c st) (hk : Kept fp0 w W) (x y : Value) (hq : w.heap.size ∉ rfp fd q tv st.text) :
    RkE ((W.setCell ⟨w.heap.size, 0, none⟩ x).setCell ⟨w.heap.size, 1, none⟩ y) fd tv p q l R U k nm c st ∧ Kept fp0 w ((W.setCell ⟨w.heap.size, 0, none⟩ x).setCell ⟨w.heap.size, 1, none⟩ y) := by
  refine ⟨h.rk.kept (fp := [w.heap.size]) (((Kept.refl _ W).setCell (.inl (by simp)) _).setCell (.inl (by simp)) _) (fun z hz e => ?_), (hk.setCell (p := ⟨w.heap.size, 0, none⟩) (.inr (Nat.le_refl _)) _).setCell (p := ⟨w.heap.size, 1, none⟩) (.inr (Nat.le_refl _)) _⟩
  simp only [List.mem_singleton] at e
  subst e
  exact hq hz

/-- The box is as it was told. -/
theorem NxM.boxed {W : World} (h : NxM w W fd tv p q l R U k nm c st) (x y : Value) : ((W.setCell ⟨w.heap.size, 0, none⟩ x).setCell ⟨w.heap.size, 1, none⟩ y).cell? ⟨w.heap.size, 0, none⟩ = some x ∧ ((W.setCell ⟨w.heap.size, 0, none⟩ x).setCell ⟨w.heap.size, 1, none⟩ y).cell? ⟨w.heap.size, 1, none⟩ = some y := by
  have e := heap_setCell (heap_setCell h.box 0 x) 1 y
  exact ⟨(cell_of_heap e 0).trans rfl, (cell_of_heap e 1).trans rfl⟩

/-- The text goes on. -/
theorem NxM.cut {W : World} (h : NxM w W fd tv p q l R U k nm c st) (hb : w.heap.size ≠ q) {tv' : Value} {t' : List Int} (ht : IsB W tv' t') (hn : t' ≠ [] → ∀ x ∈ own tv', x ∉ fd ∧ x ≠ q) :
    NxM w (W.setCell ⟨q, 4, none⟩ tv') fd tv' p q l R U k nm c { st with text := t' } ∧ Kept (rfp fd q tv st.text) W (W.setCell ⟨q, 4, none⟩ tv') := by
  have ks : Kept [q] W (W.setCell ⟨q, 4, none⟩ tv') := (Kept.refl _ W).setCell (.inl (by simp)) _
  have e := heap_setCell h.rk.cells 4 tv'
  obtain ⟨a, b⟩ := h.rk.turn (tv' := tv') (st' := { st with text := t' }) ks (by simpa [rcells] using e) ht h.rk.at_le hn
  exact ⟨⟨a, ks.heap9 h.box (by simpa using hb)⟩, b⟩

end

end Go.Proofs.YtgpbanjammipiaaGreatDoor
