/-
  Lemma texts, one behind the other: IRead, INext, INext2, INext3. No statement of the seat is proved here.
-/
import Derived.Test.YtdhajmgpakconaaGI
import Derived.Deep.RegionHeld
import Derived.Deep.RegionLaw
import Derived.BigQuiet
namespace Go.Proofs.Ytdhajmgpakconaa
open Go.RowKit Go.Maps

/-- What a reader has: where the next block begins, what is left of the text, whether the block was short, the error. -/
structure Rst where
  at_ : Nat
  text : List Int
  short : Bool
  err : Int

/-- A reader in its block. -/
def rcells (p : Nat) (nm : ByteArray) (n : Nat) (a : Nat) (tv : Value) (s : Bool) (e : Int) : Obj :=
  .cells #[.pointer (some ⟨p, 0, none⟩), .string nm, .int .i64 (n : Int), .int .i64 (a : Int), tv, .bool s, .int .i64 e] 89 (0, 0)

/-- A disk that is up, and a reader over it, of a file that has the bytes c and, perhaps, more: fd the disk's blocks, q the reader's, tv the slice of its text. -/
structure RkE (w : World) (fd : List Nat) (tv : Value) (p q : Nat) (l : List Ab) (R U k : Int) (nm : ByteArray) (c : List Int) (st : Rst) : Prop where
  disk : Dk w fd p l (upS R U k)
  file : ∃ x, lookA l nm.data.toList = some x ∧ c <+: x.2.1
  cells : w.heap[q]? = some (rcells p nm c.length st.at_ tv st.short st.err)
  text : IsB w tv st.text
  at_le : st.at_ ≤ c.length
  len : c.length ≤ 1000000000
  qfd : q ∉ fd
  tfd : st.text ≠ [] → ∀ x ∈ own tv, x ∉ fd
  qt : st.text ≠ [] → q ∉ own tv

/-- All its blocks. -/
def rfp (fd : List Nat) (q : Nat) (tv : Value) (t : List Int) : List Nat := fd ++ q :: (if t = [] then [] else own tv)
theorem rfp_mem {fd : List Nat} {q : Nat} {tv : Value} {t : List Int} {x : Nat} : x ∈ rfp fd q tv t ↔ x ∈ fd ∨ x = q ∨ (t ≠ [] ∧ x ∈ own tv) := by
  by_cases h : t = [] <;> simp [rfp, h]

theorem prefix_take {c d : List Int} (h : c <+: d) (a m : Nat) (hm : a + m ≤ c.length) : (d.drop a).take m = (c.drop a).take m := by
  obtain ⟨r, rfl⟩ := h
  rw [List.drop_append_of_le_length (by omega), List.take_append_of_le_length (by rw [List.length_drop]; omega)]

section
variable {w w' : World} {fd : List Nat} {tv : Value} {p q : Nat} {l : List Ab} {R U k : Int} {nm : ByteArray} {c : List Int} {st : Rst}

theorem RkE.lt (h : RkE w fd tv p q l R U k nm c st) : ∀ x ∈ rfp fd q tv st.text, x < w.heap.size := fun x hx => by
  rcases rfp_mem.1 hx with hx | rfl | ⟨h0, hx⟩
  · exact h.disk.lt x hx
  · exact heap_lt h.cells
  · exact h.text.lt h0 x hx

theorem RkE.kept {fp : List Nat} (h : RkE w fd tv p q l R U k nm c st) (hk : Kept fp w w') (hf : ∀ x ∈ rfp fd q tv st.text, x ∉ fp) : RkE w' fd tv p q l R U k nm c st :=
  ⟨h.disk.kept hk (fun x hx => hf x (rfp_mem.2 (.inl hx))), h.file, hk.heap9 h.cells (hf q (rfp_mem.2 (.inr (.inl rfl)))), h.text.kept hk (fun h0 x hx => hf x (rfp_mem.2 (.inr (.inr ⟨h0, hx⟩)))), h.at_le, h.len, h.qfd, h.tfd, h.qt⟩

theorem RkE.below (h : RkE w fd tv p q l R U k nm c st) (hb : Below w.heap.size w w') : RkE w' fd tv p q l R U k nm c st := h.kept (fp := []) (Kept.of_below hb) (by simp)

theorem RkE.cellAt (h : RkE w fd tv p q l R U k nm c st) : w.cell? ⟨q, 0, none⟩ = some (.pointer (some ⟨p, 0, none⟩)) ∧ w.cell? ⟨q, 1, none⟩ = some (.string nm) ∧ w.cell? ⟨q, 2, none⟩ = some (.int .i64 (c.length : Int)) ∧ w.cell? ⟨q, 3, none⟩ = some (.int .i64 (st.at_ : Int)) ∧
    w.cell? ⟨q, 4, none⟩ = some tv ∧ w.cell? ⟨q, 5, none⟩ = some (.bool st.short) ∧ w.cell? ⟨q, 6, none⟩ = some (.int .i64 st.err) ∧ ∀ o, w.frozen? ⟨q, o, none⟩ = false :=
  ⟨(cell_of_heap h.cells 0).trans rfl, (cell_of_heap h.cells 1).trans rfl, (cell_of_heap h.cells 2).trans rfl, (cell_of_heap h.cells 3).trans rfl, (cell_of_heap h.cells 4).trans rfl, (cell_of_heap h.cells 5).trans rfl, (cell_of_heap h.cells 6).trans rfl, fun o => frozen_of_heap h.cells o⟩

/-- An operation of the disk that reads. -/
theorem RkE.disk_op {k' : Int} {fd' : List Nat} (h : RkE w fd tv p q l R U k nm c st) (d : Dk w' fd' p l (upS R U k')) (hk : Kept fd w w') (n : Newly w fd fd') : RkE w' fd' tv p q l R U k' nm c st ∧ Kept (rfp fd q tv st.text) w w' ∧ Newly w (rfp fd q tv st.text) (rfp fd' q tv st.text) := by
  have hq := heap_lt h.cells
  refine ⟨⟨d, h.file, hk.heap9 h.cells h.qfd, h.text.kept hk h.tfd, h.at_le, h.len, fun e => ?_, fun h0 x hx e => ?_, h.qt⟩, hk.mono (fun x hx => rfp_mem.2 (.inl hx)), fun x hx => ?_⟩
  · rcases n q e with e | e
    · exact h.qfd e
    · omega
  · rcases n x e with e | e
    · exact h.tfd h0 x hx e
    · have := h.text.lt h0 x hx; omega
  · rcases rfp_mem.1 hx with hx | hx
    · exact (n x hx).imp (fun e => rfp_mem.2 (.inl e)) id
    · exact .inl (rfp_mem.2 (.inr hx))

/-- Another state of the reader. -/
theorem RkE.turn (h : RkE w fd tv p q l R U k nm c st) {tv' : Value} {st' : Rst} (hk : Kept [q] w w') (hc : w'.heap[q]? = some (rcells p nm c.length st'.at_ tv' st'.short st'.err)) (ht : IsB w tv' st'.text) (ha : st'.at_ ≤ c.length)
    (hn : st'.text ≠ [] → ∀ x ∈ own tv', x ∉ fd ∧ x ≠ q) : RkE w' fd tv' p q l R U k nm c st' ∧ Kept (rfp fd q tv st.text) w w' :=
  ⟨⟨h.disk.kept hk (fun x hx e => by simp only [List.mem_singleton] at e; subst e; exact h.qfd hx), h.file, hc, ht.kept hk (fun h0 x hx e => by simp only [List.mem_singleton] at e; exact (hn h0 x hx).2 e), ha, h.len, h.qfd, fun h0 x hx => (hn h0 x hx).1, fun h0 e => (hn h0 q e).2 rfl⟩,
    hk.mono (fun x hx => rfp_mem.2 (.inr (.inl (by simpa using hx))))⟩

end

/-! ### decode, next -/

/-- What decode and next leave: the text, how many bytes the block has, the error; more operations. -/
def NextP (w : World) (fd : List Nat) (tv : Value) (p q : Nat) (l : List Ab) (R U k : Int) (nm : ByteArray) (c : List Int) (st : Rst) (m : Int) (D : List Int × Nat × Int) (e : Ending) (w' : World) : Prop :=
  ∃ u fd' k', e = .returned (.tuple #[u, .int .i64 D.2.1, .int .i64 D.2.2]) ∧ IsB w' u D.1 ∧ RkE w' fd' tv p q l R U k' nm c st ∧ k ≤ k' ∧ k' ≤ k + m ∧ Kept (rfp fd q tv st.text) w w' ∧ Newly w (rfp fd q tv st.text) (rfp fd' q tv st.text) ∧ ∀ x ∈ own u, w.heap.size ≤ x ∧ x ∉ rfp fd' q tv st.text

section
variable {w : World} {fd : List Nat} {tv : Value} {p q : Nat} {l : List Ab} {R U k : Int} {nm : ByteArray} {c : List Int} {st : Rst}

set_option maxRecDepth 100000 in
set_option maxHeartbeats 4000000 in
theorem rdecode_any (h : RkE w fd tv p q l R U k nm c st) (hk : k ≤ 999999) (hnm : nm.size ≤ maxLen) (m : Nat) (hm : m ≤ 1006) :
    Calls Try.prog 68 #[.pointer (some ⟨q, 0, none⟩), .int .i64 (m : Int)] w (NextP w fd tv p q l R U k nm c st 1 (decB ((c.drop st.at_).take m))) := by
  obtain ⟨c0, c1, c2, c3, c4, c5, c6, c7⟩ := h.cellAt
  obtain ⟨x, hx, hpre⟩ := h.file
  obtain ⟨N, hN⟩ : ∃ N, N = c.length := ⟨_, rfl⟩
  obtain ⟨a, ha⟩ : ∃ a, a = st.at_ := ⟨_, rfl⟩
  have haN : a ≤ N := by rw [ha, hN]; exact h.at_le
  have hN2 : N ≤ 1000000000 := by rw [hN]; exact h.len
  obtain ⟨r, hr⟩ : ∃ r, r = min m (N - a) := ⟨_, rfl⟩
  have hpl := hpre.length_le
  have RD := fun (W : World) (hW : Below w.heap.size w W) => (h.disk.below hW).read (by simp only [upS]; omega) nm hnm (x := x) (by rw [begin_up]; unfold errA; rw [if_neg (by simp [upS])]; dsimp only; rw [hx]) (by rw [begin_up]; exact hx) a r (by omega)
  rw [begin_up, prefix_take hpre a r (by omega)] at RD
  have hcr : (c.drop a).take r = (c.drop a).take m := by
    rw [List.take_eq_take_iff, List.length_drop]
    omega
  rw [hcr] at RD
  have hmin : ∀ (ts : Array TypeId) (t : TypeId) (W : World), (Builtin.min_ ts t #[.int .i64 (m : Int), .int .i64 ((N : Int) - (a : Int))]).run Try.prog W = .ok (.int .i64 (r : Int)) W := fun ts t W => by
    have := min_len m (N - a) ((N : Int) - (a : Int)) (by omega) ts t W
    rw [← hr] at this
    exact this
  have hsub : IntKind.i64.wrap ((N : Int) - (a : Int)) = (N : Int) - (a : Int) := i64_small _ (by omega) (by omega)
  have HR := hide RD
  have H := hide h
  have HN := hide hN
  have HA := hide ha
  have HML : Hid (((c.drop a).take m).length ≤ 1099511627776) := by show _ ≤ _; rw [List.length_take]; omega
  rw [← hN] at c2
  rw [← ha] at c3 ⊢
  generalize (c.drop a).take m = bs at HR HML ⊢
  clear h hx hpre hcr hr hN ha RD hpl
  have c0' : w.drew.cell? ⟨q, 0, none⟩ = some (.pointer (some ⟨p, 0, none⟩)) := c0
  have c1' : w.drew.cell? ⟨q, 1, none⟩ = some (.string nm) := c1
  have c2' : w.drew.cell? ⟨q, 2, none⟩ = some (.int .i64 (N : Int)) := c2
  have c3' : w.drew.cell? ⟨q, 3, none⟩ = some (.int .i64 (a : Int)) := c3
  clear c0 c1 c2 c3 c4 c5 c6
  go_enter Try.func68, Try.ntmps68
  go_wp2_with fail
  go_region_held (fun W => W.cell? ⟨q, 0, none⟩ = some (.pointer (some ⟨p, 0, none⟩)) ∧ W.cell? ⟨q, 1, none⟩ = some (.string nm) ∧ W.cell? ⟨q, 2, none⟩ = some (.int .i64 (N : Int)) ∧ W.cell? ⟨q, 3, none⟩ = some (.int .i64 (a : Int))) (exact ⟨by assumption, by assumption, by assumption, by assumption⟩)
    (first | (go_at_call 17; refine (HR.out _ ((Below.refl _ w).drew)).mono ?_; rintro e w2 ⟨v2, rfl, r2, fd2, d2, k2, n2, y2⟩; obtain ⟨E2, K2, N2⟩ := (H.out.below ((Below.refl _ w).drew)).disk_op d2 k2 n2; obtain ⟨f0, f1, f2, f3, _⟩ := E2.cellAt; rw [← HN.out] at f2; rw [← HA.out] at f3; have HE2 := hide E2; have HK2 := hide K2; have HN2 := hide N2; have HR2 := hide r2; have HY2 := hide y2; clear d2 k2 n2 r2 y2 E2 K2 N2))
  have DC := hide (decode_any v2 bs w2 HR2.out.isB HML.out)
  go_wp2_with fail
  refine DC.out.mono ?_
  rintro e w3 ⟨u3, rfl, i3, b3, n3⟩
  go_wp2
  go_ret3
  have k2 : Kept (rfp fd q tv st.text) w w2 := ⟨HK2.out.os, HK2.out.tape, HK2.out.output, HK2.out.size, HK2.out.block⟩
  have n2 : Newly w (rfp fd q tv st.text) (rfp fd2 q tv st.text) := HN2.out
  have hlt := HE2.out.lt
  refine ⟨u3, fd2, k + 1, rfl, i3, HE2.out.below b3, by omega, by omega, k2.trans (Kept.of_below (fp := []) b3) (fun _ hx => by simp at hx), n2, fun x hx => ?_⟩
  have h1 := n3 x hx
  exact ⟨Nat.le_trans k2.size h1, fun e => by have := hlt x e; omega⟩

set_option maxRecDepth 100000 in
set_option maxHeartbeats 4000000 in
/-- next, of the block that the bytes begin with. -/
theorem rnext_any (h : RkE w fd tv p q l R U k nm c st) (hk : k ≤ 999998) (hnm : nm.size ≤ maxLen) :
    Calls Try.prog 58 #[.pointer (some ⟨q, 0, none⟩)] w (NextP w fd tv p q l R U k nm c st 2 (decB (c.drop st.at_))) := by
  have D1 := hide (rdecode_any h (by omega) hnm 806 (by omega))
  have D2 := hide (fun (W : World) (fd1 : List Nat) (k1 : Int) (h1 : RkE W fd1 tv p q l R U k1 nm c st) (hk1 : k1 ≤ 999999) => rdecode_any h1 hk1 hnm 1006 (by omega))
  have hlen : (c.drop st.at_).length = c.length - st.at_ := List.length_drop
  obtain ⟨N, hN⟩ : ∃ N, N = c.length := ⟨_, rfl⟩
  obtain ⟨a, ha⟩ : ∃ a, a = st.at_ := ⟨_, rfl⟩
  have haN : a ≤ N := by rw [ha, hN]; exact h.at_le
  have hN2 : N ≤ 1000000000 := by rw [hN]; exact h.len
  have hT1 := decB_take (c.drop st.at_) 806
  have hT2 := decB_take (c.drop st.at_) 1006 (.inr (.inl (Nat.le_refl _)))
  rw [hT2] at D2
  have HN := hide hN
  have HA := hide ha
  rw [hlen, ← hN, ← ha] at hT1
  have hsub : IntKind.i64.wrap ((N : Int) - (a : Int)) = (N : Int) - (a : Int) := i64_small _ (by omega) (by omega)
  obtain ⟨⟨t1, m1, e1⟩, hD1⟩ : ∃ D, D = decB ((c.drop st.at_).take 806) := ⟨_, rfl⟩
  rw [← hD1] at D1
  rw [← ha] at hD1
  rw [← hD1] at hT1
  have HD1 := hide hD1
  have HT1 := hide hT1
  generalize hdd : decB (c.drop st.at_) = DD at D2 ⊢
  rw [← ha] at hdd
  have HDD := hide hdd
  clear h hlen hN ha hT1 hT2 hD1 hdd
  by_cases he : e1 = 2
  · subst he
    by_cases hbig : 806 < N - a
    · have hbig' : (806 : Int) < (N : Int) - (a : Int) := by omega
      go_enter Try.func58, Try.ntmps58
      go_wp2_with fail
      refine D1.out.mono ?_
      rintro e w1 ⟨u1, fd1, k1, rfl, i1, E1, hk1, hk2, K1, N1, O1⟩
      obtain ⟨_, _, f2, f3, _⟩ := E1.cellAt
      rw [← HN.out] at f2
      rw [← HA.out] at f3
      have H2 := hide (D2.out _ _ _ (E1.below (Below.refl _ w1).drew) (by omega))
      have HK1 := hide (And.intro K1 N1)
      have F2 : w1.drew.cell? ⟨q, 2, none⟩ = some (.int .i64 (N : Int)) := f2
      have F3 : w1.drew.cell? ⟨q, 3, none⟩ = some (.int .i64 (a : Int)) := f3
      clear E1 K1 N1 O1 i1
      go_wp2
      go_region_held (fun W => W.cell? ⟨q, 2, none⟩ = some (.int .i64 (N : Int)) ∧ W.cell? ⟨q, 3, none⟩ = some (.int .i64 (a : Int))) (exact ⟨by assumption, by assumption⟩) (fail)
      go_wp2_with fail
      refine H2.out.mono ?_
      rintro e w2 ⟨u2, fd2, k2, rfl, i2, E2, hk3, hk4, K2, N2, O2⟩
      go_wp2
      go_ret3
      have K1 : Kept _ w w1 := HK1.out.1
      have K2' : Kept (rfp fd1 q tv st.text) w1 w2 := ⟨K2.os, K2.tape, K2.output, K2.size, K2.block⟩
      have N2' : Newly w1 (rfp fd1 q tv st.text) (rfp fd2 q tv st.text) := N2
      exact ⟨u2, fd2, k2, rfl, i2, E2, by omega, by omega, K1.trans K2' HK1.out.2, HK1.out.2.trans N2' K1.size, fun x hx => ⟨Nat.le_trans K1.size (O2 x hx).1, (O2 x hx).2⟩⟩
    · have hbig' : ¬ (806 : Int) < (N : Int) - (a : Int) := by omega
      have heq : ([], 0, 2) = DD ∨ True := .inr trivial
      have hDD : (t1, m1, (2 : Int)) = DD := by rw [← HDD.out]; exact HT1.out (.inr (.inr (by omega)))
      subst hDD
      clear heq
      go_enter Try.func58, Try.ntmps58
      go_wp2_with fail
      refine D1.out.mono ?_
      rintro e w1 ⟨u1, fd1, k1, rfl, i1, E1, hk1, hk2, K1, N1, O1⟩
      obtain ⟨_, _, f2, f3, _⟩ := E1.cellAt
      rw [← HN.out] at f2
      rw [← HA.out] at f3
      have HE1 := hide (E1.below (Below.refl _ w1).drew)
      have HI1 := hide i1
      have HK1 := hide (And.intro K1 (And.intro N1 O1))
      have F2 : w1.drew.cell? ⟨q, 2, none⟩ = some (.int .i64 (N : Int)) := f2
      have F3 : w1.drew.cell? ⟨q, 3, none⟩ = some (.int .i64 (a : Int)) := f3
      clear E1 K1 N1 O1 i1
      go_wp2
      go_region_held (fun W => W.cell? ⟨q, 2, none⟩ = some (.int .i64 (N : Int)) ∧ W.cell? ⟨q, 3, none⟩ = some (.int .i64 (a : Int))) (exact ⟨by assumption, by assumption⟩) (fail)
      go_wp2
      go_ret3
      exact ⟨u1, fd1, k1, rfl, HI1.out, HE1.out, by omega, by omega, HK1.out.1.drew, HK1.out.2.1, HK1.out.2.2⟩
  · have hDD : (t1, m1, e1) = DD := by rw [← HDD.out]; exact HT1.out (.inl he)
    subst hDD
    have he' : ¬ (e1 = 2) := he
    have heb : (e1 == 2) = false := by simpa using he
    go_enter Try.func58, Try.ntmps58
    go_wp2_with fail
    refine D1.out.mono ?_
    rintro e w1 ⟨u1, fd1, k1, rfl, i1, E1, hk1, hk2, K1, N1, O1⟩
    have HE1 := hide E1
    have HI1 := hide i1
    have HK1 := hide (And.intro K1 (And.intro N1 O1))
    clear E1 K1 N1 O1 i1
    go_wp2
    go_quiet (fail)
    go_wp2
    go_ret3
    have bq : Below w1.heap.size w1 (w1.drewN nq) := ⟨rfl, rfl, rfl, Nat.le_refl _, fun _ _ => rfl⟩
    exact ⟨u1, fd1, k1, rfl, HI1.out.below bq, HE1.out.below bq, by omega, by omega, HK1.out.1.drewN _, HK1.out.2.1, HK1.out.2.2⟩
end

end Go.Proofs.Ytdhajmgpakconaa

namespace Go.Proofs.Ytdhajmgpakconaa
open Go.RowKit Go.Maps

set_option maxRecDepth 100000 in
theorem right_any {w : World} {v : Value} {t : List Int} (h : IsB w v t) (hl : t.length ≤ 1000) : Calls Try.prog 59 #[v] w fun e w' => e = .returned (.bool (rightB t)) ∧ w' = w := by
  obtain ⟨a, cap, rfl, hc⟩ := h.form
  obtain ⟨n, hn⟩ : ∃ n, n = t.length := ⟨_, rfl⟩
  have hr : rightB t = (decide (16 ≤ n) && (decide (n ≤ 800) && decide (n % 16 = 0))) := by rw [hn]; rfl
  rw [hr, ← hn]
  rw [← hn] at hl
  clear h hc hr hn
  by_cases h1 : 16 ≤ n
  · by_cases h2 : n ≤ 800
    · go_enter Try.func59, Try.ntmps59
      go_wp2
      go_ret
      refine ⟨?_, rfl⟩
      simp [h1, h2]
      rw [Bool.eq_iff_iff]
      simp
      omega
    · have e2 : ¬ (n : Int) ≤ 800 := by omega
      go_enter Try.func59, Try.ntmps59
      go_wp2
      go_ret
      simp
  · have e1 : ¬ (16 : Int) ≤ (n : Int) := by omega
    go_enter Try.func59, Try.ntmps59
    go_wp2
    go_ret
    simp

/-- What the next block leaves of a reader. -/
def loadR (c : List Int) (st : Rst) : Rst × Int :=
  if (decB (c.drop st.at_)).2.2 ≠ 0 then (st, (decB (c.drop st.at_)).2.2)
  else if st.short = true ∨ rightB (decB (c.drop st.at_)).1 = false then (st, 2)
  else (⟨st.at_ + (decB (c.drop st.at_)).2.1, (decB (c.drop st.at_)).1, decide ((decB (c.drop st.at_)).1.length < 800), st.err⟩, 0)

/-- What an operation of a reader leaves. -/
def RkO (w w' : World) (fp : List Nat) (p q : Nat) (l : List Ab) (R U k m : Int) (nm : ByteArray) (c : List Int) (st : Rst) : Prop :=
  ∃ fd tv k', RkE w' fd tv p q l R U k' nm c st ∧ k ≤ k' ∧ k' ≤ k + m ∧ Kept fp w w' ∧ Newly w fp (rfp fd q tv st.text)

section
variable {w : World} {fd : List Nat} {tv : Value} {p q : Nat} {l : List Ab} {R U k : Int} {nm : ByteArray} {c : List Int} {st : Rst}

theorem rfp_nil {fd : List Nat} {q : Nat} {tv : Value} {x : Nat} (t : List Int) (h : x ∈ rfp fd q tv []) : x ∈ rfp fd q tv t := by
  rcases rfp_mem.1 h with h | h | ⟨h, _⟩
  · exact rfp_mem.2 (.inl h)
  · exact rfp_mem.2 (.inr (.inl h))
  · exact absurd rfl h

set_option maxRecDepth 100000 in
set_option maxHeartbeats 4000000 in
theorem load_any (h : RkE w fd tv p q l R U k nm c st) (h0 : st.text = []) (hk : k ≤ 999998) (hnm : nm.size ≤ maxLen) :
    Calls Try.prog 43 #[.pointer (some ⟨q, 0, none⟩)] w fun e w' => e = .returned (.int .i64 (loadR c st).2) ∧ RkO w w' (rfp fd q tv []) p q l R U k 2 nm c (loadR c st).1 := by
  have NX := rnext_any h hk hnm
  have hb : ∀ z ∈ c, True := fun _ _ => trivial
  obtain ⟨a, t0, s, er⟩ := st
  dsimp only at h0
  subst h0
  unfold loadR
  dsimp only at NX ⊢
  have hpos := decB_pos (c.drop a)
  have hal := h.at_le
  have hcl := h.len
  dsimp only at hal
  rw [List.length_drop] at hpos
  generalize decB (c.drop a) = D at NX hpos ⊢
  obtain ⟨t, m, e1⟩ := D
  dsimp only at NX hpos ⊢
  have HN := hide NX
  clear NX h hb
  by_cases he : e1 = 0
  · subst he
    obtain ⟨p1, p2, p3, p4⟩ := hpos rfl
    rw [if_neg (by simp)]
    by_cases hs : s = true
    · subst hs
      rw [if_pos (.inl rfl)]
      clear hpos
      go_enter Try.func43, Try.ntmps43
      go_wp2_with fail
      refine HN.out.mono ?_
      rintro e w1 ⟨u1, fd1, k1, rfl, i1, E1, hk1, hk2, K1, N1, O1⟩
      obtain ⟨_, _, _, _, _, f5, _⟩ := E1.cellAt
      have HE1 := hide (And.intro E1 (And.intro K1 N1))
      clear E1 K1 N1 O1 i1
      go_wp2
      go_ret
      exact ⟨rfl, fd1, tv, k1, HE1.out.1, hk1, hk2, HE1.out.2.1, HE1.out.2.2⟩
    · have hs2 : s = false := by simpa using hs
      subst hs2
      cases hr : rightB t with
      | false =>
        rw [if_pos (.inr rfl)]
        clear hpos
        go_enter Try.func43, Try.ntmps43
        go_wp2_with fail
        refine HN.out.mono ?_
        rintro e w1 ⟨u1, fd1, k1, rfl, i1, E1, hk1, hk2, K1, N1, O1⟩
        obtain ⟨_, _, _, _, _, f5, _⟩ := E1.cellAt
        have RT := right_any i1 p4
        rw [hr] at RT
        have HRT := hide RT
        have HE1 := hide (And.intro E1 (And.intro K1 N1))
        clear E1 K1 N1 O1 i1 RT
        go_wp2_with (go_at_call 59; refine HRT.out.mono ?_; rintro e w2 ⟨rfl, rfl⟩)
        go_ret
        exact ⟨rfl, fd1, tv, k1, HE1.out.1, hk1, hk2, HE1.out.2.1, HE1.out.2.2⟩
      | true =>
        rw [if_neg (by simp)]
        have hw1 : IntKind.i64.wrap ((a : Int) + (m : Int)) = (a : Int) + (m : Int) := i64_small _ (by omega) (by omega)
        have ham : a + m ≤ c.length := by omega
        have HAM := hide ham
        clear hpos
        go_enter Try.func43, Try.ntmps43
        go_wp2_with fail
        refine HN.out.mono ?_
        rintro e w1 ⟨u1, fd1, k1, rfl, i1, E1, hk1, hk2, K1, N1, O1⟩
        obtain ⟨_, _, _, f3, f4, f5, _, f7⟩ := E1.cellAt
        have RT := right_any i1 p4
        rw [hr] at RT
        have HRT := hide RT
        have HE1 := hide (And.intro E1 (And.intro K1 (And.intro N1 O1)))
        have HI1 := hide i1
        obtain ⟨ua, ucap, rfl, _⟩ := i1.form
        clear E1 K1 N1 O1 i1 RT ham
        go_wp2_with (go_at_call 59; refine HRT.out.mono ?_; rintro e w2 ⟨rfl, rfl⟩)
        go_ret
        refine ⟨rfl, ?_⟩
        obtain ⟨E, K, N, O⟩ := HE1.out
        have hd : decide ((t.length : Int) < 800) = decide (t.length < 800) := decide_eq_decide.2 (by omega)
        rw [hd]
        have ks : Kept [q] w2 (((w2.setCell ⟨q, 4, none⟩ (.slice ua t.length ucap)).setCell ⟨q, 3, none⟩ (.int .i64 ((a : Int) + (m : Int)))).setCell ⟨q, 5, none⟩ (.bool (decide (t.length < 800)))) :=
          (((Kept.refl _ w2).setCell (.inl (by simp)) _).setCell (.inl (by simp)) _).setCell (.inl (by simp)) _
        have hc := heap_setCell (heap_setCell (heap_setCell E.cells 4 (.slice ua t.length ucap)) 3 (.int .i64 ((a : Int) + (m : Int)))) 5 (.bool (decide (t.length < 800)))
        obtain ⟨T1, T2⟩ := E.turn (tv' := .slice ua t.length ucap) (st' := ⟨a + m, t, decide (t.length < 800), er⟩) ks (by simpa [rcells] using hc) HI1.out HAM.out (fun _ x hx => ⟨fun e => (O x hx).2 (rfp_mem.2 (.inl e)), fun e => (O x hx).2 (rfp_mem.2 (.inr (.inl e)))⟩)
        refine ⟨fd1, _, k1, T1, hk1, hk2, K.trans T2 N, fun x hx => ?_⟩
        rcases rfp_mem.1 hx with hx | hx | ⟨_, hx⟩
        · exact N x (rfp_mem.2 (.inl hx))
        · exact N x (rfp_mem.2 (.inr (.inl hx)))
        · exact .inr (O x hx).1
  · rw [if_pos he]
    clear hpos
    go_enter Try.func43, Try.ntmps43
    go_wp2_with fail
    refine HN.out.mono ?_
    rintro e w1 ⟨u1, fd1, k1, rfl, i1, E1, hk1, hk2, K1, N1, O1⟩
    have HE1 := hide (And.intro E1 (And.intro K1 N1))
    clear E1 K1 N1 O1 i1
    go_wp2
    go_ret
    exact ⟨rfl, fd1, tv, k1, HE1.out.1, hk1, hk2, HE1.out.2.1, HE1.out.2.2⟩
end

end Go.Proofs.Ytdhajmgpakconaa

namespace Go.Proofs.Ytdhajmgpakconaa
open Go.RowKit Go.Maps

/-- What a reader will read yet: these records, and then this error. -/
def Will (c : List Int) (st : Rst) (rs : List Rc) (e : Int) : Prop :=
  (st.err ≠ 0 ∧ st.text = [] ∧ rs = [] ∧ e = st.err) ∨
  (st.err = 0 ∧ st.text.length % 16 = 0 ∧ rs = recsT st.text ++ (readB st.short (c.drop st.at_)).1 ∧ e = (readB st.short (c.drop st.at_)).2)

/-- The reader behind load. -/
def loadS (c : List Int) (st : Rst) : Rst := { (loadR c st).1 with err := (loadR c st).2 }

theorem recsT_nil : recsT [] = [] := rfl

theorem will_load {c : List Int} {st : Rst} {rs : List Rc} {e : Int} (h : Will c st rs e) (h0 : st.err = 0) (ht : st.text = []) (ha : st.at_ < c.length) : Will c (loadS c st) rs e := by
  rcases h with ⟨h1, _⟩ | ⟨_, h2, h3, h4⟩
  · exact absurd h0 h1
  · have hne : c.drop st.at_ ≠ [] := by
      intro e
      have := congrArg List.length e
      rw [List.length_drop] at this
      simp at this
      omega
    rw [ht, recsT_nil, List.nil_append] at h3
    unfold loadS loadR
    by_cases hd : (decB (c.drop st.at_)).2.2 ≠ 0
    · rw [if_pos hd]
      rw [readB_bad hne hd] at h3 h4
      exact .inl ⟨hd, ht, h3, h4⟩
    · have hd0 : (decB (c.drop st.at_)).2.2 = 0 := by simpa using hd
      rw [if_neg hd]
      by_cases hf : st.short = true ∨ rightB (decB (c.drop st.at_)).1 = false
      · rw [if_pos hf]
        rw [readB_form hne hd0 hf] at h3 h4
        exact .inl ⟨by simp, ht, h3, h4⟩
      · rw [if_neg hf]
        have hs : st.short = false := by
          cases hs : st.short with
          | false => rfl
          | true => exact absurd (.inl hs) hf
        have hr : rightB (decB (c.drop st.at_)).1 = true := by
          cases hr : rightB (decB (c.drop st.at_)).1 with
          | true => rfl
          | false => exact absurd (.inr hr) hf
        rw [hs, readB_more hne hd0 hr, List.drop_drop] at h3 h4
        exact .inr ⟨rfl, (rightB_iff.1 hr).2.2, h3, h4⟩

theorem will_empty {c : List Int} {st : Rst} {rs : List Rc} {e : Int} (h : Will c st rs e) (ht : st.text = []) (ha : st.err ≠ 0 ∨ c.length ≤ st.at_) : rs = [] ∧ e = st.err := by
  rcases h with ⟨_, _, h3, h4⟩ | ⟨h1, _, h3, h4⟩
  · exact ⟨h3, h4⟩
  · have hd : c.drop st.at_ = [] := List.drop_of_length_le (by rcases ha with ha | ha; exact absurd h1 ha; exact ha)
    rw [hd, readB_nil] at h3 h4
    rw [ht, recsT_nil] at h3
    exact ⟨h3, by rw [h4, h1]⟩

theorem will_next {c : List Int} {st : Rst} {rs : List Rc} {e : Int} (h : Will c st rs e) (ht : st.text ≠ []) : ∃ rs', rs = recAt st.text :: rs' ∧ Will c { st with text := st.text.drop 16 } rs' e ∧ 16 ≤ st.text.length ∧ st.err = 0 := by
  rcases h with ⟨_, h2, _⟩ | ⟨h1, h2, h3, h4⟩
  · exact absurd h2 ht
  · obtain ⟨r1, r2, r3⟩ := recsT_step st.text ht h2
    refine ⟨recsT (st.text.drop 16) ++ (readB st.short (c.drop st.at_)).1, by rw [h3, r1]; rfl, .inr ⟨h1, r3, rfl, h4⟩, r2, h1⟩

theorem nextRes (tmps : Array Value) (w : World) (b : Nat) (x1 x2 : Int) (h2 : tmps.getD 2 undef = .pointer (some ⟨b, 0, none⟩)) (c1 : w.cell? ⟨b, 0, none⟩ = some (.int .u64 x1)) (c2 : w.cell? ⟨b, 1, none⟩ = some (.int .u64 x2)) :
    (results Try.f24 tmps).run Try.prog w = .ok (.tuple #[.agg #[.int .u64 x1, .int .u64 x2], tmps.getD 3 undef, tmps.getD 4 undef]) w := by
  have h2' : tmps[2]?.getD undef = .pointer (some ⟨b, 0, none⟩) := by simpa using h2
  simp [results, Try.results24, go_sem, h2', c1, c2]

/-- A reader beside the box of what is told. -/
structure NxM (w W : World) (fd : List Nat) (tv : Value) (p q : Nat) (l : List Ab) (R U k : Int) (nm : ByteArray) (c : List Int) (st : Rst) : Prop where
  rk : RkE W fd tv p q l R U k nm c st
  box : W.heap[w.heap.size]? = some (.cells #[.int .u64 0, .int .u64 0] 48 (0, 0))

section
variable {w : World} {fd : List Nat} {tv : Value} {p q : Nat} {l : List Ab} {R U k : Int} {nm : ByteArray} {c : List Int} {st : Rst}

theorem NxM.start (h : RkE w fd tv p q l R U k nm c st) : NxM w (w.alloc (.cells #[.int .u64 0, .int .u64 0] 48)) fd tv p q l R U k nm c st :=
  ⟨h.below ((Below.refl _ w).alloc (Nat.le_refl _) _), heap_alloc_new w _⟩

theorem NxM.next {W W' : World} (h : NxM w W fd tv p q l R U k nm c st) (hb : Below W.heap.size W W') : NxM w W' fd tv p q l R U k nm c st :=
  ⟨h.rk.below hb, (Kept.of_below (fp := []) hb).heap9 h.box (by simp)⟩

theorem NxM.facts {W : World} (h : NxM w W fd tv p q l R U k nm c st) : (W.cell? ⟨q, 2, none⟩ = some (.int .i64 (c.length : Int)) ∧ W.cell? ⟨q, 3, none⟩ = some (.int .i64 (st.at_ : Int)) ∧ W.cell? ⟨q, 4, none⟩ = some tv ∧ W.cell? ⟨q, 6, none⟩ = some (.int .i64 st.err) ∧ ∀ o, W.frozen? ⟨q, o, none⟩ = false) ∧
    W.cell? ⟨w.heap.size, 0, none⟩ = some (.int .u64 0) ∧ W.cell? ⟨w.heap.size, 1, none⟩ = some (.int .u64 0) ∧ ∀ o, W.frozen? ⟨w.heap.size, o, none⟩ = false := by
  obtain ⟨_, _, f2, f3, f4, _, f6, f7⟩ := h.rk.cellAt
  exact ⟨⟨f2, f3, f4, f6, f7⟩, (cell_of_heap h.box 0).trans rfl, (cell_of_heap h.box 1).trans rfl, fun o => frozen_of_heap h.box o⟩

theorem cell_set9 {W : World} {b : Nat} {x y v : Value} {a : Addr} (h : W.cell? a = some v) (hn : a.block ≠ b) : ((W.setCell ⟨b, 0, none⟩ x).setCell ⟨b, 1, none⟩ y).cell? a = some v :=
  (((Kept.refl [b] W).setCell (p := ⟨b, 0, none⟩) (.inl (by simp)) x).setCell (p := ⟨b, 1, none⟩) (.inl (by simp)) y).cell h (by simpa using hn)

theorem below_drewN (W : World) (n : Nat) : Below W.heap.size W (W.drewN n) := ⟨rfl, rfl, rfl, Nat.le_refl _, fun _ _ => rfl⟩

/-- What is told lies in the box: the reader stays. -/
theorem NxM.told {W : World} {fp0 : List Nat} (h : NxM w W fd tv p q l R U k nm c st) (hk : Kept fp0 w W) (x y : Value) (hq : w.heap.size ∉ rfp fd q tv st.text) :
    RkE ((W.setCell ⟨w.heap.size, 0, none⟩ x).setCell ⟨w.heap.size, 1, none⟩ y) fd tv p q l R U k nm c st ∧ Kept fp0 w ((W.setCell ⟨w.heap.size, 0, none⟩ x).setCell ⟨w.heap.size, 1, none⟩ y) := by
  refine ⟨h.rk.kept (fp := [w.heap.size]) (((Kept.refl _ W).setCell (.inl (by simp)) _).setCell (.inl (by simp)) _) (fun z hz e => ?_), (hk.setCell (p := ⟨w.heap.size, 0, none⟩) (.inr (Nat.le_refl _)) _).setCell (p := ⟨w.heap.size, 1, none⟩) (.inr (Nat.le_refl _)) _⟩
  simp only [List.mem_singleton] at e
  subst e
  exact hq hz

/-- The box is as it was told. -/
theorem NxM.boxed {W : World} (h : NxM w W fd tv p q l R U k nm c st) (x y : Value) : ((W.setCell ⟨w.heap.size, 0, none⟩ x).setCell ⟨w.heap.size, 1, none⟩ y).cell? ⟨w.heap.size, 0, none⟩ = some x ∧ ((W.setCell ⟨w.heap.size, 0, none⟩ x).setCell ⟨w.heap.size, 1, none⟩ y).cell? ⟨w.heap.size, 1, none⟩ = some y := by
  have e := heap_setCell (heap_setCell h.box 0 x) 1 y
  exact ⟨(cell_of_heap e 0).trans rfl, (cell_of_heap e 1).trans rfl⟩

/-- The text goes on. -/
theorem NxM.cut {W : World} (h : NxM w W fd tv p q l R U k nm c st) (hb : w.heap.size ≠ q) {tv' : Value} {t' : List Int} (ht : IsB W tv' t') (hn : t' ≠ [] → ∀ x ∈ own tv', x ∉ fd ∧ x ≠ q) :
    NxM w (W.setCell ⟨q, 4, none⟩ tv') fd tv' p q l R U k nm c { st with text := t' } ∧ Kept (rfp fd q tv st.text) W (W.setCell ⟨q, 4, none⟩ tv') := by
  have ks : Kept [q] W (W.setCell ⟨q, 4, none⟩ tv') := (Kept.refl _ W).setCell (.inl (by simp)) _
  have e := heap_setCell h.rk.cells 4 tv'
  obtain ⟨a, b⟩ := h.rk.turn (tv' := tv') (st' := { st with text := t' }) ks (by simpa [rcells] using e) ht h.rk.at_le hn
  exact ⟨⟨a, ks.heap9 h.box (by simpa using hb)⟩, b⟩

end

end Go.Proofs.Ytdhajmgpakconaa

namespace Go.Proofs.Ytdhajmgpakconaa
open Go.RowKit Go.Maps

section
variable {w : World} {fd : List Nat} {tv : Value} {p q : Nat} {l : List Ab} {R U k : Int} {nm : ByteArray} {c : List Int} {st : Rst}

set_option maxRecDepth 100000 in
set_option maxHeartbeats 4000000 in
/-- An error stays. -/
theorem next_err (h : RkE w fd tv p q l R U k nm c st) (he : st.err ≠ 0) (ht : st.text = []) : Calls Try.prog 24 #[.pointer (some ⟨q, 0, none⟩)] w fun e w' => e = .returned (.tuple #[.agg #[.int .u64 0, .int .u64 0], .bool false, .int .i64 st.err]) ∧ RkO w w' (rfp fd q tv st.text) p q l R U k 2 nm c st := by
  obtain ⟨ta, tc, rfl, _⟩ := h.text.form
  have M := NxM.start h
  have HLT := hide h.lt
  obtain ⟨⟨f2, f3, f4, f6, f7⟩, b0, b1, z0⟩ := M.facts
  have HM := hide M
  rw [ht] at f4
  simp only [List.length_nil] at f4
  obtain ⟨er, her⟩ : ∃ er, er = st.err := ⟨_, rfl⟩
  rw [← her] at f6 he ⊢
  have he' : (er == 0) = false := by simpa using he
  have HER := hide her
  have HT := hide ht
  clear her ht
  clear M h
  go_enter Try.func24, Try.ntmps24
  go_wp2
  go_quiet (fail)
  obtain ⟨W1, hW1⟩ : ∃ W1, W1 = (w.alloc (.cells #[.int .u64 0, .int .u64 0] 48)).drewN nq := ⟨_, rfl⟩
  have M1 : NxM w W1 fd (.slice ta st.text.length tc) p q l R U k nm c st := by rw [hW1]; exact HM.out.next (below_drewN _ _)
  have K1 : Kept (rfp fd q (.slice ta st.text.length tc) st.text) w W1 := by rw [hW1]; exact ((Kept.refl _ w).alloc _).drewN _
  have N1 : Newly w (rfp fd q (.slice ta st.text.length tc) st.text) (rfp fd q (.slice ta st.text.length tc) st.text) := Newly.refl _ _
  have hkk : k ≤ k ∧ k ≤ k + 2 := by omega
  have HQL : Hid (w.heap.size ∉ rfp fd q (.slice ta st.text.length tc) st.text ∧ q < w.heap.size) := ⟨fun e => by have := HLT.out _ e; omega, HLT.out q (rfp_mem.2 (.inr (.inl rfl)))⟩
  rw [← hW1]
  clear f2 f3 f4 f6 f7 b0 b1 z0 hW1 HM HLT
  obtain ⟨⟨f2, f3, f4, f6, f7⟩, b0, b1, z0⟩ := M1.facts
  rw [HT.out] at f4
  simp only [List.length_nil] at f4
  rw [← HER.out] at f6
  have hqn : q ≠ w.heap.size := by have := HQL.out.2; omega
  have HM1 := hide (And.intro M1 (And.intro K1 (And.intro N1 hkk)))
  have g6 : W1.drew.cell? ⟨q, 6, none⟩ = some (.int .i64 er) := f6
  have g0 : W1.drew.cell? ⟨w.heap.size, 0, none⟩ = some (.int .u64 0) := b0
  have g1 : W1.drew.cell? ⟨w.heap.size, 1, none⟩ = some (.int .u64 0) := b1
  have z1 : ∀ o, W1.drew.frozen? ⟨w.heap.size, o, none⟩ = false := z0
  clear M1 K1 N1 hkk
  go_wp2
  go_region_held (fun W => W.cell? ⟨q, 6, none⟩ = some (.int .i64 er)) (first | assumption | exact cell_set9 (by assumption) hqn) (fail)
  all_goals
    go_wp2
    obtain ⟨m1, k1, n1, kk1, kk2⟩ := HM1.out
    obtain ⟨r1, r2⟩ := (m1.next (Below.refl _ W1).drew).boxed (.int .u64 0) (.int .u64 0)
    refine bodyPost_ret (nextRes _ _ w.heap.size 0 0 rfl r1 r2) rfl ?_
    obtain ⟨t1, t2⟩ := (m1.next (Below.refl _ W1).drew).told k1.drew (.int .u64 0) (.int .u64 0) HQL.out.1
    exact ⟨rfl, fd, _, k, t1, kk1, kk2, t2, n1⟩

set_option maxRecDepth 100000 in
set_option maxHeartbeats 4000000 in
/-- No more. -/
theorem next_end (h : RkE w fd tv p q l R U k nm c st) (he : st.err = 0) (ht : st.text = []) (ha : c.length ≤ st.at_) : Calls Try.prog 24 #[.pointer (some ⟨q, 0, none⟩)] w fun e w' => e = .returned (.tuple #[.agg #[.int .u64 0, .int .u64 0], .bool false, .int .i64 st.err]) ∧ RkO w w' (rfp fd q tv st.text) p q l R U k 2 nm c st := by
  obtain ⟨ta, tc, rfl, _⟩ := h.text.form
  have M := NxM.start h
  have HLT := hide h.lt
  obtain ⟨⟨f2, f3, f4, f6, f7⟩, b0, b1, z0⟩ := M.facts
  have HM := hide M
  rw [ht] at f4
  simp only [List.length_nil] at f4
  obtain ⟨er, her⟩ : ∃ er, er = st.err := ⟨_, rfl⟩
  have her0 : er = 0 := her.trans he
  rw [he] at f6
  rw [← her, her0]
  have HER : Hid (0 = st.err) := he.symm
  have HT := hide ht
  obtain ⟨N9, hN⟩ : ∃ N, N = c.length := ⟨_, rfl⟩
  obtain ⟨a9, ha9⟩ : ∃ a, a = st.at_ := ⟨_, rfl⟩
  rw [← hN] at f2
  rw [← ha9] at f3
  have haN : ¬ (a9 : Int) < (N9 : Int) := by omega
  clear ht hN ha9 ha her her0 he
  clear M h
  go_enter Try.func24, Try.ntmps24
  go_wp2
  go_quiet (fail)
  obtain ⟨W1, hW1⟩ : ∃ W1, W1 = (w.alloc (.cells #[.int .u64 0, .int .u64 0] 48)).drewN nq := ⟨_, rfl⟩
  have M1 : NxM w W1 fd (.slice ta st.text.length tc) p q l R U k nm c st := by rw [hW1]; exact HM.out.next (below_drewN _ _)
  have K1 : Kept (rfp fd q (.slice ta st.text.length tc) st.text) w W1 := by rw [hW1]; exact ((Kept.refl _ w).alloc _).drewN _
  have N1 : Newly w (rfp fd q (.slice ta st.text.length tc) st.text) (rfp fd q (.slice ta st.text.length tc) st.text) := Newly.refl _ _
  have hkk : k ≤ k ∧ k ≤ k + 2 := by omega
  have HQL : Hid (w.heap.size ∉ rfp fd q (.slice ta st.text.length tc) st.text ∧ q < w.heap.size) := ⟨fun e => by have := HLT.out _ e; omega, HLT.out q (rfp_mem.2 (.inr (.inl rfl)))⟩
  rw [← hW1]
  clear f2 f3 f4 f6 f7 b0 b1 z0 hW1 HM HLT
  obtain ⟨⟨f2, f3, f4, f6, f7⟩, b0, b1, z0⟩ := M1.facts
  rw [HT.out] at f4
  simp only [List.length_nil] at f4
  rw [← HER.out] at f6
  have hqn : q ≠ w.heap.size := by have := HQL.out.2; omega
  have HM1 := hide (And.intro M1 (And.intro K1 (And.intro N1 hkk)))
  have g6 : W1.drew.cell? ⟨q, 6, none⟩ = some (.int .i64 0) := f6
  have g0 : W1.drew.cell? ⟨w.heap.size, 0, none⟩ = some (.int .u64 0) := b0
  have g1 : W1.drew.cell? ⟨w.heap.size, 1, none⟩ = some (.int .u64 0) := b1
  have z1 : ∀ o, W1.drew.frozen? ⟨w.heap.size, o, none⟩ = false := z0
  clear M1 K1 N1 hkk
  go_wp2
  go_region_held (fun W => W.cell? ⟨q, 6, none⟩ = some (.int .i64 0)) (first | assumption | exact cell_set9 (by assumption) hqn) (fail)
  all_goals
    go_wp2
    obtain ⟨m1, k1, n1, kk1, kk2⟩ := HM1.out
    obtain ⟨r1, r2⟩ := (m1.next (Below.refl _ W1).drew).boxed (.int .u64 0) (.int .u64 0)
    refine bodyPost_ret (nextRes _ _ w.heap.size 0 0 rfl r1 r2) rfl ?_
    obtain ⟨t1, t2⟩ := (m1.next (Below.refl _ W1).drew).told k1.drew (.int .u64 0) (.int .u64 0) HQL.out.1
    exact ⟨rfl, fd, _, k, t1, kk1, kk2, t2, n1⟩

set_option maxRecDepth 100000 in
set_option maxHeartbeats 4000000 in
/-- What is left of the text. -/
theorem next_text (h : RkE w fd tv p q l R U k nm c st) (he : st.err = 0) (ht : 16 ≤ st.text.length) (htl : st.text.length ≤ 1000000) : Calls Try.prog 24 #[.pointer (some ⟨q, 0, none⟩)] w fun e w' => e = .returned (.tuple #[valR (recAt st.text), .bool true, .int .i64 0]) ∧ RkO w w' (rfp fd q tv st.text) p q l R U k 2 nm c { st with text := st.text.drop 16 } := by
  obtain ⟨ta, tc, rfl, _⟩ := h.text.form
  have M := NxM.start h
  have HLT := hide h.lt
  obtain ⟨⟨f2, f3, f4, f6, f7⟩, b0, b1, z0⟩ := M.facts
  have HM := hide M
  obtain ⟨n9, hn9⟩ : ∃ n, n = st.text.length := ⟨_, rfl⟩
  have hp9 : ¬ (n9 : Int) = 0 := by omega
  have hp8 : ¬ n9 = 0 := by omega
  have HTL : Hid (16 ≤ st.text.length ∧ st.text.length ≤ 1000000) := ⟨ht, htl⟩
  rw [← hn9] at f4
  rw [he] at f6
  clear ht htl hn9 he
  clear M h
  go_enter Try.func24, Try.ntmps24
  go_wp2
  go_quiet (fail)
  obtain ⟨W1, hW1⟩ : ∃ W1, W1 = (w.alloc (.cells #[.int .u64 0, .int .u64 0] 48)).drewN nq := ⟨_, rfl⟩
  have M1 : NxM w W1 fd (.slice ta st.text.length tc) p q l R U k nm c st := by rw [hW1]; exact HM.out.next (below_drewN _ _)
  have K1 : Kept (rfp fd q (.slice ta st.text.length tc) st.text) w W1 := by rw [hW1]; exact ((Kept.refl _ w).alloc _).drewN _
  have N1 : Newly w (rfp fd q (.slice ta st.text.length tc) st.text) (rfp fd q (.slice ta st.text.length tc) st.text) := Newly.refl _ _
  have hkk : k ≤ k ∧ k ≤ k + 2 := by omega
  have HQL : Hid (w.heap.size ∉ rfp fd q (.slice ta st.text.length tc) st.text ∧ q < w.heap.size) := ⟨fun e => by have := HLT.out _ e; omega, HLT.out q (rfp_mem.2 (.inr (.inl rfl)))⟩
  rw [← hW1]
  clear f2 f3 f4 f6 f7 b0 b1 z0 hW1 HM HLT
  obtain ⟨⟨f2, f3, f4, f6, f7⟩, b0, b1, z0⟩ := M1.facts
  have hqn : q ≠ w.heap.size := by have := HQL.out.2; omega
  have G1 := hide (get_yes _ _ 0 8 W1 M1.rk.text (by have := HTL.out; omega) (by omega) (by omega) (by have := HTL.out; omega))
  have G2 := hide (fun (W : World) (b : Below W1.heap.size W1 W) => get_yes _ _ 8 8 W (M1.rk.text.below b) (by have := HTL.out; omega) (by omega) (by omega) (by have := HTL.out; omega))
  rw [List.drop_zero] at G1
  obtain ⟨x1, hx1⟩ : ∃ x, x = valB 256 ((st).text.take 8) := ⟨_, rfl⟩
  obtain ⟨x2, hx2⟩ : ∃ x, x = valB 256 (((st).text.drop 8).take 8) := ⟨_, rfl⟩
  rw [← hx1] at G1
  rw [← hx2] at G2
  have HX : Hid (recAt (st).text = (x1, x2)) := by show _ = _; rw [recAt, hx1, hx2]
  have HM1 := hide (And.intro M1 (And.intro K1 (And.intro N1 hkk)))
  obtain ⟨n, hn⟩ : ∃ n, n = (st).text.length := ⟨_, rfl⟩
  have hn16 : 16 ≤ n := by rw [hn]; exact HTL.out.1
  have hnc : n ≤ 1000000 := by rw [hn]; exact HTL.out.2
  rw [← hn] at f4 G1 G2
  have sl1 : ∀ W, (Instr.slice 30 (.slice ta n tc) (some (.int .i64 16)) none none).run Try.prog W = .ok (.slice (if tc = 16 then ta else ta.map (·.add 16)) (n - 16) (tc - 16)) W := slice_from ta n tc 16 hn16
  obtain ⟨dp, hdp⟩ : ∃ dp, dp = (if tc = 16 then ta else ta.map (·.add 16)) := ⟨_, rfl⟩
  rw [← hdp] at sl1
  have HDP := hide hdp
  have HN9 := hide hn
  clear M1 K1 N1 hkk hdp hx1 hx2 hn
  go_wp2_with fail
  refine G1.out.mono ?_
  rintro e W2 ⟨rfl, bel2⟩
  have M2 := HM1.out.1.next bel2
  obtain ⟨⟨_, _, f4', _, f7'⟩, _, _, _⟩ := M2.facts
  rw [← HN9.out] at f4'
  have G3 := hide (G2.out W2 bel2)
  have HB2 := hide bel2
  clear M2 G2 bel2
  go_wp2_with fail
  refine G3.out.mono ?_
  rintro e W3 ⟨rfl, bel3⟩
  have B3 := below_then HB2.out bel3
  have M3 := HM1.out.1.next B3
  have I3 := M3.rk.text.from 16 HTL.out.1
  rw [← HDP.out, ← HN9.out] at I3
  have hsub : ∀ x ∈ own (.slice dp (n - 16) (tc - 16)), x ∈ own (.slice ta (st).text.length tc) := fun x hx => by
    rw [HDP.out] at hx
    cases ta with
    | none => split at hx <;> simp [own, Value.ownBlock] at hx
    | some ta => split at hx <;> simpa [own, Value.ownBlock, Addr.add] using hx
  have hne : (st).text ≠ [] := fun e => by have := HTL.out.1; rw [e] at this; simp at this
  obtain ⟨M4, K4⟩ := M3.cut (by omega) I3 (fun _ x hx => ⟨M3.rk.tfd hne x (hsub x hx), fun e => M3.rk.qt hne (e ▸ hsub x hx)⟩)
  obtain ⟨⟨_, _, f4'', _, f7''⟩, _, _, _⟩ := M3.facts
  rw [← HN9.out] at f4''
  obtain ⟨_, g0, g1, g2⟩ := M4.facts
  have HM4 := hide (And.intro M4 (And.intro K4 (And.intro hsub (And.intro hne B3))))
  clear M3 M4 K4 hsub hne I3 B3 bel3
  go_wp2
  obtain ⟨m1, k1, n1, kk1, kk2⟩ := HM1.out
  obtain ⟨m4, k4, hsub, hne, bel3⟩ := HM4.out
  obtain ⟨r1, r2⟩ := m4.boxed (.int .u64 x1) (.int .u64 x2)
  refine bodyPost_ret (nextRes _ _ w.heap.size x1 x2 rfl r1 r2) rfl ?_
  have hin : ∀ x ∈ rfp fd q (.slice dp (n - 16) (tc - 16)) ((st).text.drop 16), x ∈ rfp fd q (.slice ta (st).text.length tc) (st).text := fun x hx => by
    rcases rfp_mem.1 hx with hx | hx | ⟨_, hx⟩
    · exact rfp_mem.2 (.inl hx)
    · exact rfp_mem.2 (.inr (.inl hx))
    · exact rfp_mem.2 (.inr (.inr ⟨hne, hsub x hx⟩))
  have k3 := (k1.trans (Kept.of_below (fp := []) bel3) (fun _ hx => by simp at hx)).trans k4 n1
  obtain ⟨t1, t2⟩ := m4.told k3 (.int .u64 x1) (.int .u64 x2) (fun e => HQL.out.1 (hin _ e))
  exact ⟨by rw [HX.out]; rfl, fd, _, k, t1, kk1, kk2, t2, fun x hx => n1 x (hin x hx)⟩

set_option maxRecDepth 100000 in
set_option maxHeartbeats 4000000 in
/-- The next block is wrong. -/
theorem next_bad (h : RkE w fd tv p q l R U k nm c st) (he : st.err = 0) (ht : st.text = []) (ha : st.at_ < c.length) (hk : k ≤ 999998) (hnm : nm.size ≤ maxLen) (hz : (loadS c st).text = []) : Calls Try.prog 24 #[.pointer (some ⟨q, 0, none⟩)] w fun e w' => e = .returned (.tuple #[.agg #[.int .u64 0, .int .u64 0], .bool false, .int .i64 (loadS c st).err]) ∧ RkO w w' (rfp fd q tv st.text) p q l R U k 2 nm c (loadS c st) := by
  have HT := hide hz
  clear hz
  obtain ⟨er, her⟩ : ∃ er, er = (loadS c st).err := ⟨_, rfl⟩
  rw [← her]
  have HL := hide (fun (W : World) (hb : Below w.heap.size w W) => load_any (h.below hb) ht hk hnm)
  obtain ⟨ta, tc, rfl, _⟩ := h.text.form
  have M := NxM.start h
  have HLT := hide h.lt
  obtain ⟨⟨f2, f3, f4, f6, f7⟩, b0, b1, z0⟩ := M.facts
  have hB := hide ((Below.refl w.heap.size w).alloc (Nat.le_refl _) (.cells #[.int .u64 0, .int .u64 0] 48))
  have HM := hide M
  have HT0 := hide ht
  rw [ht] at f4
  simp only [List.length_nil] at f4
  rw [he] at f6
  obtain ⟨N9, hN⟩ : ∃ N, N = c.length := ⟨_, rfl⟩
  obtain ⟨a9, ha9⟩ : ∃ a, a = st.at_ := ⟨_, rfl⟩
  rw [← hN] at f2
  rw [← ha9] at f3
  have haN : (a9 : Int) < (N9 : Int) := by omega
  clear M h ht he hN ha9 ha
  go_enter Try.func24, Try.ntmps24
  go_wp2
  go_quiet (fail)
  go_wp2_with fail
  refine (HL.out _ (hB.out.trans (below_drewN _ _ |>.mono (by simp)))).mono ?_
  rintro e w2 ⟨rfl, fd2, tv2, k2, E2, hk1, hk2, K2, N2⟩
  obtain ⟨ta2, tc2, rfl, _⟩ := E2.text.form
  have hbx : w2.heap[w.heap.size]? = some (.cells #[.int .u64 0, .int .u64 0] 48 (0, 0)) := K2.heap9 (by simpa using HM.out.box) (fun e => by have := HLT.out _ (rfp_nil st.text e); omega)
  have e6 := E2.cellAt.2.2.2.2.2.2.1
  have e7 := E2.cellAt.2.2.2.2.2.2.2
  have HQL : Hid (w.heap.size ∉ rfp fd2 q (.slice ta2 (loadR c st).1.text.length tc2) (loadR c st).1.text ∧ q < w.heap.size) := ⟨fun e => by
    rcases N2 _ e with e | e
    · have := HLT.out _ (rfp_nil st.text e); omega
    · have e2 : (w.alloc (.cells #[.int .u64 0, .int .u64 0] 48)).heap.size ≤ w.heap.size := e
      rw [World.size_alloc] at e2
      omega, HLT.out q (rfp_mem.2 (.inr (.inl rfl)))⟩
  have e4 : w2.cell? ⟨q, 4, none⟩ = some (.slice ta2 0 tc2) := by
    have h4 := E2.cellAt.2.2.2.2.1
    rw [show (loadR c st).1.text = [] from HT.out] at h4
    exact h4
  rw [show (loadR c st).2 = er from her.symm]
  have HER := hide her
  have HE2 := hide (And.intro E2 (And.intro K2 (And.intro N2 hbx)))
  clear E2 K2 N2 hbx HL her f2 f3 f4 f6 f7 b0 b1 z0
  go_wp2_with fail
  have W1s : True := trivial
  obtain ⟨E2, K2, N2, hbx⟩ := HE2.out
  obtain ⟨W1, hW1⟩ : ∃ W1, W1 = w2.setCell ⟨q, 6, none⟩ (.int .i64 er) := ⟨_, rfl⟩
  have ks : Kept [q] w2 W1 := by rw [hW1]; exact (Kept.refl _ w2).setCell (.inl (by simp)) _
  have hcs := heap_setCell E2.cells 6 (.int .i64 er)
  rw [← hW1] at hcs ⊢
  have hne9 : (loadR c st).1.text ≠ [] → ∀ x ∈ own (.slice ta2 (loadR c st).1.text.length tc2), x ∉ fd2 ∧ x ≠ q := fun h0 x hx => ⟨E2.tfd h0 x hx, fun e => E2.qt h0 (e ▸ hx)⟩
  obtain ⟨E3, K3⟩ := E2.turn (tv' := .slice ta2 (loadR c st).1.text.length tc2) (st' := loadS c st) ks (by have h9 := HER.out; simp only [loadS] at h9 ⊢; rw [← h9]; simpa [rcells] using hcs) E2.text E2.at_le hne9
  have M1 : NxM w W1 fd2 (.slice ta2 (loadS c st).text.length tc2) p q l R U k2 nm c (loadS c st) := ⟨E3, ks.heap9 hbx (by have := HQL.out.2; simp; omega)⟩
  have hsu : ∀ x ∈ rfp fd q (.slice ta st.text.length tc) [], x ∈ rfp fd q (.slice ta st.text.length tc) st.text := fun x hx => rfp_nil st.text hx
  have K0 : Kept (rfp fd q (.slice ta st.text.length tc) st.text) w w2 := (((Kept.refl _ w).alloc _).drewN _).trans (K2.mono hsu) (Newly.refl _ _)
  have N1 : Newly w (rfp fd q (.slice ta st.text.length tc) st.text) (rfp fd2 q (.slice ta2 (loadS c st).text.length tc2) (loadS c st).text) := fun x hx => by
    rcases N2 x hx with e | e
    · exact .inl (hsu x e)
    · have e2 : (w.alloc (.cells #[.int .u64 0, .int .u64 0] 48)).heap.size ≤ x := e
      rw [World.size_alloc] at e2
      exact .inr (by omega)
  have K1 : Kept (rfp fd q (.slice ta st.text.length tc) st.text) w W1 := K0.trans K3 N1
  have hkk : k ≤ k2 ∧ k2 ≤ k + 2 := ⟨hk1, hk2⟩
  clear E2 K2 N2 hbx ks hcs hne9 E3 K3 hsu K0 hW1 HE2 hk1 hk2 e4 e6 e7 W1s
  obtain ⟨ta, tc, hta, htc⟩ : ∃ a b, a = ta2 ∧ b = tc2 := ⟨_, _, rfl, rfl⟩
  subst hta
  subst htc
  obtain ⟨⟨f2, f3, f4, f6, f7⟩, b0, b1, z0⟩ := M1.facts
  rw [HT.out] at f4
  simp only [List.length_nil] at f4
  rw [← HER.out] at f6
  have hqn : q ≠ w.heap.size := by have := HQL.out.2; omega
  have HM1 := hide (And.intro M1 (And.intro K1 (And.intro N1 hkk)))
  have g6 : W1.drew.cell? ⟨q, 6, none⟩ = some (.int .i64 er) := f6
  have g0 : W1.drew.cell? ⟨w.heap.size, 0, none⟩ = some (.int .u64 0) := b0
  have g1 : W1.drew.cell? ⟨w.heap.size, 1, none⟩ = some (.int .u64 0) := b1
  have z1 : ∀ o, W1.drew.frozen? ⟨w.heap.size, o, none⟩ = false := z0
  clear M1 K1 N1 hkk
  go_wp2
  go_region_held (fun W => W.cell? ⟨q, 6, none⟩ = some (.int .i64 er)) (first | assumption | exact cell_set9 (by assumption) hqn) (fail)
  all_goals
    go_wp2
    obtain ⟨m1, k1, n1, kk1, kk2⟩ := HM1.out
    obtain ⟨r1, r2⟩ := (m1.next (Below.refl _ W1).drew).boxed (.int .u64 0) (.int .u64 0)
    refine bodyPost_ret (nextRes _ _ w.heap.size 0 0 rfl r1 r2) rfl ?_
    obtain ⟨t1, t2⟩ := (m1.next (Below.refl _ W1).drew).told k1.drew (.int .u64 0) (.int .u64 0) HQL.out.1
    exact ⟨rfl, fd2, _, k2, t1, kk1, kk2, t2, n1⟩

set_option maxRecDepth 100000 in
set_option maxHeartbeats 4000000 in
/-- The next block. -/
theorem next_block (h : RkE w fd tv p q l R U k nm c st) (he : st.err = 0) (ht : st.text = []) (ha : st.at_ < c.length) (hk : k ≤ 999998) (hnm : nm.size ≤ maxLen) (hz : 16 ≤ (loadS c st).text.length) (hzl : (loadS c st).text.length ≤ 1000000) : Calls Try.prog 24 #[.pointer (some ⟨q, 0, none⟩)] w fun e w' => e = .returned (.tuple #[valR (recAt (loadS c st).text), .bool true, .int .i64 0]) ∧ RkO w w' (rfp fd q tv st.text) p q l R U k 2 nm c { (loadS c st) with text := (loadS c st).text.drop 16 } := by
  have HTL : Hid (16 ≤ (loadS c st).text.length ∧ (loadS c st).text.length ≤ 1000000) := ⟨hz, hzl⟩
  clear hz hzl
  obtain ⟨er, her⟩ : ∃ er, er = (loadS c st).err := ⟨_, rfl⟩
  have HL := hide (fun (W : World) (hb : Below w.heap.size w W) => load_any (h.below hb) ht hk hnm)
  obtain ⟨ta, tc, rfl, _⟩ := h.text.form
  have M := NxM.start h
  have HLT := hide h.lt
  obtain ⟨⟨f2, f3, f4, f6, f7⟩, b0, b1, z0⟩ := M.facts
  have hB := hide ((Below.refl w.heap.size w).alloc (Nat.le_refl _) (.cells #[.int .u64 0, .int .u64 0] 48))
  have HM := hide M
  have HT0 := hide ht
  rw [ht] at f4
  simp only [List.length_nil] at f4
  rw [he] at f6
  obtain ⟨N9, hN⟩ : ∃ N, N = c.length := ⟨_, rfl⟩
  obtain ⟨a9, ha9⟩ : ∃ a, a = st.at_ := ⟨_, rfl⟩
  rw [← hN] at f2
  rw [← ha9] at f3
  have haN : (a9 : Int) < (N9 : Int) := by omega
  clear M h ht he hN ha9 ha
  go_enter Try.func24, Try.ntmps24
  go_wp2
  go_quiet (fail)
  go_wp2_with fail
  refine (HL.out _ (hB.out.trans (below_drewN _ _ |>.mono (by simp)))).mono ?_
  rintro e w2 ⟨rfl, fd2, tv2, k2, E2, hk1, hk2, K2, N2⟩
  obtain ⟨ta2, tc2, rfl, _⟩ := E2.text.form
  have hbx : w2.heap[w.heap.size]? = some (.cells #[.int .u64 0, .int .u64 0] 48 (0, 0)) := K2.heap9 (by simpa using HM.out.box) (fun e => by have := HLT.out _ (rfp_nil st.text e); omega)
  have e6 := E2.cellAt.2.2.2.2.2.2.1
  have e7 := E2.cellAt.2.2.2.2.2.2.2
  have HQL : Hid (w.heap.size ∉ rfp fd2 q (.slice ta2 (loadR c st).1.text.length tc2) (loadR c st).1.text ∧ q < w.heap.size) := ⟨fun e => by
    rcases N2 _ e with e | e
    · have := HLT.out _ (rfp_nil st.text e); omega
    · have e2 : (w.alloc (.cells #[.int .u64 0, .int .u64 0] 48)).heap.size ≤ w.heap.size := e
      rw [World.size_alloc] at e2
      omega, HLT.out q (rfp_mem.2 (.inr (.inl rfl)))⟩
  obtain ⟨n, hn8⟩ : ∃ n, n = (loadS c st).text.length := ⟨_, rfl⟩
  have e4 : w2.cell? ⟨q, 4, none⟩ = some (.slice ta2 n tc2) := by
    have h4 := E2.cellAt.2.2.2.2.1
    rw [show (loadR c st).1.text.length = n from hn8.symm] at h4
    exact h4
  have hp8 : ¬ n = 0 := by rw [hn8]; have := HTL.out.1; omega
  have hp9 : ¬ (n : Int) = 0 := by omega
  have HN8 := hide hn8
  clear hn8
  rw [show (loadR c st).2 = er from her.symm]
  have HER := hide her
  have HE2 := hide (And.intro E2 (And.intro K2 (And.intro N2 hbx)))
  clear E2 K2 N2 hbx HL her f2 f3 f4 f6 f7 b0 b1 z0
  go_wp2_with fail
  have W1s : True := trivial
  obtain ⟨E2, K2, N2, hbx⟩ := HE2.out
  obtain ⟨W1, hW1⟩ : ∃ W1, W1 = w2.setCell ⟨q, 6, none⟩ (.int .i64 er) := ⟨_, rfl⟩
  have ks : Kept [q] w2 W1 := by rw [hW1]; exact (Kept.refl _ w2).setCell (.inl (by simp)) _
  have hcs := heap_setCell E2.cells 6 (.int .i64 er)
  rw [← hW1] at hcs ⊢
  have hne9 : (loadR c st).1.text ≠ [] → ∀ x ∈ own (.slice ta2 (loadR c st).1.text.length tc2), x ∉ fd2 ∧ x ≠ q := fun h0 x hx => ⟨E2.tfd h0 x hx, fun e => E2.qt h0 (e ▸ hx)⟩
  obtain ⟨E3, K3⟩ := E2.turn (tv' := .slice ta2 (loadR c st).1.text.length tc2) (st' := loadS c st) ks (by have h9 := HER.out; simp only [loadS] at h9 ⊢; rw [← h9]; simpa [rcells] using hcs) E2.text E2.at_le hne9
  have M1 : NxM w W1 fd2 (.slice ta2 (loadS c st).text.length tc2) p q l R U k2 nm c (loadS c st) := ⟨E3, ks.heap9 hbx (by have := HQL.out.2; simp; omega)⟩
  have hsu : ∀ x ∈ rfp fd q (.slice ta st.text.length tc) [], x ∈ rfp fd q (.slice ta st.text.length tc) st.text := fun x hx => rfp_nil st.text hx
  have K0 : Kept (rfp fd q (.slice ta st.text.length tc) st.text) w w2 := (((Kept.refl _ w).alloc _).drewN _).trans (K2.mono hsu) (Newly.refl _ _)
  have N1 : Newly w (rfp fd q (.slice ta st.text.length tc) st.text) (rfp fd2 q (.slice ta2 (loadS c st).text.length tc2) (loadS c st).text) := fun x hx => by
    rcases N2 x hx with e | e
    · exact .inl (hsu x e)
    · have e2 : (w.alloc (.cells #[.int .u64 0, .int .u64 0] 48)).heap.size ≤ x := e
      rw [World.size_alloc] at e2
      exact .inr (by omega)
  have K1 : Kept (rfp fd q (.slice ta st.text.length tc) st.text) w W1 := K0.trans K3 N1
  have hkk : k ≤ k2 ∧ k2 ≤ k + 2 := ⟨hk1, hk2⟩
  clear E2 K2 N2 hbx ks hcs hne9 E3 K3 hsu K0 hW1 HE2 hk1 hk2 e4 e6 e7 W1s
  obtain ⟨ta, tc, hta, htc⟩ : ∃ a b, a = ta2 ∧ b = tc2 := ⟨_, _, rfl, rfl⟩
  subst hta
  subst htc
  obtain ⟨⟨f2, f3, f4, f6, f7⟩, b0, b1, z0⟩ := M1.facts
  have hqn : q ≠ w.heap.size := by have := HQL.out.2; omega
  have G1 := hide (get_yes _ _ 0 8 W1 M1.rk.text (by have := HTL.out; omega) (by omega) (by omega) (by have := HTL.out; omega))
  have G2 := hide (fun (W : World) (b : Below W1.heap.size W1 W) => get_yes _ _ 8 8 W (M1.rk.text.below b) (by have := HTL.out; omega) (by omega) (by omega) (by have := HTL.out; omega))
  rw [List.drop_zero] at G1
  obtain ⟨x1, hx1⟩ : ∃ x, x = valB 256 (((loadS c st)).text.take 8) := ⟨_, rfl⟩
  obtain ⟨x2, hx2⟩ : ∃ x, x = valB 256 ((((loadS c st)).text.drop 8).take 8) := ⟨_, rfl⟩
  rw [← hx1] at G1
  rw [← hx2] at G2
  have HX : Hid (recAt ((loadS c st)).text = (x1, x2)) := by show _ = _; rw [recAt, hx1, hx2]
  have HM1 := hide (And.intro M1 (And.intro K1 (And.intro N1 hkk)))
  have hn := HN8.out
  have hn16 : 16 ≤ n := by rw [hn]; exact HTL.out.1
  have hnc : n ≤ 1000000 := by rw [hn]; exact HTL.out.2
  rw [← hn] at f4 G1 G2
  have sl1 : ∀ W, (Instr.slice 30 (.slice ta n tc) (some (.int .i64 16)) none none).run Try.prog W = .ok (.slice (if tc = 16 then ta else ta.map (·.add 16)) (n - 16) (tc - 16)) W := slice_from ta n tc 16 hn16
  obtain ⟨dp, hdp⟩ : ∃ dp, dp = (if tc = 16 then ta else ta.map (·.add 16)) := ⟨_, rfl⟩
  rw [← hdp] at sl1
  have HDP := hide hdp
  have HN9 := hide hn
  clear M1 K1 N1 hkk hdp hx1 hx2 hn
  go_wp2_with fail
  refine G1.out.mono ?_
  rintro e W2 ⟨rfl, bel2⟩
  have M2 := HM1.out.1.next bel2
  obtain ⟨⟨_, _, f4', _, f7'⟩, _, _, _⟩ := M2.facts
  rw [← HN9.out] at f4'
  have G3 := hide (G2.out W2 bel2)
  have HB2 := hide bel2
  clear M2 G2 bel2
  go_wp2_with fail
  refine G3.out.mono ?_
  rintro e W3 ⟨rfl, bel3⟩
  have B3 := below_then HB2.out bel3
  have M3 := HM1.out.1.next B3
  have I3 := M3.rk.text.from 16 HTL.out.1
  rw [← HDP.out, ← HN9.out] at I3
  have hsub : ∀ x ∈ own (.slice dp (n - 16) (tc - 16)), x ∈ own (.slice ta ((loadS c st)).text.length tc) := fun x hx => by
    rw [HDP.out] at hx
    cases ta with
    | none => split at hx <;> simp [own, Value.ownBlock] at hx
    | some ta => split at hx <;> simpa [own, Value.ownBlock, Addr.add] using hx
  have hne : ((loadS c st)).text ≠ [] := fun e => by have := HTL.out.1; rw [e] at this; simp at this
  obtain ⟨M4, K4⟩ := M3.cut (by omega) I3 (fun _ x hx => ⟨M3.rk.tfd hne x (hsub x hx), fun e => M3.rk.qt hne (e ▸ hsub x hx)⟩)
  obtain ⟨⟨_, _, f4'', _, f7''⟩, _, _, _⟩ := M3.facts
  rw [← HN9.out] at f4''
  obtain ⟨_, g0, g1, g2⟩ := M4.facts
  have HM4 := hide (And.intro M4 (And.intro K4 (And.intro hsub (And.intro hne B3))))
  clear M3 M4 K4 hsub hne I3 B3 bel3
  go_wp2
  obtain ⟨m1, k1, n1, kk1, kk2⟩ := HM1.out
  obtain ⟨m4, k4, hsub, hne, bel3⟩ := HM4.out
  obtain ⟨r1, r2⟩ := m4.boxed (.int .u64 x1) (.int .u64 x2)
  refine bodyPost_ret (nextRes _ _ w.heap.size x1 x2 rfl r1 r2) rfl ?_
  have hin : ∀ x ∈ rfp fd2 q (.slice dp (n - 16) (tc - 16)) (((loadS c st)).text.drop 16), x ∈ rfp fd2 q (.slice ta ((loadS c st)).text.length tc) ((loadS c st)).text := fun x hx => by
    rcases rfp_mem.1 hx with hx | hx | ⟨_, hx⟩
    · exact rfp_mem.2 (.inl hx)
    · exact rfp_mem.2 (.inr (.inl hx))
    · exact rfp_mem.2 (.inr (.inr ⟨hne, hsub x hx⟩))
  have k3 := (k1.trans (Kept.of_below (fp := []) bel3) (fun _ hx => by simp at hx)).trans k4 n1
  obtain ⟨t1, t2⟩ := m4.told k3 (.int .u64 x1) (.int .u64 x2) (fun e => HQL.out.1 (hin _ e))
  exact ⟨by rw [HX.out]; rfl, fd2, _, k2, t1, kk1, kk2, t2, fun x hx => n1 x (hin x hx)⟩

end

end Go.Proofs.Ytdhajmgpakconaa
