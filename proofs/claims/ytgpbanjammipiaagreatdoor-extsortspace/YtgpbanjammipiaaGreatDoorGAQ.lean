/-
  Lemma texts, one behind the other: KPop, XSrc. No statement of the seat is proved here.
-/
import Derived.Test.YtgpbanjammipiaaGreatDoorGAP
import Derived.Test.YtgpbanjammipiaaGreatDoorGAO
namespace Go.Proofs.YtgpbanjammipiaaGreatDoor.K
open Go.RowKit

set_option maxRecDepth 100000 in
/-- 'clear(row[n-1:])'. -/
theorem run_clear1 (w : World) (ty : TypeId) (g o c : Nat) (h1 : (w.cell? ⟨g, o, none⟩).isSome = true) (f1 : w.frozen? ⟨g, o, none⟩ = false) :
    (Builtin.clear_ #[135] ty #[.slice (some ⟨g, o, none⟩) 1 c]).run Tryz.prog w = .ok (.tuple #[]) (w.setCell ⟨g, o, none⟩ (.pointer none)) := by
  have hv : ∀ w, (zeroValue 79).run Tryz.prog w = .ok (.pointer none) w := fun _ => rfl
  have hzc : (Builtin.zeroCells (Value.pointer none).cells 1).toList = [.pointer none] := by kernel_rfl
  have hst := run_storeCells_cells (P := Tryz.prog) g o [.pointer none] 0 w (by
    intro j hj
    match j, hj with
    | 0, _ => simpa using h1) (by
    intro j hj
    match j, hj with
    | 0, _ => simpa using f1) (by intro v hv'; simp at hv'; subst hv'; rfl)
  simp only [Nat.add_zero] at hst
  simp [Builtin.clear_, run_underlying Tryz.underlying135, hv, hzc, hst, World.setCells]

section
variable {bk : Int → Nat} {w w' : World} {p : Nat} {v : Value} {l : List Rc}

/-- A cell behind those that are told is turned. -/
theorem RowR.cutAt {g cap k : Nat} {u : Value} (h : RowR bk w (.slice (some ⟨g, 0, none⟩) (k + 1) cap) l) : RowR bk (w.setCell ⟨g, k, none⟩ u) (.slice (some ⟨g, 0, none⟩) k cap) (l.take k) := by
  have hl := h.len
  have e := hl
  obtain ⟨h1, h2⟩ := h
  have hkk : Kept [g] w (w.setCell ⟨g, k, none⟩ u) := (Kept.refl _ _).setCell (.inl (by simp)) _
  have hl2 : (l.take k).length = k := by rw [List.length_take]; omega
  rw [hl] at h1
  have q := (h1.stored k u).1
  refine ⟨⟨by rw [flatR_length, hl2]; omega, ?_⟩, fun e he => ?_⟩
  · rcases q.2 with ⟨e, _⟩ | ⟨g', cap', cur, e, hb, hg, hn, hm, hs, ht⟩
    · simp at e
    · simp only [Value.slice.injEq, Option.some.injEq, Addr.mk.injEq, and_true] at e
      obtain ⟨rfl, _, rfl⟩ := e
      refine .inr ⟨g, cap, cur, by rw [hl2], hb, hg, by rw [hl2]; omega, hm, hs, ?_⟩
      have ht2 := congrArg (List.take k) ht
      rw [List.take_take, Nat.min_eq_left (by omega)] at ht2
      rw [hl2, flatR_take, Nat.mul_one, ht2, List.take_set_of_le (Nat.le_refl _)]
  · obtain ⟨a, b, c⟩ := h2 e (List.mem_of_mem_take he)
    exact ⟨a, b.kept hkk (by simpa [own, Value.ownBlock] using c), by simpa [own, Value.ownBlock] using c⟩

set_option maxRecDepth 100000 in
set_option maxHeartbeats 4000000 in
theorem cut_any {g cap k : Nat} (h : RowR bk w (.slice (some ⟨g, 0, none⟩) (k + 1) cap) l) (hcap : k + 1 ≤ cap) (hmax : k ≤ 1000000) :
    Calls Tryz.prog 112 #[.slice (some ⟨g, 0, none⟩) (k + 1) cap] w fun e w' => e = .returned (.slice (some ⟨g, 0, none⟩) k cap) ∧ RowR bk w' (.slice (some ⟨g, 0, none⟩) k cap) (l.take k) ∧ Kept [g] w w' := by
  obtain ⟨n, hn⟩ : ∃ n, n = k + 1 := ⟨_, rfl⟩
  have HQ : Hid (∀ u, RowR bk (w.setCell ⟨g, k, none⟩ u) (.slice (some ⟨g, 0, none⟩) k cap) (l.take k)) := fun u => h.cutAt
  rw [← hn] at h hcap ⊢
  have hl := h.len
  have hw : IntKind.i64.wrap ((n : Int) - 1) = (k : Int) := by rw [i64_small _ (by omega) (by omega)]; omega
  have c1 := h.cell1 k (by omega)
  have z1 := h.frozenAt k
  have hkn : (k : Int) ≤ (n : Int) := by omega
  have hkc : (k : Int) ≤ (cap : Int) := by omega
  have hck : ¬ cap - k = 0 := by omega
  have hnk : n - k = 1 := by omega
  have hrun : ∀ ty c, (Builtin.clear_ #[135] ty #[.slice (some ⟨g, k, none⟩) 1 c]).run Tryz.prog w = .ok (.tuple #[]) (w.setCell ⟨g, k, none⟩ (.pointer none)) := fun ty c => run_clear1 w ty g k c (by rw [c1]; rfl) z1
  clear h hl hn
  go_enter Tryz.func112, Tryz.ntmps112
  go_wp2
  go_ret
  exact ⟨rfl, HQ.out _, (Kept.refl _ _).setCell (.inl (by simp)) _⟩

set_option maxRecDepth 100000 in
set_option maxHeartbeats 4000000 in
theorem peek_none (h : HeapAt bk w p v []) :
    Calls Tryz.prog 111 #[.pointer (some ⟨p, 0, none⟩)] w fun e w' => e = .returned (.tuple #[.pointer none, .bool false]) ∧ w' = w := by
  obtain ⟨c0, c1⟩ := h.cellAt
  have hform : ∃ a cap, v = .slice a 0 cap := by
    rcases h.row.form with ⟨rfl, _⟩ | ⟨g, cap, rfl, _⟩
    · exact ⟨none, 0, rfl⟩
    · exact ⟨_, cap, rfl⟩
  obtain ⟨a, cap, rfl⟩ := hform
  clear h
  go_enter Tryz.func111, Tryz.ntmps111
  go_wp2
  go_ret2
  exact ⟨rfl, rfl⟩

set_option maxRecDepth 100000 in
set_option maxHeartbeats 4000000 in
theorem peek_some (h : HeapAt bk w p v l) (h0 : 0 < l.length) (hmax : l.length ≤ 1000000) :
    Calls Tryz.prog 111 #[.pointer (some ⟨p, 0, none⟩)] w fun e w' => e = .returned (.tuple #[.pointer (some ⟨bk l[0]!.2.2, 0, none⟩), .bool true]) ∧ w' = w := by
  obtain ⟨c0, c1⟩ := h.cellAt
  obtain ⟨g, cap, rfl, hcap⟩ := h.row.blk h0
  have d1 := h.row.cell1 0 h0
  obtain ⟨b, hb⟩ : ∃ b, b = bk l[0]!.2.2 := ⟨_, rfl⟩
  rw [← hb] at d1 ⊢
  have h0' : (0 : Int) < (l.length : Int) := by omega
  clear h hb
  obtain ⟨n, hn⟩ : ∃ n, n = l.length := ⟨_, rfl⟩
  rw [← hn] at *
  clear hn
  go_enter Tryz.func111, Tryz.ntmps111
  go_wp2
  go_ret2
  exact ⟨rfl, rfl⟩

theorem pop_perm (l : List Rc) (k : Nat) (hk : l.length = k + 1) : (l[0]! :: (l.set 0 l[k]!).take k).Perm l := by
  cases l with
  | nil => simp at hk
  | cons x t =>
    simp only [List.length_cons, Nat.add_right_cancel_iff] at hk
    cases k with
    | zero =>
      have : t = [] := List.eq_nil_of_length_eq_zero hk
      subst this
      simp
    | succ j =>
      have hj : j < t.length := by omega
      have e : (x :: t)[j + 1]! = t[j] := by rw [getElem!_pos (x :: t) (j + 1) (by simp; omega)]; simp
      rw [e]
      simp only [List.set_cons_zero, List.take_succ_cons]
      refine List.Perm.cons x ?_
      have ht : t = t.take j ++ [t[j]] := by
        have h1 := List.take_append_getElem hj
        rw [h1, List.take_of_length_le (by omega)]
      have hp : (t[j] :: t.take j).Perm (t.take j ++ [t[j]]) := (List.perm_append_singleton _ _).symm
      rw [← ht] at hp
      exact hp

set_option maxRecDepth 100000 in
set_option maxHeartbeats 4000000 in
theorem pop_some (h : HeapAt bk w p v l) (h0 : 0 < l.length) (hmax : l.length ≤ 1000000) (hheap : HeapR l) :
    Calls Tryz.prog 86 #[.pointer (some ⟨p, 0, none⟩)] w fun e w' => e = .returned (.tuple #[.pointer (some ⟨bk l[0]!.2.2, 0, none⟩), .bool true]) ∧
      ∃ v' l', HeapAt bk w' p v' l' ∧ HeapR l' ∧ (l[0]! :: l').Perm l ∧ Kept (p :: own v) w w' ∧ Newly w (own v) (own v') := by
  obtain ⟨g, cap, rfl, hcap⟩ := h.row.blk h0
  obtain ⟨k, hk⟩ : ∃ k, l.length = k + 1 := ⟨l.length - 1, by omega⟩
  have hpg : p ≠ g := by have := h.apart; simpa [own, Value.ownBlock] using this
  have PK := hide (peek_some h h0 hmax)
  obtain ⟨c0, c1⟩ := h.cellAt
  have d1 := h.row.cell1 k (by omega)
  have e1 := h.row.cell1 0 h0
  have z1 := h.row.frozenAt 0
  have z0 := h.frozen 0
  obtain ⟨bx, hbx⟩ : ∃ b, b = bk l[0]!.2.2 := ⟨_, rfl⟩
  obtain ⟨by', hby⟩ : ∃ b, b = bk l[k]!.2.2 := ⟨_, rfl⟩
  rw [← hbx] at PK e1 ⊢
  rw [← hby] at d1
  have HX := hide (And.intro hby (And.intro h0 (And.intro hheap hk)))
  have H := hide h
  have hw : IntKind.i64.wrap ((l.length : Int) - 1) = (k : Int) := by rw [i64_small _ (by omega) (by omega)]; omega
  have hn0 : (0 : Int) < (l.length : Int) := by omega
  have hkl : k < l.length := by omega
  clear hbx hby h hheap hk
  go_enter Tryz.func86, Tryz.ntmps86
  go_wp2_with fail
  refine PK.out.mono ?_
  rintro e w2 ⟨rfl, rfl⟩
  go_wp2
  go_region
  all_goals
    generalize hw4 : (w2.setCell ⟨g, 0, none⟩ (.pointer (some ⟨by', 0, none⟩))).drew = w4
    have k4 : Kept [g] w2 w4 := by rw [← hw4]; exact ((Kept.refl _ _).setCell (.inl (by simp)) _).drew
    have r4 : RowR bk w4 (.slice (some ⟨g, 0, none⟩) l.length cap) (l.set 0 l[k]!) := by
      have q := H.out.row.stored 0 l[k]! (H.out.row.okAt k hkl)
      rw [ptr, ← HX.out.1] at q
      rw [← hw4]
      exact q
    clear hw4
    have e4 := k4.heap H.out.cells (by simpa using hpg)
    have c4 : w4.cell? ⟨p, 0, none⟩ = some (.slice (some ⟨g, 0, none⟩) l.length cap) := cell_of_heap e4 0
    have K4 := hide k4
    have E4 := hide e4
    have hlk := HX.out.2.2.2
    have CT : Hid (Calls Tryz.prog 112 #[.slice (some ⟨g, 0, none⟩) l.length cap] w4 fun e w' => e = .returned (.slice (some ⟨g, 0, none⟩) k cap) ∧ RowR bk w' (.slice (some ⟨g, 0, none⟩) k cap) ((l.set 0 l[k]!).take k) ∧ Kept [g] w4 w') := by
      show Calls _ _ _ _ _
      rw [hlk] at r4 hcap ⊢
      exact cut_any r4 hcap (by omega)
    clear r4 k4 e4 hlk c0 c1 d1 e1 z1 z0
    go_wp2_with fail
    refine CT.out.mono ?_
    rintro e w5 ⟨rfl, r5, k5⟩
    have e5 := k5.heap E4.out (by simpa using hpg)
    have c5 : w5.cell? ⟨p, 0, none⟩ = some (.slice (some ⟨g, 0, none⟩) l.length cap) := cell_of_heap e5 0
    have f5 : w5.frozen? ⟨p, 0, none⟩ = false := frozen_of_heap e5 0
    obtain ⟨w6, hw6⟩ : ∃ w6, w6 = w5.setCell ⟨p, 0, none⟩ (.slice (some ⟨g, 0, none⟩) k cap) := ⟨_, rfl⟩
    have k6 : Kept [p] w5 w6 := by rw [hw6]; exact (Kept.refl _ _).setCell (.inl (by simp)) _
    have r6 := r5.kept k6 (by simp [own, Value.ownBlock]; exact fun e => hpg e.symm) (fun e he => by simpa using (r5.2 e he).2.1.ne e5)
    have e6 : w6.heap[p]? = some (.cells #[.slice (some ⟨g, 0, none⟩) k cap, .slice none 0 0] 137 (0, 0)) := by rw [hw6]; exact heap_setCell e5 0 _
    have c6 : w6.cell? ⟨p, 0, none⟩ = some (.slice (some ⟨g, 0, none⟩) k cap) := cell_of_heap e6 0
    have hdn : Down ((l.set 0 l[k]!).take k) 0 := by
      have := Down.start HX.out.2.2.1 l[k]!
      rw [show l.length - 1 = k by have := HX.out.2.2.2; omega] at this
      exact this
    have SK := hide (sink_any r6 (by simp; omega) hdn)
    have K6 := hide (And.intro k5 k6)
    have E6 := hide e6
    clear r5 r6 k5 k6 e5 e6 hdn
    subst hw6
    go_wp2_with fail
    refine SK.out.mono ?_
    rintro e w7 ⟨rfl, l7, r7, h7, p7, k7⟩
    have e7 := k7.heap E6.out (by simpa using hpg)
    have H7 := hide (And.intro e7 (And.intro r7 (And.intro h7 (And.intro p7 k7))))
    clear e7 r7 h7 p7 k7
    go_wp2
    go_ret2
    refine ⟨rfl, .slice (some ⟨g, 0, none⟩) k cap, l7, ?_⟩
    obtain ⟨e7, r7, h7, p7, k7⟩ := H7.out
    refine ⟨⟨e7, r7, by simpa [own, Value.ownBlock] using hpg⟩, h7, ?_, ?_, ?_⟩
    · exact (p7.cons _).trans (pop_perm l k HX.out.2.2.2)
    · have hg : ∀ x ∈ [g], x ∈ (p :: own (Value.slice (some ⟨g, 0, none⟩) l.length cap)) ∨ w2.heap.size ≤ x := fun x hx => by simp at hx; subst hx; exact .inl (by simp [own, Value.ownBlock])
      have hp : ∀ x ∈ [p], x ∈ (p :: own (Value.slice (some ⟨g, 0, none⟩) l.length cap)) ∨ w2.heap.size ≤ x := fun x hx => by simp at hx; subst hx; exact .inl (by simp)
      have q1 : Kept (p :: own (Value.slice (some ⟨g, 0, none⟩) l.length cap)) w2 w2 := Kept.refl _ _
      exact (((q1.trans K4.out hg).trans K6.out.1 hg).trans K6.out.2 hp).trans k7 hg
    · exact Newly.of_sub (by simp [own, Value.ownBlock])

set_option maxRecDepth 100000 in
set_option maxHeartbeats 4000000 in
theorem pop_none (h : HeapAt bk w p v []) :
    Calls Tryz.prog 86 #[.pointer (some ⟨p, 0, none⟩)] w fun e w' => e = .returned (.tuple #[.pointer none, .bool false]) ∧ w' = w := by
  have PK := hide (peek_none h)
  obtain ⟨c0, c1⟩ := h.cellAt
  have hform : ∃ a cap, v = .slice a 0 cap := by
    rcases h.row.form with ⟨rfl, _⟩ | ⟨g, cap, rfl, _⟩
    · exact ⟨none, 0, rfl⟩
    · exact ⟨_, cap, rfl⟩
  obtain ⟨a, cap, rfl⟩ := hform
  clear h
  go_enter Tryz.func86, Tryz.ntmps86
  go_wp2_with fail
  refine PK.out.mono ?_
  rintro e w2 ⟨rfl, rfl⟩
  go_wp2
  go_ret2
  exact ⟨rfl, rfl⟩

end

/-- A heap by its sources: S their records, rising. -/
def Hp (bk : Int → Nat) (w : World) (p : Nat) (v : Value) (S : List Rc) : Prop := ∃ l, HeapAt bk w p v l ∧ HeapOf l S

section
variable {bk : Int → Nat} {w w' : World} {p : Nat} {v : Value} {S : List Rc}

theorem Hp.kept {fp : List Nat} (h : Hp bk w p v S) (hk : Kept fp w w') (hp : p ∉ fp) (hf : ∀ x ∈ own v, x ∉ fp) (hs : ∀ e ∈ S, bk e.2.2 ∉ fp) : Hp bk w' p v S := by
  obtain ⟨l, a, o⟩ := h
  exact ⟨l, a.kept hk hp hf (fun e he => hs e (o.perm.mem_iff.1 he)), o⟩

theorem Hp.srcs (h : Hp bk w p v S) : ∀ e ∈ S, okR e ∧ Src w (bk e.2.2) e ∧ bk e.2.2 ∉ own v ∧ bk e.2.2 ≠ p := by
  obtain ⟨l, a, o⟩ := h
  intro e he
  obtain ⟨q1, q2, q3⟩ := a.row.2 e (o.perm.mem_iff.2 he)
  exact ⟨q1, q2, q3, q2.ne a.cells⟩

theorem Hp.lt (h : Hp bk w p v S) : p < w.heap.size ∧ (∀ x ∈ own v, x < w.heap.size) ∧ p ∉ own v := by
  obtain ⟨l, a, o⟩ := h
  exact ⟨(Array.getElem?_eq_some_iff.1 a.cells).1, a.row.low, a.apart⟩

theorem Hp.new (bk : Int → Nat) (w : World) : Hp bk (w.alloc (.cells #[.slice none 0 0, .slice none 0 0] 137)) w.heap.size (.slice none 0 0) [] :=
  ⟨[], ⟨heap_alloc_new w _, RowR.nil _ _, by simp [own, Value.ownBlock]⟩, HeapOf.nil⟩

theorem Hp.push (h : Hp bk w p v S) (hmax : S.length ≤ 100000) {x : Rc} (hx : okR x) (hs : Src w (bk x.2.2) x) (ha : bk x.2.2 ∉ own v) :
    Calls Tryz.prog 84 #[.pointer (some ⟨p, 0, none⟩), .pointer (some ⟨bk x.2.2, 0, none⟩)] w fun e w' => e = .returned (.tuple #[]) ∧
      ∃ v', Hp bk w' p v' (insR x S) ∧ Kept (p :: own v) w w' ∧ Newly w (own v) (own v') := by
  obtain ⟨l, a, o⟩ := h
  refine (push_any a (by have := o.perm.length_eq; omega) o.heap hx hs ha).mono ?_
  rintro e w' ⟨rfl, v', l', a', h', p', k', n'⟩
  exact ⟨rfl, v', ⟨l', a', ⟨h', (p'.trans ((List.perm_append_singleton x l).trans ((o.perm.cons x).trans (insR_perm x S).symm))), insR_rises x o.rises⟩⟩, k', n'⟩

theorem Hp.pop_cons {x : Rc} (h : Hp bk w p v (x :: S)) (hmax : S.length ≤ 100000) :
    Calls Tryz.prog 86 #[.pointer (some ⟨p, 0, none⟩)] w fun e w' => e = .returned (.tuple #[.pointer (some ⟨bk x.2.2, 0, none⟩), .bool true]) ∧
      ∃ v', Hp bk w' p v' S ∧ Kept (p :: own v) w w' ∧ Newly w (own v) (own v') := by
  obtain ⟨l, a, o⟩ := h
  have hlen := o.perm.length_eq
  simp only [List.length_cons] at hlen
  have hf := o.first x S rfl
  refine (pop_some a (by omega) (by omega) o.heap).mono ?_
  rintro e w' ⟨rfl, v', l', a', h', p', k', n'⟩
  rw [hf] at p' ⊢
  refine ⟨rfl, v', ⟨l', a', ⟨h', List.Perm.cons_inv (p'.trans o.perm), ?_⟩⟩, k', n'⟩
  exact (List.pairwise_cons.1 o.rises).2

theorem Hp.pop_nil (h : Hp bk w p v []) :
    Calls Tryz.prog 86 #[.pointer (some ⟨p, 0, none⟩)] w fun e w' => e = .returned (.tuple #[.pointer none, .bool false]) ∧ w' = w := by
  obtain ⟨l, a, o⟩ := h
  obtain rfl : l = [] := List.eq_nil_of_length_eq_zero (by simpa using o.perm.length_eq)
  exact pop_none a
end

end Go.Proofs.YtgpbanjammipiaaGreatDoor.K

namespace Go.Proofs.YtgpbanjammipiaaGreatDoor
open Go.RowKit Go.Maps

/-- A source in its block. -/
def socells (q : Nat) (x : Rc) (i : Bool) (row : Int) : Obj := .cells #[.int .u64 x.1, .int .u64 x.2, .bool i, .pointer (some ⟨q, 0, none⟩), .int .i64 row] 81 (0, 0)

/-- What a source is of: its block, its reader's, its row's number, the file's name, and its bytes when the reader was made. -/
structure Sid where
  b : Nat
  q : Nat
  row : Int
  nm : ByteArray
  c : List Int

/-- A source and its reader in memory: x the record that it holds, i whether it holds one. -/
structure Sou (w : World) (p : Nat) (s : Sid) (tv : Value) (st : Rst) (x : Rc) (i : Bool) : Prop where
  src : w.heap[s.b]? = some (socells s.q x i s.row)
  cells : w.heap[s.q]? = some (rcells p s.nm s.c.length st.at_ tv st.short st.err)
  text : IsB w tv st.text
  at_le : st.at_ ≤ s.c.length
  len : s.c.length ≤ 1000000000
  qt : st.text ≠ [] → s.q ∉ own tv
  bt : st.text ≠ [] → s.b ∉ own tv

/-- All its blocks. -/
def sfp (s : Sid) (tv : Value) (t : List Int) : List Nat := s.b :: s.q :: (if t = [] then [] else own tv)
theorem sfp_mem {s : Sid} {tv : Value} {t : List Int} {x : Nat} : x ∈ sfp s tv t ↔ x = s.b ∨ x = s.q ∨ (t ≠ [] ∧ x ∈ own tv) := by
  by_cases h : t = [] <;> simp [sfp, h]

section
variable {w w' : World} {p : Nat} {s : Sid} {tv : Value} {st : Rst} {x : Rc} {i : Bool}

theorem Sou.ne (h : Sou w p s tv st x i) : s.b ≠ s.q := by
  intro e
  have h1 := h.src
  rw [e, h.cells] at h1
  simp [socells, rcells] at h1

theorem Sou.lt (h : Sou w p s tv st x i) : ∀ y ∈ sfp s tv st.text, y < w.heap.size := fun y hy => by
  rcases sfp_mem.1 hy with rfl | rfl | ⟨h0, hy⟩
  · exact heap_lt h.src
  · exact heap_lt h.cells
  · exact h.text.lt h0 y hy

theorem Sou.kept {fp : List Nat} (h : Sou w p s tv st x i) (hk : Kept fp w w') (hf : ∀ y ∈ sfp s tv st.text, y ∉ fp) : Sou w' p s tv st x i :=
  ⟨hk.heap9 h.src (hf _ (sfp_mem.2 (.inl rfl))), hk.heap9 h.cells (hf _ (sfp_mem.2 (.inr (.inl rfl)))), h.text.kept hk (fun h0 y hy => hf y (sfp_mem.2 (.inr (.inr ⟨h0, hy⟩)))), h.at_le, h.len, h.qt, h.bt⟩

/-- The disk and the reader. -/
theorem Sou.rk {fd : List Nat} {A : Dsk} (h : Sou w p s tv st x i) (d : Dk w fd p A.1 A.2) (hf : A.2.down = false → ∃ x, lookA A.1 s.nm.data.toList = some x ∧ s.c <+: x.2.1) (hd : ∀ y ∈ sfp s tv st.text, y ∉ fd) : RkA w fd tv p s.q A s.nm s.c st :=
  ⟨d, hf, h.cells, h.text, h.at_le, h.len, hd _ (sfp_mem.2 (.inr (.inl rfl))), fun h0 y hy => hd y (sfp_mem.2 (.inr (.inr ⟨h0, hy⟩))), h.qt⟩
end

/-- A source by what it will tell: x, i what it holds, rs what its reader will read yet, er the error behind. -/
def SoA (w : World) (p : Nat) (fp : List Nat) (s : Sid) (x : Rc) (i : Bool) (rs : List Rc) (er : Int) : Prop := ∃ tv st, Sou w p s tv st x i ∧ Wil s.c st rs er ∧ fp = sfp s tv st.text

theorem SoA.kept {w w' : World} {p : Nat} {fp fq : List Nat} {s : Sid} {x : Rc} {i : Bool} {rs : List Rc} {er : Int} (h : SoA w p fp s x i rs er) (hk : Kept fq w w') (hf : ∀ y ∈ fp, y ∉ fq) : SoA w' p fp s x i rs er := by
  obtain ⟨tv, st, h1, h2, rfl⟩ := h
  exact ⟨tv, st, h1.kept hk hf, h2, rfl⟩
theorem SoA.lt {w : World} {p : Nat} {fp : List Nat} {s : Sid} {x : Rc} {i : Bool} {rs : List Rc} {er : Int} (h : SoA w p fp s x i rs er) : ∀ y ∈ fp, y < w.heap.size := by
  obtain ⟨tv, st, h1, h2, rfl⟩ := h
  exact h1.lt
theorem SoA.mem {w : World} {p : Nat} {fp : List Nat} {s : Sid} {x : Rc} {i : Bool} {rs : List Rc} {er : Int} (h : SoA w p fp s x i rs er) : s.b ∈ fp := by
  obtain ⟨tv, st, h1, h2, rfl⟩ := h
  exact sfp_mem.2 (.inl rfl)
theorem SoA.src {w : World} {p : Nat} {fp : List Nat} {s : Sid} {x : Rc} {i : Bool} {rs : List Rc} {er : Int} (h : SoA w p fp s x i rs er) : w.heap[s.b]? = some (socells s.q x i s.row) := by
  obtain ⟨tv, st, h1, h2, rfl⟩ := h
  exact h1.src

/-- What a step of a source leaves. -/
def StepP (w : World) (p : Nat) (fd fs : List Nat) (A : Dsk) (s : Sid) (rs : List Rc) (er : Int) (e : Ending) (w' : World) : Prop :=
  ∃ B fd' e', e = .returned (.int .i64 e') ∧ Dk w' fd' p B.1 B.2 ∧ Kept (fd ++ fs) w w' ∧ Newly w (fd ++ fs) fd' ∧ Red 2 A B ∧
    ((B.2.down = false ∧ ∃ fs' x i rs', SoA w' p fs' s x i rs' er ∧ (∀ y ∈ fs', y ∉ fd') ∧ Newly w (fd ++ fs) fs' ∧ ((rs = x :: rs' ∧ i = true ∧ e' = 0) ∨ (rs = [] ∧ rs' = [] ∧ i = false ∧ e' = er))) ∨
     (B.2.down = true ∧ e' = 7 ∧ ∃ x, w'.heap[s.b]? = some (socells s.q x false s.row)))

set_option maxRecDepth 100000 in
set_option maxHeartbeats 4000000 in
theorem step_any {w : World} {p : Nat} {fd fs : List Nat} {A : Dsk} {s : Sid} {x : Rc} {i : Bool} {rs : List Rc} {er : Int} (h : SoA w p fs s x i rs er) (d : Dk w fd p A.1 A.2) (hd : ∀ y ∈ fs, y ∉ fd) (hup : A.2.down = false)
    (hf : ∃ x, lookA A.1 s.nm.data.toList = some x ∧ s.c <+: x.2.1) (hk : A.2.ops ≤ 999998) (hnm : s.nm.size ≤ maxLen) :
    Calls Tryz.prog 53 #[.pointer (some ⟨s.b, 0, none⟩)] w (StepP w p fd fs A s rs er) := by
  obtain ⟨tv, st, h1, h2, rfl⟩ := h
  have rk := h1.rk d (fun _ => hf) hd
  have NX := hide (nextA_any rk hup h2 hk hnm)
  have c0 := cell_of_heap h1.src 0
  have c2 := cell_of_heap h1.src 2
  have c3 : w.cell? ⟨s.b, 3, none⟩ = some (.pointer (some ⟨s.q, 0, none⟩)) := cell_of_heap h1.src 3
  have HH := hide (And.intro h1 (And.intro hd (And.intro (heap_lt h1.src) h1.ne)))
  obtain ⟨b, hb⟩ : ∃ b, b = s.b := ⟨_, rfl⟩
  rw [← hb] at c0 c2 c3 ⊢
  have HBB := hide hb
  clear hb rk h1 hd d hf
  clear c0 c2
  go_enter Tryz.func53, Tryz.ntmps53
  go_wp2_with fail
  refine NX.out.mono ?_
  rintro e w1 ⟨B, y, t, e', st', rfl, ⟨fd1, tv1, E1, K1, N1⟩, R1, CS⟩
  obtain ⟨H1, HD, HLT, HNE⟩ := HH.out
  have hbn : s.b ∉ rfp fd s.q tv st.text := fun e => by
    rcases rfp_mem.1 e with e | e | ⟨h0, e⟩
    · exact HD s.b (sfp_mem.2 (.inl rfl)) e
    · exact HNE e
    · exact H1.bt h0 e
  have hbn1 : s.b ∉ rfp fd1 s.q tv1 st'.text := fun e => by
    rcases N1 _ e with e | e
    · exact hbn e
    · omega
  have hs1 := K1.heap9 H1.src hbn
  have f0 : ∀ o, w1.frozen? ⟨b, o, none⟩ = false := fun o => by rw [HBB.out]; exact frozen_of_heap hs1 o
  have d0 : w1.cell? ⟨b, 0, none⟩ = some (.int .u64 x.1) := by rw [HBB.out]; exact cell_of_heap hs1 0
  have d1 : w1.cell? ⟨b, 1, none⟩ = some (.int .u64 x.2) := by rw [HBB.out]; exact cell_of_heap hs1 1
  have d2 : w1.cell? ⟨b, 2, none⟩ = some (.bool i) := by rw [HBB.out]; exact cell_of_heap hs1 2
  have HE := hide (And.intro E1 (And.intro K1 (And.intro N1 (And.intro R1 (And.intro CS (And.intro hbn (And.intro hbn1 hs1)))))))
  obtain ⟨y1, y2⟩ := y
  clear E1 K1 N1 R1 CS hbn hbn1 hs1 H1 HD HLT HNE c3
  rw [show valR (y1, y2) = .agg #[.int .u64 y1, .int .u64 y2] from rfl]
  go_wp2
  go_ret
  obtain ⟨E1, K1, N1, R1, CS, hbn, hbn1, hs1⟩ := HE.out
  obtain ⟨H1, HD, HLT, HNE⟩ := HH.out
  rw [HBB.out]
  have ks : Kept [s.b] w1 (((w1.setCell ⟨s.b, 0, none⟩ (.int .u64 y1)).setCell ⟨s.b, 1, none⟩ (.int .u64 y2)).setCell ⟨s.b, 2, none⟩ (.bool t)) := (((Kept.refl _ w1).setCell (.inl (by simp)) _).setCell (.inl (by simp)) _).setCell (.inl (by simp)) _
  have hc : (((w1.setCell ⟨s.b, 0, none⟩ (.int .u64 y1)).setCell ⟨s.b, 1, none⟩ (.int .u64 y2)).setCell ⟨s.b, 2, none⟩ (.bool t)).heap[s.b]? = some (socells s.q (y1, y2) t s.row) := by
    have := heap_setCell (heap_setCell (heap_setCell hs1 0 (.int .u64 y1)) 1 (.int .u64 y2)) 2 (.bool t)
    simpa [socells] using this
  have E2 := E1.kept ks (fun z hz e => by simp only [List.mem_singleton] at e; subst e; exact hbn1 hz)
  have S2 : Sou _ p s tv1 st' (y1, y2) t := ⟨hc, E2.cells, E2.text, E2.at_le, E2.len, E2.qt, fun h0 e => hbn1 (rfp_mem.2 (.inr (.inr ⟨h0, e⟩)))⟩
  have hdis : ∀ z ∈ sfp s tv1 st'.text, z ∉ fd1 := fun z hz e => by
    rcases sfp_mem.1 hz with rfl | rfl | ⟨h0, hz⟩
    · exact hbn1 (rfp_mem.2 (.inl e))
    · exact E2.qfd e
    · exact E2.tfd h0 z hz e
  have hsub : ∀ {fd : List Nat} {tv : Value} {t : List Int} {z : Nat}, z ∈ rfp fd s.q tv t → z ∈ fd ++ sfp s tv t := fun {fd tv t z} hz => by
    rcases rfp_mem.1 hz with hz | hz | hz
    · exact List.mem_append.2 (.inl hz)
    · exact List.mem_append.2 (.inr (sfp_mem.2 (.inr (.inl hz))))
    · exact List.mem_append.2 (.inr (sfp_mem.2 (.inr (.inr hz))))
  have KK : Kept (fd ++ sfp s tv st.text) w w1 := K1.mono (fun z hz => hsub hz)
  have KK2 := KK.trans ks (fun z hz => .inl (by simp only [List.mem_singleton] at hz; subst hz; exact List.mem_append.2 (.inr (sfp_mem.2 (.inl rfl)))))
  have NN : Newly w (fd ++ sfp s tv st.text) (fd1 ++ sfp s tv1 st'.text) := fun z hz => by
    rcases List.mem_append.1 hz with hz | hz
    · exact (N1 z (rfp_mem.2 (.inl hz))).imp (fun e => hsub e) id
    · rcases sfp_mem.1 hz with rfl | rfl | hz
      · exact .inl (List.mem_append.2 (.inr (sfp_mem.2 (.inl rfl))))
      · exact .inl (List.mem_append.2 (.inr (sfp_mem.2 (.inr (.inl rfl)))))
      · exact (N1 z (rfp_mem.2 (.inr (.inr hz)))).imp (fun e => hsub e) id
  have NF : Newly w (fd ++ sfp s tv st.text) fd1 := fun z hz => NN z (List.mem_append.2 (.inl hz))
  have NS : Newly w (fd ++ sfp s tv st.text) (sfp s tv1 st'.text) := fun z hz => NN z (List.mem_append.2 (.inr hz))
  rcases CS with ⟨u1, rs', u2, u3, u4, u5⟩ | ⟨u1, u2, u3, u4, u5, u6⟩ | ⟨u1, u2, u3, u4⟩
  · exact ⟨B, fd1, e', rfl, E2.disk, KK2, NF, R1, .inl ⟨u1, _, (y1, y2), t, rs', ⟨tv1, st', S2, u5, rfl⟩, hdis, NS, .inl ⟨u2, u3, u4⟩⟩⟩
  · exact ⟨B, fd1, e', rfl, E2.disk, KK2, NF, R1, .inl ⟨u1, _, (y1, y2), t, [], ⟨tv1, st', S2, u6, rfl⟩, hdis, NS, .inr ⟨u2, rfl, u4, u5⟩⟩⟩
  · exact ⟨B, fd1, e', rfl, E2.disk, KK2, NF, R1, .inr ⟨u1, u4, (y1, y2), by rw [← u3]; exact hc⟩⟩

end Go.Proofs.YtgpbanjammipiaaGreatDoor
