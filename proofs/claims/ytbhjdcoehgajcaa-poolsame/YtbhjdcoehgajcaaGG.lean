/-
  Lemma texts, one behind the other: PKeys, PStarts, PInv, PInv2, PHeld, PRead, PWrite, PWrite2, PFlush, PNew, PDrop. No statement of the seat is proved here.
-/
import Derived.Test.YtbhjdcoehgajcaaGF
import Derived.Test.YtbhjdcoehgajcaaShelf6
import Derived.Sort.OwnSortedInts
namespace Go.Proofs.Ytbhjdcoehgajcaa.L.P
open Go.RowKit Go.Maps

set_option maxRecDepth 100000 in
theorem lits_str_inv {d : Nat} {v : Value} {l : List Lit} (h : Try.prog.keyLits (d + 1) 9 [v] = some l) : ∃ s : ByteArray, v = .string s ∧ s.size ≤ maxLen ∧ l = [.string s.data.toList] := by
  cases v <;> simp [Program.keyLits, Try.underlying9] at h
  rename_i s
  exact ⟨s, rfl, h.1, h.2.symm⟩
set_option maxRecDepth 100000 in
theorem lits_int_inv {d : Nat} {v : Value} {l : List Lit} (h : Try.prog.keyLits (d + 1) 3 [v] = some l) : ∃ n : Int, v = .int .i64 n ∧ (Lit.int .i64 n).wf = true ∧ l = [.int .i64 n] := by
  cases v <;> simp [Program.keyLits, Try.underlying3] at h
  rename_i k n
  obtain ⟨⟨rfl, h1⟩, h2⟩ := h
  exact ⟨n, rfl, h1, h2.symm⟩

set_option maxRecDepth 100000 in
theorem keyP_inv {v : Value} {kl : Lit} (h : keyOf Try.prog 54 v = some kl) : ∃ x : Place, v = encP x ∧ kl = litP x := by
  have h0 := h
  unfold keyOf at h
  simp only [Try.underlying54, Try.keyTypeP, Bool.true_and] at h
  split at h
  · rename_i hf
    obtain ⟨ls, hls, _⟩ := Option.map_eq_some_iff.1 h
    cases v <;> simp [Value.formed, Try.underlying54] at hf
    rename_i cs
    rw [Try.cellsP.1] at hf
    obtain ⟨c0, c1, rfl⟩ : ∃ c0 c1, cs = #[c0, c1] := by
      obtain ⟨l⟩ := cs
      match l, hf with
      | [c0, c1], _ => exact ⟨c0, c1, rfl⟩
    rw [Try.sizeP] at hls
    unfold Program.keyLits at hls
    simp [Try.underlying54, Try.cellsP, Value.cells] at hls
    obtain ⟨a, ha, b, hb, _⟩ : ∃ a, Try.prog.keyLits (173 + 1) 9 [c0] = some a ∧ ∃ b, Try.prog.keyLits (173 + 1) 3 [c1] = some b ∧ True := by
      cases ha : Try.prog.keyLits 174 9 [c0] with
      | none => rw [ha] at hls; cases hls
      | some a =>
        cases hb : Try.prog.keyLits 174 3 [c1] with
        | none => rw [ha, hb] at hls; cases hls
        | some b => exact ⟨a, rfl, b, rfl, trivial⟩
    obtain ⟨s, rfl, hs, _⟩ := lits_str_inv ha
    obtain ⟨n, rfl, hn, _⟩ := lits_int_inv hb
    have hmin : IntKind.i64.min = -9223372036854775808 := rfl
    have hmax : IntKind.i64.max = 9223372036854775807 := rfl
    simp only [Lit.wf, Bool.and_eq_true, decide_eq_true_eq] at hn
    refine ⟨⟨(s, n), hs, by simp only; omega, by simp only; omega⟩, rfl, ?_⟩
    have := keyP ⟨(s, n), hs, by simp only; omega, by simp only; omega⟩ trivial
    exact Option.some.inj (h0.symm.trans this)
  · cases h

/-- Which pages came, of those that are gone through. -/
def cameP (left : Lit → Bool) (gs : List Pg) : List Pg := gs.filter fun g => !left (litP g.key)

theorem came_none (gs : List Pg) (left : Lit → Bool) (h : ∀ g ∈ gs, left (litP g.key) = true) : cameP left gs = [] := List.filter_eq_nil_iff.2 fun g hg => by simp [h g hg]
theorem came_all (gs : List Pg) : cameP (fun _ => false) gs = gs := List.filter_eq_self.2 fun _ _ => rfl
theorem litP_same (a b : Place) : (litP a).sameKey (litP b) = decide (a = b) := by
  by_cases e : a = b
  · subst e
    simp [litP, Lit.sameKey]
  · rw [sameKey_ne (fun e2 => e (injP _ _ e2))]
    simp [e]

/-- One more came. -/
theorem came_step {a b : List Pg} {g : Pg} {left : Lit → Bool} (hnd : ((a ++ g :: b).map Pg.key).Nodup) (hl : left (litP g.key) = true) :
    (cameP (fun z => left z && !z.sameKey (litP g.key)) (a ++ g :: b)).Perm (g :: cameP left (a ++ g :: b)) := by
  rw [List.map_append, List.map_cons, List.nodup_append, List.nodup_cons] at hnd
  have hk : ∀ l : List Pg, (∀ x ∈ l, x.key ≠ g.key) → cameP (fun z => left z && !z.sameKey (litP g.key)) l = cameP left l := fun l hl2 => by
    refine List.filter_congr fun x hx => ?_
    simp [litP_same, hl2 x hx]
  have e1 := hk a (fun x hx e => hnd.2.2 _ (List.mem_map.2 ⟨x, hx, rfl⟩) _ (List.mem_cons_self ..) e)
  have e2 := hk b (fun x hx e => hnd.2.1.1 (List.mem_map.2 ⟨x, hx, e⟩))
  unfold cameP at e1 e2 ⊢
  rw [List.filter_append, List.filter_cons, List.filter_append, List.filter_cons, e1, e2]
  simp only [litP_same, hl]
  simp

section
variable {w w' : World} {fp : List Nat} {q d o : Nat} {fr : Int} {N : Nat} {l : List Ab} {s : Ds} {ord : List (Place × Nat)} {gs : List Pg}

set_option maxRecDepth 100000 in
set_option maxHeartbeats 1000000 in
theorem dirty_any (h : Pl w fp q d o fr N l s ord gs) (hlen : gs.length ≤ 1000000) : Calls Try.prog 18 #[.pointer (some ⟨q, 0, none⟩)] w fun e w' => e = .returned (.int .i64 (gs.filter Pg.dirty).length) ∧ Below w.heap.size w w' := by
  obtain ⟨fd, fo, bm, h1, h2, h3, rfl, a1, a2, a3⟩ := h
  obtain ⟨_, _, c2⟩ := h3.cellAt
  obtain ⟨D, hown, hD⟩ := h3.map
  have HF := hide (fun (W : World) (k : Kept [] w W) (g : Pg) (hg : g ∈ gs) => (PoolAt.pageAt (h3.kept k (by simp)) hg).2.1)
  have OW := hide hown
  have HD := hide hD
  have HN := hide h3.keys
  have HLN := hide hlen
  clear h1 h2 h3 hown hD a1 a2 a3 hlen
  go_enter Try.func18, Try.ntmps18
  go_wp2_with (first | (at_range; refine wpList_range_own _ rfl _ 55 rfl 54 61 keyedP Try.underlying55 ptrE bm gs.length D rfl OW.out ?_; intro w0 hrg0 hg0 hs0) | fail)
  have hk0 : Kept [] w w0 := Kept.of_grown hg0
  have HK0 := hide hk0
  have HR0 := hide hrg0
  clear hk0 hrg0 hg0 hs0
  go_frame
  go_loopw [3] (fun v3 wr => ∃ (left : Lit → Bool) (cnt m : Nat), v3 = .int .i64 m ∧ m ≤ gs.length ∧ Hid (wr.ranges Try.prog 54 ptrE bm w.heap.size gs.length D left cnt) ∧ Hid (m = ((cameP left gs).filter Pg.dirty).length) ∧ Hid (Kept [] w wr)) (fun _ wr => wr.rangeLeft bm w.heap.size)
  case atStart =>
    refine ⟨_, _, 0, rfl, Nat.zero_le _, HR0, ?_, HK0⟩
    show 0 = _
    rw [came_none]
    · rfl
    · intro g hg
      have e := HD.out.has g.key
      obtain ⟨a, b, hab⟩ := List.append_of_mem (List.mem_map.2 ⟨g, hg, rfl⟩ : g.fr ∈ gs.map Pg.fr)
      have hnd : ((gs.map Pg.fr).map Fr.key).Nodup := by rw [fr_key]; exact HN.out
      rw [hab] at e hnd
      rw [show g.key = g.fr.key from rfl, find_at hnd] at e
      exact e
  case round =>
    obtain ⟨left, cnt, m, rfl, hm, HR, HM, HK⟩ := hrel
    go_wp2_with (at_next; refine wpList_next_ranges _ rfl _ rfl 54 keyedP ptrE encP (fun c : Option Nat => Value.pointer (c.map fun b => ⟨b, 0, none⟩)) (fun key kl hk => by obtain ⟨x, rfl, _⟩ := keyP_inv hk; exact ⟨x, rfl⟩) ptrE_shape bm w.heap.size gs.length D left cnt rfl HR.out ?_ ?_)
    · intro hc0 hl0
      have HL0 := hide hl0
      clear hc0 hl0
      go_wp2
      go_ret
      have e : left = fun _ => false := funext HL0.out
      have e2 := HM.out
      rw [e, came_all] at e2
      subst e2
      exact ⟨rfl, HK.out.below (Nat.le_refl _) (by simp)⟩
    · intro xa xb xh c kl yd yp w2 cnt2 hkey hlk hv hat hrg2 hlt hg2 hs2 hen
      generalize (⟨(xa, xb), xh⟩ : Place) = x at hkey hlk hv hat hrg2 hlt hg2 hs2 hen ⊢
      clear xh xa xb
      obtain ⟨x', ex, rfl⟩ := keyP_inv hkey
      obtain rfl : x = x' := by
        obtain ⟨⟨a1, a2⟩, a3⟩ := x
        obtain ⟨⟨b1, b2⟩, b3⟩ := x'
        simp [encP] at ex
        obtain ⟨rfl, rfl⟩ := ex
        rfl
      have h1 := hat .nil
      have h2 := HD.out.at_ x
      rw [show D.atKey (litP x) .nil = yd from h1] at h2
      have h3 := HD.out.has x
      rw [has_true_of_atKey (k := litP x) hat] at h3
      obtain ⟨e, he⟩ := Option.isSome_iff_exists.1 h3.symm
      rw [he] at h2
      obtain ⟨hmem, hek⟩ := find_some he
      obtain ⟨g, hgm, rfl⟩ := List.mem_map.1 hmem
      obtain rfl : g.key = x := hek
      simp only at h2
      subst h2
      have hc := ptrE_inv hv
      obtain rfl : c = some g.blk := by
        cases c with
        | none => simp at hc
        | some b => simpa [Pg.fr] using hc
      have hk2 : Kept [] w w2 := HK.out.trans (Kept.of_grown hg2) (fun z hz => by simp at hz; subst hz; exact .inr (Nat.le_refl _))
      have f1 := HF.out w2 hk2 g hgm
      have HK2 := hide hk2
      have HR2 := hide hrg2
      have HLT : Hid (w2.rangeLeft bm w.heap.size < wr.rangeLeft bm w.heap.size) := by rw [hrg2.left_eq, HR.out.left_eq]; exact hlt
      obtain ⟨a, b, hab⟩ := List.append_of_mem hgm
      have PS := hide (by have := came_step (left := left) (a := a) (b := b) (g := g) (by rw [← hab]; exact HN.out) hlk; rw [← hab] at this; exact this : (cameP (fun z => left z && !z.sameKey (litP g.key)) gs).Perm (g :: cameP left gs))
      simp only [Option.map_some] at hen ⊢
      clear h1 h3 he hmem hc hk2 hrg2 hlt hkey hlk hv hat hg2 hs2 HR hab ex
      have HM2 : Hid (((cameP (fun z => left z && !z.sameKey (litP g.key)) gs).filter Pg.dirty).length = (if g.dirty then m + 1 else m)) := by
        show _ = _
        rw [(PS.out.filter Pg.dirty).length_eq, List.filter_cons, HM.out]
        split <;> simp
      have HB := hide (Nat.le_trans (List.length_filter_le Pg.dirty (cameP (fun z => left z && !z.sameKey (litP g.key)) gs)) (List.length_filter_le _ gs))
      have hlen := HLN.out
      obtain ⟨gb, hgb⟩ : ∃ gb, gb = g.blk := ⟨_, rfl⟩
      obtain ⟨dt, hdt⟩ : ∃ dt, dt = g.dirty := ⟨_, rfl⟩
      rw [← hgb, ← hdt] at f1
      rw [← hgb] at hen
      rw [← hdt] at HM2
      clear hgb hdt
      cases dt with
      | true =>
        have hm2 : m + 1 ≤ gs.length := by have := HB.out; rw [HM2.out] at this; simpa using this
        go_wp2
        go_roundw
        case rel => exact ⟨_, cnt2, m + 1, by go_num, hm2, HR2, HM2.out.symm, HK2⟩
        case measure => exact HLT.out
      | false =>
        go_wp2
        go_roundw
        case rel => exact ⟨_, cnt2, m, rfl, hm, HR2, HM2.out.symm, HK2⟩
        case measure => exact HLT.out

end
end Go.Proofs.Ytbhjdcoehgajcaa.L.P

namespace Go.Proofs.Ytbhjdcoehgajcaa.L.P
open Go.RowKit Go.Maps Go.Sort Go.Shelf

theorem Try.infoI : (Try.prog.info? 3).map (fun i => (i.zero, i.size, i.bytes)) = some (some (.int .i64 0), 1, 8) := by kernel_rfl

theorem ownsRow_form {w : World} {B n : Nat} {t : TypeId} {v : Value} {xs : List Value} (h : w.ownsRow B t 1 v n xs) (hn : 0 < n) : ∃ g cap, v = .slice (some ⟨g, 0, none⟩) n cap := by
  rcases h.2 with ⟨_, h0⟩ | ⟨g, cap, cur, e, _⟩
  · omega
  · exact ⟨g, cap, e⟩

section
variable {ops : Array Oper} {rest : List Oper} {o : Oper} {a : Act} {Q : Exit → Act → World → Prop}

/-- 'l = append(l, n)', l of the call's own. -/
theorem wp_pushI (w : World) (n0 : Nat) (hn0 : n0 = w.heap.size) (hgd : o.guard = none) (s x : Operand) (ho : o.op = .call { callee := .builtin .append, args := #[s, x], argTypes := #[42, 42] })
    (B : Nat) (v : Value) (n : Nat) (xs : List Value) (z : Int) (hs : a.eval s = v) (hown : w.ownsRow B 3 1 v n xs) (hx : a.eval x = .slice (some ⟨n0, 0, none⟩) 1 1) (hlen : n + 1 ≤ 1000000) (hB : B ≤ w.heap.size)
    (h : ∀ g cap w', w'.ownsRow B 3 1 (.slice (some ⟨g, 0, none⟩) (n + 1) cap) (n + 1) (xs ++ [.int .i64 z]) → Below B w w' → wpList Try.prog ops Q rest (a.put o.dst (.slice (some ⟨g, 0, none⟩) (n + 1) cap)) w') :
    wpList Try.prog ops Q (o :: rest) a (w.alloc (.cells #[.int .i64 z] 3)) := by
  subst hn0
  obtain ⟨i0, hi, hz0, hz1, hz2⟩ := info_parts Try.infoI
  refine wpList_append_own _ hgd s x 42 ho B 3 i0 _ 1 _ Try.underlying42 hi hz0 hz1 hz2 rfl (by decide) _ n _ hs (hown.alloc _) ⟨w.heap.size, 0, none⟩ 1 1 [.int .i64 z] hx rfl (cell_one_new _ _ _) (by simp [Value.oneCell']) (by unfold maxLen; omega) (by omega) (by simp; omega) ?_
  intro v' w' hown' hgrow _
  obtain ⟨g', cap', rfl⟩ := ownsRow_form hown' (Nat.succ_pos _)
  exact h g' cap' w' hown' (((Below.refl _ _).alloc hB _).grown hgrow (by simp; omega) (fun k hk => (hown.lt k hk).1))

end

/-- slices.Sort of a row of one's own. -/
theorem sortI_any {w : World} {B : Nat} {v : Value} {zs : List Int} (h : w.ownsRow B 3 1 v zs.length (zs.map (Value.int .i64))) (hl : zs.length ≤ 1000000) (hB : B ≤ w.heap.size) :
    Calls Try.prog 47 #[v] w fun e w' => e = .returned (.tuple #[]) ∧ w'.ownsRow B 3 1 v zs.length ((zs.mergeSort fun x y => decide (x ≤ y)).map (Value.int .i64)) ∧ Below B w w' := by
  by_cases h0 : zs.length = 0
  · have e : zs = [] := List.eq_nil_of_length_eq_zero h0
    subst e
    obtain ⟨a, c, rfl⟩ : ∃ a c, v = .slice a 0 c := by
      rcases h.2 with ⟨e, _⟩ | ⟨g, cap, cur, e, _⟩
      · exact ⟨none, 0, e⟩
      · exact ⟨_, cap, e⟩
    refine (AnyM.slices_Sort_int_none Try.sortI a c w).mono ?_
    rintro e w' ⟨rfl, rfl⟩
    exact ⟨rfl, by simpa using h, Below.refl _ _⟩
  · rcases h.2 with ⟨_, e⟩ | ⟨g, cap, cur, rfl, hb, hgg, h1, h2, h3, h4⟩
    · exact absurd e h0
    have hH : Holds (Value.int .i64) w g 0 zs.toArray := by
      intro j hj
      have hj2 : j < zs.length := by simpa using hj
      have := World.ownsRow.cells h (g := g) rfl j (.int .i64 zs[j]) (by simp [hj2])
      rw [Addr.add_lit] at this
      refine ⟨?_, frozen_of_heap hgg _⟩
      rw [this]
      simp [hj2]
    refine (AnyM.slices_Sort_int Try.sortI g 0 cap zs w hH (Array.getElem?_eq_some_iff.1 hgg).1 (by omega)).mono ?_
    rintro e w' ⟨rfl, n, os, rfl⟩
    refine ⟨rfl, ownsRow_sortedI (by simp) hb hgg h1 h2 h3, ?_⟩
    exact (Below.refl B w).grown (grownBy_sortedI _) hB (fun j hj => by cases hj; exact hb)

theorem ranges_below {w w' : World} {B bm r n : Nat} {D : DataW Unit} {left : Lit → Bool} {cnt : Nat} (h : w.ranges Try.prog 54 ptrE bm r n D left cnt) (hb : Below B w w') (h1 : bm < B) (h2 : r < B) : w'.ranges Try.prog 54 ptrE bm r n D left cnt := by
  obtain ⟨es, clock, since, seen, c0, hb0, F, hs, hD, hr, rest⟩ := h
  exact ⟨es, clock, since, seen, c0, (hb.block bm h1).trans hb0, F, hs, hD, (hb.block r h2).trans hr, rest⟩

section
variable {w w' : World} {fp : List Nat} {q d o : Nat} {fr : Int} {N : Nat} {l : List Ab} {s : Ds} {ord : List (Place × Nat)} {gs : List Pg}

/-- Where pages of a file begin. -/
def startsOf (nm : ByteArray) (gs : List Pg) : List Int := (gs.filter fun g => decide (g.key.1.1 = nm)).map fun g => g.key.1.2
theorem startsOf_perm {nm : ByteArray} {a b : List Pg} (h : a.Perm b) : (startsOf nm a).Perm (startsOf nm b) := (h.filter _).map _
theorem startsOf_len (nm : ByteArray) (gs : List Pg) : (startsOf nm gs).length ≤ gs.length := by unfold startsOf; rw [List.length_map]; exact List.length_filter_le _ _
theorem str_neq {a b : ByteArray} (h : ¬ a = b) : (a.toList == b.toList) = false := by
  rw [beq_eq_false_iff_ne]
  intro e
  rw [ByteArray.toList_eq, ByteArray.toList_eq] at e
  apply h
  cases a
  cases b
  simp at e
  rw [e]

set_option maxRecDepth 100000 in
set_option maxHeartbeats 1000000 in
theorem starts_any (h : Pl w fp q d o fr N l s ord gs) (hlen : gs.length ≤ 100000) (nm : ByteArray) : Calls Try.prog 32 #[.pointer (some ⟨q, 0, none⟩), .string nm] w fun e w' => ∃ (v : Value) (zs : List Int), e = .returned v ∧ w'.ownsRow w.heap.size 3 1 v zs.length (zs.map (Value.int .i64)) ∧ zs.Pairwise (· ≤ ·) ∧ zs.Perm (startsOf nm gs) ∧ Below w.heap.size w w' := by
  obtain ⟨fd, fo, bm, h1, h2, h3, rfl, a1, a2, a3⟩ := h
  obtain ⟨_, _, c2⟩ := h3.cellAt
  obtain ⟨D, hown, hD⟩ := h3.map
  have OW := hide hown
  have HBW := hide hown.lt
  have HD := hide hD
  have HN := hide h3.keys
  have HLN := hide hlen
  clear h1 h2 h3 hown hD a1 a2 a3 hlen
  go_enter Try.func32, Try.ntmps32
  go_wp2_with (first | (at_range; refine wpList_range_own _ rfl _ 55 rfl 54 61 keyedP Try.underlying55 ptrE bm gs.length D rfl OW.out ?_; intro w0 hrg0 hg0 hs0) | fail)
  have hk0 : Kept [] w w0 := Kept.of_grown hg0
  have HK0 := hide (hk0.below (Nat.le_refl _) (by simp))
  have HR0 := hide hrg0
  have HS0 : Hid (w.heap.size + 1 ≤ w0.heap.size) := hrg0.lt
  clear hk0 hrg0 hg0 hs0
  go_frame
  go_loopw [5] (fun v5 wr => ∃ (left : Lit → Bool) (cnt : Nat) (zs : List Int), Hid (wr.ranges Try.prog 54 ptrE bm w.heap.size gs.length D left cnt) ∧ Hid (wr.ownsRow (w.heap.size + 1) 3 1 v5 zs.length (zs.map (Value.int .i64))) ∧ Hid (zs.Perm (startsOf nm (cameP left gs))) ∧ Hid (Below w.heap.size w wr) ∧ Hid (w.heap.size + 1 ≤ wr.heap.size)) (fun _ wr => wr.rangeLeft bm w.heap.size)
  case atStart =>
    refine ⟨_, _, [], HR0, World.ownsRow_nil _ _ _ _, ?_, HK0, HS0⟩
    show List.Perm [] _
    rw [came_none]
    · exact List.Perm.refl _
    · intro g hg
      have e := HD.out.has g.key
      obtain ⟨a, b, hab⟩ := List.append_of_mem (List.mem_map.2 ⟨g, hg, rfl⟩ : g.fr ∈ gs.map Pg.fr)
      have hnd : ((gs.map Pg.fr).map Fr.key).Nodup := by rw [fr_key]; exact HN.out
      rw [hab] at e hnd
      rw [show g.key = g.fr.key from rfl, find_at hnd] at e
      exact e
  case round =>
    obtain ⟨left, cnt, zs, HR, HO, HM, HK, HS⟩ := hrel
    have HZ : Hid (zs.length ≤ 100000) := by
      show _ ≤ _
      rw [HM.out.length_eq]
      exact Nat.le_trans (startsOf_len _ _) (Nat.le_trans (List.length_filter_le _ _) HLN.out)
    go_wp2_with (at_next; refine wpList_next_ranges _ rfl _ rfl 54 keyedP ptrE encP (fun c : Option Nat => Value.pointer (c.map fun b => ⟨b, 0, none⟩)) (fun key kl hk => by obtain ⟨x, rfl, _⟩ := keyP_inv hk; exact ⟨x, rfl⟩) ptrE_shape bm w.heap.size gs.length D left cnt rfl HR.out ?_ ?_)
    · intro hc0 hl0
      have HL0 := hide hl0
      clear hc0 hl0
      have ST := hide (sortI_any HO.out (Nat.le_trans HZ.out (by omega)) HS.out)
      go_wp2_with (go_at_call 47; refine ST.out.mono ?_; rintro e w5 ⟨rfl, o5, b5⟩; have O5 := hide o5; have B5 := hide b5; clear o5 b5)
      go_ret
      have e : left = fun _ => false := funext HL0.out
      have e2 := HM.out
      rw [e, came_all] at e2
      have hsz := HS.out
      refine ⟨_, zs.mergeSort fun x y => decide (x ≤ y), rfl, ?_, ?_, (List.mergeSort_perm _ _).trans e2, HK.out.trans (B5.out.mono (by omega))⟩
      · have o := O5.out
        rw [List.length_mergeSort]
        exact ⟨o.1, o.2.imp id (fun ⟨g, c, cur, h1, h2, h3⟩ => ⟨g, c, cur, h1, by omega, h3⟩)⟩
      · exact (List.pairwise_mergeSort (le := fun x y => decide (x ≤ y)) (fun a b c h1 h2 => by simp only [decide_eq_true_eq] at *; omega) (fun a b => by simp only [Bool.or_eq_true, decide_eq_true_eq]; omega) zs).imp (fun h => by simpa using h)
    · intro xa xb xh c kl yd yp w2 cnt2 hkey hlk hv hat hrg2 hlt hg2 hs2 hen
      generalize (⟨(xa, xb), xh⟩ : Place) = x at hkey hlk hv hat hrg2 hlt hg2 hs2 hen ⊢
      clear xh xa xb
      obtain ⟨x', ex, rfl⟩ := keyP_inv hkey
      obtain rfl : x = x' := by
        obtain ⟨⟨a1, a2⟩, a3⟩ := x
        obtain ⟨⟨b1, b2⟩, b3⟩ := x'
        simp [encP] at ex
        obtain ⟨rfl, rfl⟩ := ex
        rfl
      have h3 := HD.out.has x
      rw [has_true_of_atKey (k := litP x) hat] at h3
      obtain ⟨e, he⟩ := Option.isSome_iff_exists.1 h3.symm
      obtain ⟨hmem, hek⟩ := find_some he
      obtain ⟨g, hgm, rfl⟩ := List.mem_map.1 hmem
      obtain rfl : g.key = x := hek
      have hk2 : Below w.heap.size w w2 := HK.out.trans ((Kept.of_grown hg2).below (Nat.le_trans (Nat.le_succ _) HS.out) (fun z hz => by simp at hz; subst hz; exact Nat.le_refl _))
      have HO2 := hide (ownsRow_kept HO.out (Kept.of_grown hg2) (fun z hz e => by
        have := (World.ownsRow.lt HO.out z (by simpa [own] using hz)).1
        simp at e
        omega))
      have HK2 := hide hk2
      have HR2 := hide hrg2
      have HS2 : Hid (w.heap.size + 1 ≤ w2.heap.size) := by show _ ≤ _; rw [hs2]; exact HS.out
      have HLT : Hid (w2.rangeLeft bm w.heap.size < wr.rangeLeft bm w.heap.size) := by rw [hrg2.left_eq, HR.out.left_eq]; exact hlt
      obtain ⟨a, b, hab⟩ := List.append_of_mem hgm
      have PS := hide (by have := came_step (left := left) (a := a) (b := b) (g := g) (by rw [← hab]; exact HN.out) hlk; rw [← hab] at this; exact this : (cameP (fun z => left z && !z.sameKey (litP g.key)) gs).Perm (g :: cameP left gs))
      have HM2 : Hid ((startsOf nm (cameP (fun z => left z && !z.sameKey (litP g.key)) gs)).Perm (if g.key.1.1 = nm then g.key.1.2 :: startsOf nm (cameP left gs) else startsOf nm (cameP left gs))) := by
        refine (startsOf_perm PS.out).trans ?_
        unfold startsOf
        rw [List.filter_cons]
        by_cases hq : g.key.1.1 = nm
        · simp [hq]
        · simp [hq]
      have HBM := hide HR.out.owns.lt
      clear h3 he hmem hk2 hrg2 hlt hkey hlk hv hat hg2 HR hab ex hgm hs2
      obtain ⟨k, hk⟩ : ∃ k, k = g.key := ⟨_, rfl⟩
      rw [← hk] at hen HM2 HR2
      clear hk
      have hlen := HZ.out
      have hb3 : Below (w.heap.size + 1) w2 (w2.alloc (.cells #[.string k.1.1, .int .i64 k.1.2] 54)) := (Below.refl _ w2).alloc HS2.out _
      have HB3 := hide hb3
      have HO3 := hide (HO2.out.alloc (.cells #[.string k.1.1, .int .i64 k.1.2] 54))
      have HW3 : Hid (w.heap.size + 1 ≤ (w2.alloc (.cells #[.string k.1.1, .int .i64 k.1.2] 54)).heap.size) := Nat.le_trans HS2.out hb3.size
      clear hb3
      by_cases hq : k.1.1 = nm
      · subst hq
        have HM3 := hide HM2.out
        rw [if_pos rfl] at HM3
        go_wp2_with (refine wp_pushI _ (w2.heap.size + 1) (by simp) rfl (.tmp 20) (.tmp 23) rfl (w.heap.size + 1) _ zs.length (zs.map (Value.int .i64)) k.1.2 rfl HO3.out rfl (by have := HZ.out; omega) HW3.out ?_; intro g4 cap4 w4 o4 b4; have O4 := hide o4; have B4 := hide b4; clear o4 b4)
        go_roundw
        case rel =>
          have b5 := HB3.out.trans B4.out
          have hlb : bm < w.heap.size := HBW.out
          have r := ranges_below HR2.out b5 (by omega) (by omega)
          refine ⟨_, cnt2, zs ++ [k.1.2], r, ?_, ?_, HK2.out.trans (b5.mono (by omega)), Nat.le_trans HW3.out B4.out.size⟩
          · have o := O4.out
            rw [List.length_append, List.map_append]
            exact o
          · exact (List.perm_append_singleton _ _).trans ((List.Perm.cons _ HM.out).trans HM3.out.symm)
        case measure =>
          have b5 := HB3.out.trans B4.out
          have hlb : bm < w.heap.size := HBW.out
          rw [(ranges_below HR2.out b5 (by omega) (by omega)).left_eq, ← HR2.out.left_eq]
          exact HLT.out
      · have hqn := str_neq hq
        have HM3 := hide HM2.out
        rw [if_neg hq] at HM3
        go_wp2
        go_roundw
        case rel =>
          have hlb : bm < w.heap.size := HBW.out
          exact ⟨_, cnt2, zs, ranges_below HR2.out HB3.out (by omega) (by omega), HO3, HM.out.trans HM3.out.symm, HK2.out.trans (HB3.out.mono (by omega)), HW3⟩
        case measure =>
          have hlb : bm < w.heap.size := HBW.out
          rw [(ranges_below HR2.out HB3.out (by omega) (by omega)).left_eq, ← HR2.out.left_eq]
          exact HLT.out

end
end Go.Proofs.Ytbhjdcoehgajcaa.L.P

namespace Go.Proofs.Ytbhjdcoehgajcaa.L.P
open Go.RowKit Go.Maps

/-- A page's bytes of a file. -/
def seg (c : List Int) (j : Nat) : List Int := (c.drop (64 * j)).take 64

theorem seg_len (c : List Int) (j : Nat) : (seg c j).length = min 64 (c.length - 64 * j) := by simp [seg]

/-- C tells what each file has by the pool. -/
structure PInv (C : List UInt8 → Option (List Int)) (fr : Int) (l : List Ab) (s : Ds) (ord : List (Place × Nat)) (gs : List Pg) : Prop where
  up : s.down = false
  left : s.left = 0
  page : ∀ g ∈ gs, ∃ c j, C g.key.1.1.data.toList = some c ∧ g.key.1.2 = ((64 * j : Nat) : Int) ∧ 64 * j < c.length ∧ g.bs = seg c j
  file : ∀ nm x, DLook l nm = some x → ∃ c, C nm = some c ∧ c.length = x.2.1.length ∧ ∀ j, (∀ g ∈ gs, g.dirty = true → ¬ (g.key.1.1.data.toList = nm ∧ g.key.1.2 = ((64 * j : Nat) : Int))) → seg x.2.1 j = seg c j
  has : ∀ nm c, C nm = some c → (∃ x, DLook l nm = some x) ∧ c.length ≤ 100000
  pins : ∀ y ∈ ord, y.2 = 0
  keys : ∀ k, (∃ y ∈ ord, y.1 = k) ↔ ∃ g ∈ gs, g.key = k
  len : (ord.length : Int) ≤ fr
  one : 1 ≤ fr

section
variable {C : List UInt8 → Option (List Int)} {fr : Int} {l : List Ab} {s : Ds} {ord : List (Place × Nat)} {gs : List Pg}

theorem begin_eq (h : s.left = 0) : beginA l s = (l, { s with ops := s.ops + 1 }) := by unfold beginA; rw [if_pos h]

theorem err_none {nm : List UInt8} {x : Ab} (hd : s.down = false) (hx : DLook l nm = some x) : errA (l, s) nm = none := by
  unfold errA
  rw [if_neg (by simp [hd])]
  have hx2 : Go.Proofs.Ytbhjdcoehgajcaa.lookA l nm = some x := hx
  dsimp only
  rw [hx2]

theorem PInv.begins (h : PInv C fr l s ord gs) : PInv C fr l { s with ops := s.ops + 1 } ord gs := ⟨h.up, h.left, h.page, h.file, h.has, h.pins, h.keys, h.len, h.one⟩

/-- The frames when no page has to go. -/
theorem L.look_none {k : Place} (h : ∀ y ∈ ord, y.1 ≠ k) : lookA ord k = none := by
  unfold lookA
  rw [Option.map_eq_none_iff, List.find?_eq_none]
  intro y hy
  simpa using h y hy

theorem L.look_some {k : Place} (h : ∃ y ∈ ord, y.1 = k) (hp : ∀ y ∈ ord, y.2 = 0) : lookA ord k = some 0 := by
  unfold lookA
  cases hf : ord.find? (fun x => decide (x.1 = k)) with
  | none =>
    obtain ⟨y, hy, e⟩ := h
    have := List.find?_eq_none.1 hf y hy
    simp [e] at this
  | some y => simp [hp y (List.mem_of_find?_eq_some hf)]

theorem first_ne (hp : ∀ y ∈ ord, y.2 = 0) (hl : 1 ≤ (ord.length : Int)) : ∃ y r, ord = y :: r ∧ firstA ord = some y.1 := by
  cases ord with
  | nil => simp at hl
  | cons y r =>
    refine ⟨y, r, rfl, ?_⟩
    unfold firstA
    rw [List.find?_cons, decide_eq_true (hp y (by simp))]
    rfl

theorem delA_mem {k : Place} {y : Place × Nat} : y ∈ delA ord k ↔ y ∈ ord ∧ y.1 ≠ k := by
  unfold delA
  rw [List.mem_filter]
  simp

theorem delA_short {k : Place} (h : ∃ y ∈ ord, y.1 = k) : (delA ord k).length + 1 ≤ ord.length := by
  obtain ⟨y, hy, rfl⟩ := h
  obtain ⟨a, b, rfl⟩ := List.append_of_mem hy
  unfold delA
  rw [List.filter_append, List.filter_cons]
  simp
  have h1 := List.length_filter_le (fun x : Place × Nat => !decide (x.1 = y.1)) a
  have h2 := List.length_filter_le (fun x : Place × Nat => !decide (x.1 = y.1)) b
  omega

/-- A page that is held is used. -/
theorem PInv.used (h : PInv C fr l s ord gs) {k : Place} (hk : ∃ g ∈ gs, g.key = k) : useA fr ord k = (none, 0, delA ord k ++ [(k, 0)]) ∧ PInv C fr l s (delA ord k ++ [(k, 0)]) gs := by
  have ho := (h.keys k).2 hk
  refine ⟨by unfold useA; rw [L.look_some ho h.pins], h.up, h.left, h.page, h.file, h.has, fun y hy => ?_, fun k2 => ?_, ?_, h.one⟩
  · rcases List.mem_append.1 hy with hy | hy
    · exact h.pins y (delA_mem.1 hy).1
    · simp at hy
      rw [hy]
  · rw [← h.keys k2]
    constructor
    · rintro ⟨y, hy, rfl⟩
      rcases List.mem_append.1 hy with hy | hy
      · exact ⟨y, (delA_mem.1 hy).1, rfl⟩
      · simp at hy
        rw [hy]
        exact ho
    · rintro ⟨y, hy, rfl⟩
      by_cases e : y.1 = k
      · exact ⟨(k, 0), by simp, e.symm⟩
      · exact ⟨y, List.mem_append.2 (.inl (delA_mem.2 ⟨hy, e⟩)), rfl⟩
  · have := delA_short ho
    have := h.len
    simp
    omega

/-- The bytes that a page is read as. -/
theorem PInv.bytes (h : PInv C fr l s ord gs) {k : Place} {c : List Int} {j : Nat} (hc : C k.1.1.data.toList = some c) (hj : k.1.2 = ((64 * j : Nat) : Int)) (hno : ∀ g ∈ gs, g.key ≠ k) :
    ∃ x, DLook l k.1.1.data.toList = some x ∧ x.2.1.length = c.length ∧ (x.2.1.drop (64 * j)).take (min 64 (c.length - 64 * j)) = seg c j := by
  obtain ⟨⟨x, hx⟩, _⟩ := h.has _ _ hc
  obtain ⟨c2, hc2, hl, hs⟩ := h.file _ _ hx
  rw [hc] at hc2
  cases hc2
  have := hs j (fun g hg _ e => hno g hg (by
    apply Subtype.ext
    apply Prod.ext
    · obtain ⟨e1, _⟩ := e
      cases hb : g.key.1.1
      cases hb2 : k.1.1
      rw [hb, hb2] at e1
      simp at e1
      rw [e1]
    · rw [e.2, hj]))
  refine ⟨x, hx, hl.symm, ?_⟩
  rw [← this]
  unfold seg
  have e : (x.2.1.drop (64 * j)).length = c.length - 64 * j := by rw [List.length_drop, hl]
  by_cases h6 : c.length - 64 * j ≤ 64
  · rw [Nat.min_eq_right h6, List.take_of_length_le (by omega), List.take_of_length_le (by omega)]
  · rw [Nat.min_eq_left (by omega)]

/-- A page read, and laid in. -/
theorem PInv.snoc (h : PInv C fr l s ord gs) {g : Pg} {c : List Int} {j : Nat} (hc : C g.key.1.1.data.toList = some c) (hj : g.key.1.2 = ((64 * j : Nat) : Int)) (hlt : 64 * j < c.length) (hb : g.bs = seg c j) (hd : g.dirty = false) (hl : (ord.length : Int) < fr) : PInv C fr l s (ord ++ [(g.key, 0)]) (gs ++ [g]) := by
  refine ⟨h.up, h.left, fun x hx => ?_, fun nm x hx => ?_, h.has, fun y hy => ?_, fun k => ?_, by simp; omega, h.one⟩
  · rcases List.mem_append.1 hx with hx | hx
    · exact h.page x hx
    · simp at hx
      subst hx
      exact ⟨c, j, hc, hj, hlt, hb⟩
  · obtain ⟨c2, e1, e2, e3⟩ := h.file nm x hx
    refine ⟨c2, e1, e2, fun i hi => e3 i (fun y hy hyd => hi y (by simp [hy]) hyd)⟩
  · rcases List.mem_append.1 hy with hy | hy
    · exact h.pins y hy
    · simp at hy
      rw [hy]
  · constructor
    · rintro ⟨y, hy, rfl⟩
      rcases List.mem_append.1 hy with hy | hy
      · obtain ⟨x, hx, e⟩ := (h.keys y.1).1 ⟨y, hy, rfl⟩
        exact ⟨x, by simp [hx], e⟩
      · simp at hy
        exact ⟨g, by simp, by rw [hy]⟩
    · rintro ⟨x, hx, rfl⟩
      rcases List.mem_append.1 hx with hx | hx
      · obtain ⟨y, hy, e⟩ := (h.keys x.key).2 ⟨x, hx, rfl⟩
        exact ⟨y, by simp [hy], e⟩
      · simp at hx
        exact ⟨(g.key, 0), by simp, by rw [hx]⟩

/-- A page that is not dirty gone. -/
theorem PInv.gone {a b : List Pg} {g : Pg} (h : PInv C fr l s ord (a ++ g :: b)) (hnd : ((a ++ g :: b).map Pg.key).Nodup) (hd : g.dirty = false) : PInv C fr l s (delA ord g.key) (a ++ b) := by
  have hmem : ∀ x ∈ a ++ b, x ∈ a ++ g :: b ∧ x.key ≠ g.key := fun x hx => by
    rw [List.map_append, List.map_cons, List.nodup_append, List.nodup_cons] at hnd
    rcases List.mem_append.1 hx with hx | hx
    · exact ⟨by simp [hx], fun e => hnd.2.2 _ (List.mem_map.2 ⟨x, hx, rfl⟩) _ (List.mem_cons_self ..) e⟩
    · exact ⟨by simp [hx], fun e => hnd.2.1.1 (List.mem_map.2 ⟨x, hx, e⟩)⟩
  have hs := delA_short ((h.keys g.key).2 ⟨g, by simp, rfl⟩)
  refine ⟨h.up, h.left, fun x hx => h.page x (hmem x hx).1, fun nm x hx => ?_, h.has, fun y hy => h.pins y (delA_mem.1 hy).1, fun k => ?_, by have := h.len; omega, h.one⟩
  · obtain ⟨c2, e1, e2, e3⟩ := h.file nm x hx
    refine ⟨c2, e1, e2, fun i hi => e3 i (fun y hy hyd => ?_)⟩
    rcases List.mem_append.1 hy with hy | hy
    · exact hi y (by simp [hy]) hyd
    · rcases List.mem_cons.1 hy with rfl | hy
      · rw [hd] at hyd; cases hyd
      · exact hi y (by simp [hy]) hyd
  · constructor
    · rintro ⟨y, hy, rfl⟩
      obtain ⟨h1, h2⟩ := delA_mem.1 hy
      obtain ⟨x, hx, e⟩ := (h.keys y.1).1 ⟨y, h1, rfl⟩
      refine ⟨x, ?_, e⟩
      rcases List.mem_append.1 hx with hx | hx
      · simp [hx]
      · rcases List.mem_cons.1 hx with rfl | hx
        · exact absurd e.symm h2
        · simp [hx]
    · rintro ⟨x, hx, rfl⟩
      obtain ⟨h1, h2⟩ := hmem x hx
      obtain ⟨y, hy, e⟩ := (h.keys x.key).2 ⟨x, h1, rfl⟩
      exact ⟨y, delA_mem.2 ⟨hy, by rw [e]; exact h2⟩, e⟩

end
end Go.Proofs.Ytbhjdcoehgajcaa.L.P

namespace Go.Proofs.Ytbhjdcoehgajcaa.L.P
open Go.RowKit Go.Maps

abbrev DSet := @Go.Proofs.Ytbhjdcoehgajcaa.setA

theorem putA_get {now cs : List Int} {a : Nat} (ha : a ≤ now.length) (i : Nat) : (putA now a cs)[i]? = if i < a then now[i]? else if i < a + cs.length then cs[i - a]? else now[i]? := by
  unfold putA
  have e : (now.take a).length = a := by simp; omega
  rw [List.getElem?_append]
  rw [e]
  split
  · rw [List.getElem?_take_of_lt (by assumption)]
  · rw [List.getElem?_append]
    by_cases h2 : i < a + cs.length
    · rw [if_pos (by omega), if_pos h2]
    · rw [if_neg (by omega), if_neg h2, List.getElem?_drop]
      congr 1
      omega

theorem seg_get (c : List Int) (j i : Nat) : (seg c j)[i]? = if i < 64 then c[64 * j + i]? else none := by
  unfold seg
  split
  · rw [List.getElem?_take_of_lt (by assumption), List.getElem?_drop]
  · rw [List.getElem?_eq_none]
    simp
    omega

theorem seg_put_same {now c : List Int} {j : Nat} (hl : now.length = c.length) (hj : 64 * j < c.length) : seg (putA now (64 * j) (seg c j)) j = seg c j := by
  apply List.ext_getElem?
  intro i
  rw [seg_get]
  by_cases h : i < 64
  · rw [if_pos h, putA_get (by omega), if_neg (by omega)]
    by_cases h2 : 64 * j + i < 64 * j + (seg c j).length
    · rw [if_pos h2]
      congr 1
      omega
    · rw [if_neg h2]
      rw [seg_len] at h2
      rw [List.getElem?_eq_none (by omega), List.getElem?_eq_none (by rw [seg_len]; omega)]
  · rw [if_neg h, List.getElem?_eq_none (by rw [seg_len]; omega)]

theorem seg_put_other {now c : List Int} {j k : Nat} (hl : now.length = c.length) (hj : 64 * j < c.length) (hk : k ≠ j) : seg (putA now (64 * j) (seg c j)) k = seg now k := by
  apply List.ext_getElem?
  intro i
  rw [seg_get, seg_get]
  by_cases h : i < 64
  · rw [if_pos h, if_pos h, putA_get (by omega)]
    split
    · rfl
    · rw [if_neg]
      rw [seg_len]
      omega
  · rw [if_neg h, if_neg h]

theorem put_len {now c : List Int} {j : Nat} (hl : now.length = c.length) (hj : 64 * j < c.length) : (putA now (64 * j) (seg c j)).length = now.length := by
  rw [putA_length _ _ _ (by omega), seg_len]
  omega

theorem look_set {l : List Ab} {x0 y : Ab} {nm0 : List UInt8} (hx : DLook l nm0 = some x0) (hy : y.1 = nm0) (nm : List UInt8) : DLook (DSet l y) nm = if nm = nm0 then some y else DLook l nm := by
  have hx0 : x0.1 = nm0 := (Go.Proofs.Ytbhjdcoehgajcaa.lookA_mem hx).2
  show (l.map fun z => if z.1 == y.1 then y else z).find? (fun x => x.1 == nm) = _
  rw [List.find?_map]
  have e : ((fun x : Ab => x.1 == nm) ∘ fun z : Ab => if z.1 == y.1 then y else z) = fun z : Ab => z.1 == nm := by
    funext z
    simp only [Function.comp]
    split
    · rename_i h
      have : z.1 = y.1 := by simpa using h
      rw [this]
    · rfl
  rw [e]
  by_cases h : nm = nm0
  · subst h
    rw [if_pos rfl]
    rw [show l.find? (fun z : Ab => z.1 == nm) = some x0 from hx]
    simp [hx0, hy]
  · rw [if_neg h]
    show (DLook l nm).map _ = DLook l nm
    cases hz : DLook l nm with
    | none => rfl
    | some z =>
      have hz1 : z.1 = nm := (Go.Proofs.Ytbhjdcoehgajcaa.lookA_mem hz).2
      simp only [Option.map_some]
      rw [if_neg]
      simp only [beq_iff_eq, hz1, hy]
      exact h

section
variable {C : List UInt8 → Option (List Int)} {fr : Int} {l : List Ab} {s : Ds} {ord : List (Place × Nat)}

theorem write_eq {nm : List UInt8} {x : Ab} {a : Nat} {bs : List Int} (hok : okA l s) (hl : s.left = 0) (hd : s.down = false) (hx : DLook l nm = some x) (hf : a + bs.length ≤ x.2.1.length) :
    writeAtA (beginA l s) nm (a : Int) bs = (0, (DSet l (x.1, putA x.2.1 a bs, x.2.2), { s with ops := s.ops + 1, used := s.used + 0 })) := by
  rw [begin_eq hl]
  unfold writeAtA
  rw [err_none (s := { s with ops := s.ops + 1 }) hd hx]
  have hx2 : Go.Proofs.Ytbhjdcoehgajcaa.lookA l nm = some x := hx
  dsimp only
  rw [hx2]
  show writeA l { s with ops := s.ops + 1 } x (a : Int) bs = _
  have hm : moreA x.2.1 a bs = 0 := by
    unfold moreA
    rw [Nat.max_eq_left hf]
    omega
  unfold writeA
  rw [if_neg (by omega)]
  simp only [Int.toNat_natCast, hm]
  rw [if_neg (by have := hok.fits; omega)]

/-- A dirty page saved. -/
theorem PInv.saved {a b : List Pg} {g : Pg} (h : PInv C fr l s ord (a ++ g :: b)) (hok : okA l s) (hnd : ((a ++ g :: b).map Pg.key).Nodup) :
    ∃ A, writeAtA (beginA l s) g.key.1.1.data.toList g.key.1.2 g.bs = (0, A) ∧ PInv C fr A.1 A.2 ord (a ++ { g with dirty := false } :: b) ∧ A.2.ops = s.ops + 1 ∧ g.bs.length ≤ 64 := by
  obtain ⟨c, j, hc, hj, hlt, hb⟩ := h.page g (by simp)
  obtain ⟨⟨x, hx⟩, _⟩ := h.has _ _ hc
  obtain ⟨c2, hc2, hl, hs⟩ := h.file _ _ hx
  rw [hc] at hc2
  cases hc2
  have hxn : x.1 = g.key.1.1.data.toList := (Go.Proofs.Ytbhjdcoehgajcaa.lookA_mem hx).2
  have hbl : g.bs.length = min 64 (c.length - 64 * j) := by rw [hb, seg_len]
  rw [hj]
  refine ⟨_, write_eq hok h.left h.up hx (by rw [hbl, ← hl]; omega), ?_, rfl, by rw [hbl]; omega⟩
  have hmem : ∀ y ∈ a ++ { g with dirty := false } :: b, (y ∈ a ++ g :: b ∧ y.key ≠ g.key) ∨ y = { g with dirty := false } := fun y hy => by
    rw [List.map_append, List.map_cons, List.nodup_append, List.nodup_cons] at hnd
    rcases List.mem_append.1 hy with hy | hy
    · exact .inl ⟨by simp [hy], fun e => hnd.2.2 _ (List.mem_map.2 ⟨y, hy, rfl⟩) _ (List.mem_cons_self ..) e⟩
    · rcases List.mem_cons.1 hy with rfl | hy
      · exact .inr rfl
      · exact .inl ⟨by simp [hy], fun e => hnd.2.1.1 (List.mem_map.2 ⟨y, hy, e⟩)⟩
  have hback : ∀ y ∈ a ++ g :: b, y.key ≠ g.key → y ∈ a ++ { g with dirty := false } :: b := fun y hy hn => by
    rcases List.mem_append.1 hy with hy | hy
    · simp [hy]
    · rcases List.mem_cons.1 hy with rfl | hy
      · exact absurd rfl hn
      · simp [hy]
  refine ⟨h.up, h.left, fun y hy => ?_, fun nm z hz => ?_, fun nm c3 hc3 => ?_, h.pins, fun k => ?_, h.len, h.one⟩
  · rcases hmem y hy with hy | rfl
    · exact h.page y hy.1
    · exact ⟨c, j, hc, hj, hlt, hb⟩
  · have hz2 : DLook (DSet l (x.1, putA x.2.1 (64 * j) g.bs, x.2.2)) nm = some z := hz
    rw [look_set (y := (x.1, putA x.2.1 (64 * j) g.bs, x.2.2)) hx hxn] at hz2
    split at hz2
    · rename_i hnm
      subst hnm
      cases hz2
      refine ⟨c, hc, ?_, fun i hi => ?_⟩
      · show c.length = (putA x.2.1 (64 * j) g.bs).length
        rw [hb, put_len hl.symm hlt, hl]
      · show seg (putA x.2.1 (64 * j) g.bs) i = seg c i
        rw [hb]
        by_cases e : i = j
        · subst e
          exact seg_put_same hl.symm hlt
        · rw [seg_put_other hl.symm hlt e]
          refine hs i (fun y hy hyd hq => ?_)
          by_cases ek : y.key = g.key
          · rw [ek, hj] at hq
            have := hq.2
            omega
          · exact hi y (hback y hy ek) hyd hq
    · obtain ⟨c4, e1, e2, e3⟩ := h.file nm z hz2
      refine ⟨c4, e1, e2, fun i hi => e3 i (fun y hy hyd hq => ?_)⟩
      rename_i hnm
      by_cases ek : y.key = g.key
      · rw [ek] at hq
        exact hnm hq.1.symm
      · exact hi y (hback y hy ek) hyd hq
  · obtain ⟨⟨z, hz⟩, hcl⟩ := h.has nm c3 hc3
    refine ⟨?_, hcl⟩
    show ∃ z, DLook (DSet l (x.1, putA x.2.1 (64 * j) g.bs, x.2.2)) nm = some z
    rw [look_set (y := (x.1, putA x.2.1 (64 * j) g.bs, x.2.2)) hx hxn]
    split
    · exact ⟨_, rfl⟩
    · exact ⟨z, hz⟩
  · rw [h.keys k]
    constructor
    · rintro ⟨y, hy, rfl⟩
      by_cases ek : y.key = g.key
      · exact ⟨{ g with dirty := false }, by simp, ek.symm⟩
      · exact ⟨y, hback y hy ek, rfl⟩
    · rintro ⟨y, hy, rfl⟩
      rcases hmem y hy with hy | rfl
      · exact ⟨y, hy.1, rfl⟩
      · exact ⟨g, by simp, rfl⟩

end
end Go.Proofs.Ytbhjdcoehgajcaa.L.P

namespace Go.Proofs.Ytbhjdcoehgajcaa.L.P
open Go.RowKit Go.Maps

section
variable {C : List UInt8 → Option (List Int)} {w w' : World} {fp : List Nat} {q d o : Nat} {fr : Int} {N : Nat} {l : List Ab} {s : Ds} {ord : List (Place × Nat)} {gs : List Pg}

theorem Pl.facts (h : Pl w fp q d o fr N l s ord gs) : okA l s ∧ (ord.map Prod.fst).Nodup ∧ (gs.map Pg.key).Nodup := by
  obtain ⟨fd, fo, bm, h1, ⟨bh, bl, us, es, c, _, _, rfl⟩, h3, _⟩ := h
  refine ⟨h1.ok, ?_, h3.keys⟩
  have := c.keys
  rw [List.map_map]
  exact this

theorem PInv.count (h : PInv C fr l s ord gs) (h1 : (ord.map Prod.fst).Nodup) (h2 : (gs.map Pg.key).Nodup) : gs.length = ord.length := by
  have hp : (gs.map Pg.key).Perm (ord.map Prod.fst) := (List.perm_ext_iff_of_nodup h2 h1).2 fun k => by
    rw [List.mem_map, List.mem_map]
    exact (h.keys k).symm
  simpa using hp.length_eq

/-- What hold leaves. -/
def Held (C : List UInt8 → Option (List Int)) (w w' : World) (fp : List Nat) (q d o : Nat) (fr : Int) (N : Nat) (s : Ds) (gs : List Pg) (k : Place) (gb : Nat) : Prop :=
  ∃ N' l' s' ord' a g b, PlO w w' fp q d o fr N' l' s' ord' (a ++ g :: b) ∧ g.blk = gb ∧ g.key = k ∧ PInv C fr l' s' ord' (a ++ g :: b) ∧ N' ≤ N + 1 ∧ s'.ops ≤ s.ops + 2 ∧ s.ops ≤ s'.ops ∧
    (((gs.length : Int) < fr ∨ ∃ g ∈ gs, g.key = k) → s'.ops + (gs.length : Int) = s.ops + ((a ++ g :: b).length : Int))

/-- hold, behind use, of a page that is not held. -/
theorem hold_rest {N' : Nat} {l' : List Ab} {s' : Ds} {ord0 : List (Place × Nat)} {gs' : List Pg} (h : Pl w fp q d o fr N l s ord gs) (hi : PInv C fr l' s' ord0 gs') (hn : s'.ops ≤ 1000000) {k : Place} {c : List Int} {j : Nat} (hc : C k.1.1.data.toList = some c) (hj : k.1.2 = ((64 * j : Nat) : Int)) (hlt : 64 * j < c.length)
    (hl : (ord0.length : Int) < fr) (hno : ∀ g ∈ gs', g.key ≠ k) (hlen : gs'.length < maxLen) (hN : N' ≤ N + 1) (ho1 : s'.ops ≤ s.ops + 1) (ho2 : s.ops ≤ s'.ops) (hcnt : ((gs.length : Int) < fr ∨ ∃ g ∈ gs, g.key = k) → s'.ops = s.ops ∧ gs'.length = gs.length)
    (hu : ∀ W, Pl W fp q d o fr N l s ord gs → Calls Try.prog 60 #[.pointer (some ⟨q, 0, none⟩), encP k] W fun e W' => e = .returned (.int .i64 0) ∧ PlO W W' fp q d o fr N' l' s' (ord0 ++ [(k, 0)]) gs') :
    Calls Try.prog 46 #[.pointer (some ⟨q, 0, none⟩), encP k, .int .i64 ((min 64 (c.length - 64 * j) : Nat) : Int)] w fun e w' => ∃ gb, e = .returned (.tuple #[.pointer (some ⟨gb, 0, none⟩), .int .i64 0]) ∧ Held C w w' fp q d o fr N s gs k gb := by
  obtain ⟨x, hx, hxl, hbs⟩ := hi.bytes hc hj hno
  have hcl := (hi.has _ _ hc).2
  have hb : beginA l' s' = (l', { s' with ops := s'.ops + 1 }) := begin_eq hi.left
  have he : errA (beginA l' s') k.1.1.data.toList = none := by rw [hb]; exact err_none (s := { s' with ops := s'.ops + 1 }) hi.up hx
  refine (hold_new h k (64 * j) (min 64 (c.length - 64 * j)) hj (by omega) (by omega) hn he (by rw [hb]; exact hx) (by rw [hxl]; omega) (by omega) hno hlen hu).mono ?_
  rintro e w' ⟨gb, v, rfl, hp⟩
  rw [hbs, hb] at hp
  refine ⟨gb, rfl, N', l', { s' with ops := s'.ops + 1 }, ord0 ++ [(k, 0)], gs', ⟨k, gb, v, seg c j, false⟩, [], hp, rfl, rfl, ?_, hN, by show s'.ops + 1 ≤ s.ops + 2; omega, by show s.ops ≤ s'.ops + 1; omega, fun hq => ?_⟩
  · exact (hi.snoc (g := ⟨k, gb, v, seg c j, false⟩) hc hj hlt rfl rfl hl).begins
  · obtain ⟨e1, e2⟩ := hcnt hq
    show s'.ops + 1 + (gs.length : Int) = s.ops + ((gs' ++ [_]).length : Int)
    rw [e1, ← e2]
    simp
    omega

theorem hold_any (h : Pl w fp q d o fr N l s ord gs) (hi : PInv C fr l s ord gs) (hN : N + 1 ≤ 1000000) (hn : s.ops + 2 ≤ 1000000) (hfr : fr ≤ 100000) {k : Place} {c : List Int} {j : Nat} (hc : C k.1.1.data.toList = some c) (hj : k.1.2 = ((64 * j : Nat) : Int)) (hlt : 64 * j < c.length) :
    Calls Try.prog 46 #[.pointer (some ⟨q, 0, none⟩), encP k, .int .i64 ((min 64 (c.length - 64 * j) : Nat) : Int)] w fun e w' => ∃ gb, e = .returned (.tuple #[.pointer (some ⟨gb, 0, none⟩), .int .i64 0]) ∧ Held C w w' fp q d o fr N s gs k gb := by
  obtain ⟨hok, hno1, hno2⟩ := h.facts
  have hcount := hi.count hno1 hno2
  have hmax : (100000 : Nat) < maxLen := by unfold maxLen; omega
  have hone := hi.one
  have hle := hi.len
  have hfn : fr ≤ (ord.length : Int) → firstA ord ≠ none := fun hq => by
    obtain ⟨y, r, _, e⟩ := first_ne hi.pins (by omega)
    rw [e]
    simp
  by_cases hin : ∃ g ∈ gs, g.key = k
  · obtain ⟨hu, hi2⟩ := hi.used hin
    obtain ⟨g, hg, rfl⟩ := hin
    obtain ⟨a, b, rfl⟩ := List.append_of_mem hg
    obtain ⟨c2, j2, e1, e2, e3, e4⟩ := hi.page g hg
    rw [hc] at e1
    cases e1
    have ej : j2 = j := by omega
    subst ej
    refine (hold_in h _ (by rw [e4, seg_len]; exact Int.le_refl _) (by omega) (fun W pl => use_keep pl hN g.key hfn hu)).mono ?_
    rintro e w' ⟨rfl, hp⟩
    exact ⟨g.blk, rfl, N + 1, l, s, _, a, g, b, hp, rfl, rfl, hi2, Nat.le_refl _, by omega, Int.le_refl _, fun _ => rfl⟩
  · have hnk : ∀ g ∈ gs, g.key ≠ k := fun g hg e => hin ⟨g, hg, e⟩
    have hlook : lookA ord k = none := L.look_none fun y hy e => hin ((hi.keys k).1 ⟨y, hy, e⟩)
    by_cases hroom : (ord.length : Int) < fr
    · have hu : useA fr ord k = (none, 0, ord ++ [(k, 0)]) := by
        unfold useA
        rw [hlook]
        simp only
        rw [if_neg (by omega)]
      exact hold_rest h hi (by omega) hc hj hlt hroom hnk (by omega) (Nat.le_refl _) (by omega) (Int.le_refl _) (fun _ => ⟨rfl, rfl⟩) (fun W pl => use_keep pl hN k hfn hu)
    · obtain ⟨y, r, rfl, hf⟩ := first_ne hi.pins (by omega)
      obtain ⟨g, hg, hgk⟩ := (hi.keys y.1).1 ⟨y, by simp, rfl⟩
      obtain ⟨a, b, rfl⟩ := List.append_of_mem hg
      have hu : useA fr (y :: r) k = (some g.key, 0, delA (y :: r) g.key ++ [(k, 0)]) := by
        unfold useA
        rw [hlook]
        simp only
        rw [if_pos (by omega), hf, hgk]
      have hds := delA_short ((hi.keys g.key).2 ⟨g, by simp, rfl⟩)
      have hnk2 : ∀ z ∈ a ++ b, z.key ≠ k := fun z hz => hnk z (by rcases List.mem_append.1 hz with hz | hz <;> simp [hz])
      have hlen2 : (a ++ b).length < maxLen := by
        have e1 : (a ++ b).length + 1 = (a ++ g :: b).length := by simp; omega
        have e2 : (((a ++ g :: b).length : Nat) : Int) ≤ 100000 := by rw [hcount]; omega
        omega
      have hcn : ¬ ((((a ++ g :: b).length : Nat) : Int) < fr ∨ ∃ z ∈ a ++ g :: b, z.key = k) := by
        intro hq
        rcases hq with hq | hq
        · rw [hcount] at hq; omega
        · exact hin hq
      cases hdt : g.dirty with
      | false =>
        exact hold_rest h (hi.gone hno2 hdt) (by omega) hc hj hlt (by omega) hnk2 hlen2 (Nat.le_refl _) (by omega) (Int.le_refl _) (fun hq => absurd hq hcn)
          (fun W pl => use_out (x := g.dirty) pl hN k hfn hu (fun W2 fq pl2 => pl2.save_clean (by simp) hdt))
      | true =>
        obtain ⟨A, hA, hi2, hops, hbl⟩ := hi.saved hok hno2
        have hi3 := hi2.gone (by simpa using hno2) rfl
        exact hold_rest h hi3 (by omega) hc hj hlt (by have : (({ g with dirty := false } : Pg)).key = g.key := rfl; rw [this]; omega) hnk2 hlen2 (Nat.le_refl _) (by omega) (by omega) (fun hq => absurd hq hcn)
          (fun W pl => use_out (x := false) pl hN k hfn hu (fun W2 fq pl2 => pl2.save_dirty hdt (by omega) hbl hA))

end
end Go.Proofs.Ytbhjdcoehgajcaa.L.P

namespace Go.Proofs.Ytbhjdcoehgajcaa.L.P
open Go.RowKit Go.Maps

theorem read_step {c : List Int} {at_ n D : Nat} (hf : at_ + n ≤ c.length) (hD : D < n) :
    ((c.drop at_).take D ++ zs0 (n - D)).take D ++ (((seg c ((at_ + D) / 64)).drop ((at_ + D) % 64)).take (n - D) ++ ((c.drop at_).take D ++ zs0 (n - D)).drop (D + ((seg c ((at_ + D) / 64)).drop ((at_ + D) % 64)).length)) =
      (c.drop at_).take (min (D + (64 - (at_ + D) % 64)) n) ++ zs0 (n - (D + (64 - (at_ + D) % 64))) := by
  have e0 : ((c.drop at_).take D).length = D := by simp; omega
  have e1 : (seg c ((at_ + D) / 64)).drop ((at_ + D) % 64) = (c.drop (at_ + D)).take (64 - (at_ + D) % 64) := by
    unfold seg
    rw [List.drop_take, List.drop_drop]
    congr 2
    omega
  rw [e1, List.take_append_of_le_length (by omega), List.take_of_length_le (by omega), List.take_take]
  have e2 : ((c.drop at_).take D ++ zs0 (n - D)).drop (D + ((c.drop (at_ + D)).take (64 - (at_ + D) % 64)).length) = zs0 (n - (D + (64 - (at_ + D) % 64))) := by
    have e9 : ((c.drop at_).take D).drop D = [] := List.drop_of_length_le (by omega)
    rw [← List.drop_drop, List.drop_append_of_le_length (by omega), e9, List.nil_append]
    unfold zs0
    rw [List.drop_replicate]
    congr 1
    simp
    omega
  rw [e2, ← List.append_assoc]
  congr 1
  have e3 : min (D + (64 - (at_ + D) % 64)) n = D + min (n - D) (64 - (at_ + D) % 64) := by omega
  rw [e3, List.take_add, List.drop_drop]

/-- While bytes are read: how many are done. -/
def RdI (C : List UInt8 → Option (List Int)) (w2 : World) (fp : List Nat) (q d o : Nat) (fr : Int) (N : Nat) (P : Int) (V : Value) (bx : Nat) (c : List Int) (at_ n : Nat) (done : Nat) (W : World) : Prop :=
  ∃ fp1 N1 l1 s1 ord1 gs1, Pl W fp1 q d o fr N1 l1 s1 ord1 gs1 ∧ PInv C fr l1 s1 ord1 gs1 ∧ N1 ≤ N + done ∧ P ≤ s1.ops ∧ s1.ops ≤ P + 2 * done ∧ Kept (fp ++ own V) w2 W ∧ Newly w2 fp fp1 ∧ W.cell? ⟨bx, 0, none⟩ = some V ∧ done ≤ n + 63 ∧ (0 < done → gs1 ≠ []) ∧
    RowB W V ((c.drop at_).take (min done n) ++ zs0 (n - done))

section
variable {C : List UInt8 → Option (List Int)} {w w' : World} {fp : List Nat} {q d o : Nat} {fr : Int} {N : Nat} {l : List Ab} {s : Ds} {ord : List (Place × Nat)} {gs : List Pg}

theorem eRead1 : ∀ args w, (callFunc 30 args).run Try.prog w = .ok (.enter 30 args) w := enters_of Try.func30 (by kernel_rfl) rfl

/-- One page of what is read. -/
theorem read_page {w2 W : World} {P : Int} {V : Value} {bx at_ n D : Nat} {nm : ByteArray} {c : List Int} (hnm : nm.size ≤ maxLen) (hc : C nm.data.toList = some c) (hfr : fr ≤ 100000) (hN : N + n ≤ 999999) (hP : P + 2 * n ≤ 999000) (hf : at_ + n ≤ c.length) (hcl : c.length ≤ 100000) (hD : D < n)
    (hV : ∃ g, V = .slice (some ⟨g, 0, none⟩) n n) (hb2 : bx < w2.heap.size) (hv2 : ∀ y ∈ own V, y < w2.heap.size ∧ y ∉ fp ∧ y ≠ bx) (hbf : bx ∉ fp) (hI : RdI C w2 fp q d o fr N P V bx c at_ n D W) :
    ∃ k : Place, k.1.1 = nm ∧ k.1.2 = ((at_ + D - (at_ + D) % 64 : Nat) : Int) ∧
      Calls Try.prog 46 #[.pointer (some ⟨q, 0, none⟩), encP k, .int .i64 (min 64 (c.length - (at_ + D - (at_ + D) % 64)) : Nat)] W fun e W1 => ∃ gb, e = .returned (.tuple #[.pointer (some ⟨gb, 0, none⟩), .int .i64 0]) ∧
        Calls Try.prog 30 (#[.pointer (some ⟨gb, 0, none⟩), .int .i64 ((at_ + D) % 64 : Nat), .int .i64 D] ++ #[.pointer (some ⟨bx, 0, none⟩)]) W1 fun e W2 => e = .returned (.tuple #[]) ∧ RdI C w2 fp q d o fr N P V bx c at_ n (D + (64 - (at_ + D) % 64)) W2 := by
  obtain ⟨fp1, N1, l1, s1, ord1, gs1, p1, i1, n1, o1, o2, k1, w1, bc, _, _, br⟩ := hI
  obtain ⟨j, hj⟩ : ∃ j, j = (at_ + D) / 64 := ⟨_, rfl⟩
  have ej : at_ + D - (at_ + D) % 64 = 64 * j := by omega
  rw [ej]
  refine ⟨⟨(nm, ((64 * j : Nat) : Int)), hnm, by simp only; omega, by simp only; omega⟩, rfl, rfl, ?_⟩
  have nin : ∀ y, y < w2.heap.size → y ∉ fp → y ∉ fp1 := fun y h1 h2 e => by
    rcases w1 y e with u | u
    · exact h2 u
    · omega
  refine (hold_any p1 i1 (by omega) (by omega) hfr (k := ⟨(nm, ((64 * j : Nat) : Int)), hnm, by simp only; omega, by simp only; omega⟩) (c := c) (j := j) hc rfl (by omega)).mono ?_
  rintro e W1 ⟨gb, rfl, N2, l2, s2, ord2, a, g, b, ⟨fp2, p2, k2, m2⟩, rfl, hgk, i2, n2, o3, o4, _⟩
  refine ⟨g.blk, rfl, ?_⟩
  obtain ⟨c2, j2, e1, e2, e3, e4⟩ := i2.page g (by simp)
  rw [hgk] at e1 e2
  have ec : some c2 = some c := e1.symm.trans hc
  cases ec
  have e2' : ((64 * j : Nat) : Int) = ((64 * j2 : Nat) : Int) := e2
  have ejj : j2 = j := by omega
  subst ejj
  obtain ⟨g0, _, _, gr, gin, gown⟩ := p2.page (g := g) (by simp)
  obtain ⟨va, vc, hv, _⟩ := gr.isB.form
  obtain ⟨vg, rfl⟩ := hV
  have nin2 : ∀ y, y < w2.heap.size → y ∉ fp → y ∉ fp2 := fun y h1 h2 e => by
    rcases m2 y e with u | u
    · exact nin y h1 h2 u
    · have := k1.size; omega
  have hvv := hv2 vg (by simp [own, Value.ownBlock])
  have bc2 := k2.cell bc (nin bx hb2 hbf)
  have br2 := br.kept k2 (fun y hy => nin y (hv2 y hy).1 (hv2 y hy).2.1)
  have hmin : min D n = D := by omega
  rw [hmin] at br2
  rw [hv] at g0
  have hsl : (seg c j2).length = min 64 (c.length - 64 * j2) := seg_len _ _
  refine (read1_any g.blk ((at_ + D) % 64) D bx n n g.bs.length vc (some ⟨vg, 0, none⟩) va _ g.bs bc2 g0 br2 (by rw [List.length_append, zs0_length]; simp; omega) (hv ▸ gr.isB) (by omega) (by rw [e4, hsl]; omega) (fun e => by
      have := (hv2 bx e).2.2
      exact this rfl) (fun e => by
      simp [own, Value.ownBlock] at e
      exact nin2 vg hvv.1 hvv.2.1 (e ▸ gin))).mono ?_
  rintro e W2 ⟨rfl, r3, k3⟩
  refine ⟨rfl, fp2, N2, l2, s2, ord2, a ++ g :: b, p2.kept k3 (fun y hy e => ?_), i2, by omega, by omega, by omega, ?_, fun y hy => ?_, k3.cell bc2 (fun e => (hv2 bx e).2.2 rfl), by omega, fun _ => by simp, ?_⟩
  · have := hv2 y e
    exact nin2 y this.1 this.2.1 hy
  · exact (k1.trans k2 (fun y hy => (w1 y hy).imp (fun u => by simp [u]) id)).trans k3 (fun y hy => .inl (by simp [hy]))
  · rcases m2 y hy with u | u
    · exact w1 y u
    · exact .inr (Nat.le_trans k1.size u)
  · rw [e4, hj, read_step hf hD] at r3
    exact r3

set_option maxRecDepth 100000 in
set_option maxHeartbeats 1000000 in
/-- ReadAt of bytes that there are. -/
theorem readAt_ok (h : Pl w fp q d o fr N l s ord gs) (hi : PInv C fr l s ord gs) (nm : ByteArray) (hnm : nm.size ≤ maxLen) {c : List Int} (hc : C nm.data.toList = some c) (hfr : fr ≤ 100000) (at_ n : Nat) (hf : at_ + n ≤ c.length) (hN : N + n ≤ 999000) (hP : s.ops + 2 * n ≤ 998000) :
    Calls Try.prog 13 #[.pointer (some ⟨q, 0, none⟩), .string nm, .int .i64 at_, .int .i64 n] w fun e w' => ∃ v, e = .returned (.tuple #[v, .int .i64 0]) ∧ RowB w' v ((c.drop at_).take n) ∧
      ∃ fp' N' l' s' ord' gs', Pl w' fp' q d o fr N' l' s' ord' gs' ∧ PInv C fr l' s' ord' gs' ∧ N' ≤ N + n + 63 ∧ s'.ops ≤ s.ops + 1 + 2 * (n + 63) ∧ Kept fp w w' ∧ Newly w fp fp' ∧ (0 < n → gs' ≠ []) ∧ ∀ y ∈ own v, w.heap.size ≤ y ∧ y ∉ fp' := by
  obtain ⟨⟨x, hx⟩, hcl⟩ := hi.has _ _ hc
  obtain ⟨c2, hc2, hxl, _⟩ := hi.file _ _ hx
  rw [hc] at hc2
  cases hc2
  have hb := begin_eq (l := l) hi.left
  have hz : sizeA (beginA l s) nm.data.toList = ((c.length : Int), 0) := by
    rw [hb]
    unfold sizeA
    rw [err_none (s := { s with ops := s.ops + 1 }) hi.up hx]
    have hx2 : Go.Proofs.Ytbhjdcoehgajcaa.lookA l nm.data.toList = some x := hx
    dsimp only
    rw [hx2]
    dsimp only
    rw [hxl]
  have WI := hide (within_ok h (by omega) nm hnm (at_ : Int) (n : Int) hz (by omega) (by omega) (by omega) (by omega))
  rw [hb] at WI
  have hmf := Try.mf
  have HI := hide hi.begins
  have HC := hide (And.intro hc (And.intro hnm (And.intro hfr (And.intro hf hcl))))
  have HB := hide (And.intro hN hP)
  have hn9 : n ≤ 1000000 := by omega
  clear h hi hx hc hz hb hxl hfr
  go_enter Try.func13, Try.ntmps13
  go_wp2_with (first | (go_at_call 28; refine WI.out.mono ?_; rintro e w1 ⟨rfl, o1⟩; have O1 := hide o1; clear o1) | (at_make; refine wp_makeB _ rfl _ _ rfl n (n : Int) (n : Int) rfl rfl rfl rfl (by omega) ?_; intro w2 r2 b2; have R2 := hide r2; have B2 := hide b2; clear r2 b2))
  obtain ⟨fp1, p1, k1, n1⟩ := O1.out
  have hv1 : ∀ y ∈ own (.slice (some ⟨w1.heap.size, 0, none⟩) n n), y = w1.heap.size := fun y hy => by simp [own, Value.ownBlock] at hy; omega
  have hw12 : w1.heap.size < w2.heap.size := R2.out.lt w1.heap.size (by simp [own, Value.ownBlock])
  have b3 : Below w2.heap.size w2 (w2.alloc (.cells #[.slice (some ⟨w1.heap.size, 0, none⟩) n n] 28)) := (Below.refl _ w2).alloc (Nat.le_refl _) _
  have hc3 : (w2.alloc (.cells #[.slice (some ⟨w1.heap.size, 0, none⟩) n n] 28)).cell? ⟨w2.heap.size, 0, none⟩ = some (.slice (some ⟨w1.heap.size, 0, none⟩) n n) := cell_of_heap (heap_alloc_new w2 (.cells #[.slice (some ⟨w1.heap.size, 0, none⟩) n n] 28)) 0
  have hs3 : (w2.alloc (.cells #[.slice (some ⟨w1.heap.size, 0, none⟩) n n] 28)).heap.size = w2.heap.size + 1 := by simp
  have p3 := (p1.below B2.out).below b3
  have r3 := R2.out.kept (Kept.of_below (fp := []) b3) (by simp)
  have B3 := hide (below_then B2.out b3)
  generalize w2.alloc (.cells #[.slice (some ⟨w1.heap.size, 0, none⟩) n n] 28) = W3 at b3 hc3 hs3 p3 r3 B3 ⊢
  have EA := hide (each_any (w := W3) q at_ n c.length nm (by have := HC.out.2.2.2; omega) hn9 (by have := HC.out.2.2.2; omega) HC.out.2.2.2.1 30 #[.pointer (some ⟨w2.heap.size, 0, none⟩)] eRead1
    (RdI C W3 fp1 q d o fr N (s.ops + 1) (.slice (some ⟨w1.heap.size, 0, none⟩) n n) w2.heap.size c at_ n)
    ⟨fp1, N, l, _, ord, gs, p3, HI.out, Nat.le_refl _, Int.le_refl _, by show s.ops + 1 ≤ s.ops + 1 + 2 * ((0 : Nat) : Int); omega, Kept.refl _ _, Newly.refl _ _, hc3, by omega, fun h => absurd h (Nat.lt_irrefl _), by simpa using r3⟩
    (fun done W hd hI => read_page HC.out.2.1 HC.out.1 HC.out.2.2.1 (by have := HB.out.1; omega) (by have := HB.out.2; omega) HC.out.2.2.2.1 HC.out.2.2.2.2 hd ⟨_, rfl⟩ (by omega)
      (fun y hy => ⟨by rw [hv1 y hy]; omega, fun e => by have := p1.lt y e; rw [hv1 y hy] at this; omega, by rw [hv1 y hy]; omega⟩) (fun e => by have := p1.lt _ e; omega) hI))
  have K1 := hide (And.intro k1 (And.intro n1 p1.lt))
  clear p1 k1 n1 hc3 p3 r3 b3
  refine EA.out.mono ?_
  rintro e W4 ⟨rfl, done, hdn, fp4, N4, l4, s4, ord4, gs4, p4, i4, n4, o4, o5, k4, m4, c4, d4, g4, r4⟩
  have Z4 := hide (And.intro p4 (And.intro i4 (And.intro n4 (And.intro o5 (And.intro k4 (And.intro m4 (And.intro g4 r4)))))))
  clear p4 i4 n4 o4 o5 k4 m4 r4 g4 EA
  go_wp2_with fail
  go_ret2
  obtain ⟨p4, i4, n4, o5, k4, m4, g4, r4⟩ := Z4.out
  obtain ⟨k1, n1, lt1⟩ := K1.out
  rw [Nat.min_eq_right hdn, Nat.sub_eq_zero_of_le hdn] at r4
  have hw1 := k1.size
  have q1 : Kept fp w W3 := k1.trans (Kept.of_below (fp := fp) B3.out) (Newly.refl _ _)
  have hs1 := B3.out.size
  refine ⟨_, rfl, by simpa [zs0] using r4, fp4, N4, l4, s4, ord4, gs4, p4, i4, by omega, by omega, q1.trans k4 (fun y hy => ?_), n1.trans m4 q1.size, fun h0 => g4 (by omega), fun y hy => ⟨by rw [hv1 y hy]; exact hw1, fun e => ?_⟩⟩
  · rcases List.mem_append.1 hy with u | u
    · exact n1 y u
    · exact .inr (by rw [hv1 y u]; exact hw1)
  · rcases m4 y e with u | u
    · have := lt1 y u
      rw [hv1 y hy] at this
      omega
    · rw [hv1 y hy] at u
      omega

end
end Go.Proofs.Ytbhjdcoehgajcaa.L.P

namespace Go.Proofs.Ytbhjdcoehgajcaa.L.P
open Go.RowKit Go.Maps

/-- C, but for one file. -/
def putC (C : List UInt8 → Option (List Int)) (nm : List UInt8) (c : List Int) : List UInt8 → Option (List Int) := fun x => if x = nm then some c else C x

theorem write_get {c buf : List Int} {at_ D : Nat} (hf : at_ + buf.length ≤ c.length) (hD : D ≤ buf.length) (i : Nat) : (putA c at_ (buf.take D))[i]? = if i < at_ then c[i]? else if i < at_ + D then buf[i - at_]? else c[i]? := by
  rw [putA_get (by omega), List.length_take, Nat.min_eq_left hD]
  split
  · rfl
  · split
    · rw [List.getElem?_take_of_lt (by omega)]
    · rfl

theorem write_len {c buf : List Int} {at_ D : Nat} (hf : at_ + buf.length ≤ c.length) (hD : D ≤ buf.length) : (putA c at_ (buf.take D)).length = c.length := by
  rw [putA_length _ _ _ (by omega), List.length_take]
  omega

theorem write_other {c buf : List Int} {at_ D : Nat} (hf : at_ + buf.length ≤ c.length) (hD : D < buf.length) {i : Nat} (hi : i ≠ (at_ + D) / 64) :
    seg (putA c at_ (buf.take (min (D + (64 - (at_ + D) % 64)) buf.length))) i = seg (putA c at_ (buf.take D)) i := by
  apply List.ext_getElem?
  intro p
  rw [seg_get, seg_get]
  by_cases hp : p < 64
  · rw [if_pos hp, if_pos hp, write_get hf (by omega), write_get hf (by omega)]
    by_cases h1 : 64 * i + p < at_
    · rw [if_pos h1, if_pos h1]
    · rw [if_neg h1, if_neg h1]
      by_cases h2 : 64 * i + p < at_ + D
      · rw [if_pos h2, if_pos (by omega)]
      · rw [if_neg h2, if_neg (by omega)]
  · rw [if_neg hp, if_neg hp]

theorem write_same {c buf : List Int} {at_ D : Nat} (hf : at_ + buf.length ≤ c.length) (hD : D < buf.length) :
    (seg (putA c at_ (buf.take D)) ((at_ + D) / 64)).take ((at_ + D) % 64) ++ ((buf.drop D).take ((seg (putA c at_ (buf.take D)) ((at_ + D) / 64)).length - (at_ + D) % 64) ++ (seg (putA c at_ (buf.take D)) ((at_ + D) / 64)).drop ((at_ + D) % 64 + (buf.drop D).length)) =
      seg (putA c at_ (buf.take (min (D + (64 - (at_ + D) % 64)) buf.length))) ((at_ + D) / 64) := by
  have hl : (seg (putA c at_ (buf.take D)) ((at_ + D) / 64)).length = min 64 (c.length - 64 * ((at_ + D) / 64)) := by rw [seg_len, write_len hf (by omega)]
  rw [hl]
  apply List.ext_getElem?
  intro p
  have e0 : ((seg (putA c at_ (buf.take D)) ((at_ + D) / 64)).take ((at_ + D) % 64)).length = (at_ + D) % 64 := by rw [List.length_take, hl]; omega
  rw [seg_get, List.getElem?_append, e0]
  by_cases h1 : p < (at_ + D) % 64
  · rw [if_pos h1, List.getElem?_take_of_lt h1, seg_get, if_pos (by omega), if_pos (by omega), write_get hf (by omega), write_get hf (by omega)]
    by_cases h2 : 64 * ((at_ + D) / 64) + p < at_
    · rw [if_pos h2, if_pos h2]
    · rw [if_neg h2, if_neg h2, if_pos (by omega), if_pos (by omega)]
  · rw [if_neg h1, List.getElem?_append]
    have e1 : ((buf.drop D).take (min 64 (c.length - 64 * ((at_ + D) / 64)) - (at_ + D) % 64)).length = min (min 64 (c.length - 64 * ((at_ + D) / 64)) - (at_ + D) % 64) (buf.length - D) := by simp
    rw [e1]
    by_cases h2 : p - (at_ + D) % 64 < min (min 64 (c.length - 64 * ((at_ + D) / 64)) - (at_ + D) % 64) (buf.length - D)
    · rw [if_pos h2, List.getElem?_take_of_lt (by omega), List.getElem?_drop, if_pos (by omega), write_get hf (by omega), if_neg (by omega), if_pos (by omega)]
      congr 1
      omega
    · rw [if_neg h2, List.getElem?_drop]
      rw [List.length_drop, seg_get]
      by_cases h3 : p < 64
      · rw [if_pos h3]
        by_cases h4 : buf.length - D ≤ min 64 (c.length - 64 * ((at_ + D) / 64)) - (at_ + D) % 64
        · have ep : (at_ + D) % 64 + (buf.length - D) + (p - (at_ + D) % 64 - min (min 64 (c.length - 64 * ((at_ + D) / 64)) - (at_ + D) % 64) (buf.length - D)) = p := by omega
          rw [ep, if_pos h3, write_get hf (by omega), write_get hf (by omega), if_neg (by omega), if_neg (by omega), if_neg (by omega), if_neg (by omega)]
        · have ep : c.length ≤ 64 * ((at_ + D) / 64) + p := by omega
          rw [List.getElem?_eq_none (l := putA c at_ (buf.take (min (D + (64 - (at_ + D) % 64)) buf.length))) (by rw [write_len hf (by omega)]; exact ep)]
          split
          · rw [List.getElem?_eq_none]
            rw [write_len hf (by omega)]
            omega
          · rfl
      · rw [if_neg h3]
        split
        · rw [List.getElem?_eq_none]
          rw [write_len hf (by omega)]
          omega
        · rfl

section
variable {C : List UInt8 → Option (List Int)} {fr : Int} {l : List Ab} {s : Ds} {ord : List (Place × Nat)}

/-- A page written into. -/
theorem PInv.write {a b : List Pg} {g : Pg} (h : PInv C fr l s ord (a ++ g :: b)) (hnd : ((a ++ g :: b).map Pg.key).Nodup) {c1 c2 : List Int} {j : Nat} (hc : C g.key.1.1.data.toList = some c1) (hj : g.key.1.2 = ((64 * j : Nat) : Int)) (hl : c2.length = c1.length) (ho : ∀ i, i ≠ j → seg c2 i = seg c1 i) :
    PInv (putC C g.key.1.1.data.toList c2) fr l s ord (a ++ { g with bs := seg c2 j, dirty := true } :: b) := by
  have hmem : ∀ y ∈ a ++ { g with bs := seg c2 j, dirty := true } :: b, (y ∈ a ++ g :: b ∧ y.key ≠ g.key) ∨ y = { g with bs := seg c2 j, dirty := true } := fun y hy => by
    rw [List.map_append, List.map_cons, List.nodup_append, List.nodup_cons] at hnd
    rcases List.mem_append.1 hy with hy | hy
    · exact .inl ⟨by simp [hy], fun e => hnd.2.2 _ (List.mem_map.2 ⟨y, hy, rfl⟩) _ (List.mem_cons_self ..) e⟩
    · rcases List.mem_cons.1 hy with rfl | hy
      · exact .inr rfl
      · exact .inl ⟨by simp [hy], fun e => hnd.2.1.1 (List.mem_map.2 ⟨y, hy, e⟩)⟩
  have hback : ∀ y ∈ a ++ g :: b, y.key ≠ g.key → y ∈ a ++ { g with bs := seg c2 j, dirty := true } :: b := fun y hy hn => by
    rcases List.mem_append.1 hy with hy | hy
    · simp [hy]
    · rcases List.mem_cons.1 hy with rfl | hy
      · exact absurd rfl hn
      · simp [hy]
  have hkey : ∀ y : Pg, y.key.1.1.data.toList = g.key.1.1.data.toList → y.key.1.2 = g.key.1.2 → y.key = g.key := fun y e1 e2 => by
    apply Subtype.ext
    apply Prod.ext
    · cases hb : y.key.1.1
      cases hb2 : g.key.1.1
      rw [hb, hb2] at e1
      simp at e1
      rw [e1]
    · exact e2
  obtain ⟨cg, jg, g1, g2, g3, g4⟩ := h.page g (by simp)
  rw [hc] at g1
  cases g1
  have ejg : jg = j := by omega
  subst ejg
  refine ⟨h.up, h.left, fun y hy => ?_, fun nm x hx => ?_, fun nm c3 hc3 => ?_, h.pins, fun k => ?_, h.len, h.one⟩
  · rcases hmem y hy with ⟨hy, hk⟩ | rfl
    · obtain ⟨cy, jy, e1, e2, e3, e4⟩ := h.page y hy
      by_cases hn : y.key.1.1.data.toList = g.key.1.1.data.toList
      · rw [hn, hc] at e1
        cases e1
        have hji : jy ≠ jg := fun e => hk (hkey y hn (by rw [e2, g2, e]))
        exact ⟨c2, jy, by unfold putC; rw [if_pos hn], e2, by omega, by rw [e4, ho jy hji]⟩
      · exact ⟨cy, jy, by unfold putC; rw [if_neg hn]; exact e1, e2, e3, e4⟩
    · exact ⟨c2, jg, by unfold putC; rw [if_pos rfl], g2, by omega, rfl⟩
  · obtain ⟨cx, e1, e2, e3⟩ := h.file nm x hx
    by_cases hn : nm = g.key.1.1.data.toList
    · subst hn
      rw [hc] at e1
      cases e1
      refine ⟨c2, by unfold putC; rw [if_pos rfl], by omega, fun i hi => ?_⟩
      have hij : i ≠ jg := fun e => hi { g with bs := seg c2 jg, dirty := true } (by simp) rfl ⟨rfl, by rw [e]; exact g2⟩
      rw [ho i hij]
      refine e3 i (fun y hy hyd hq => ?_)
      by_cases ek : y.key = g.key
      · rw [ek, g2] at hq
        have := hq.2
        omega
      · exact hi y (hback y hy ek) hyd hq
    · refine ⟨cx, by unfold putC; rw [if_neg hn]; exact e1, e2, fun i hi => e3 i (fun y hy hyd hq => ?_)⟩
      by_cases ek : y.key = g.key
      · rw [ek] at hq
        exact hn hq.1.symm
      · exact hi y (hback y hy ek) hyd hq
  · unfold putC at hc3
    split at hc3
    · rename_i e
      cases hc3
      rw [e]
      have := h.has _ _ hc
      exact ⟨this.1, by rw [hl]; exact this.2⟩
    · exact h.has nm c3 hc3
  · rw [h.keys k]
    constructor
    · rintro ⟨y, hy, rfl⟩
      by_cases ek : y.key = g.key
      · exact ⟨{ g with bs := seg c2 jg, dirty := true }, by simp, ek.symm⟩
      · exact ⟨y, hback y hy ek, rfl⟩
    · rintro ⟨y, hy, rfl⟩
      rcases hmem y hy with ⟨hy, _⟩ | rfl
      · exact ⟨y, hy, rfl⟩
      · exact ⟨g, by simp, rfl⟩

end
end Go.Proofs.Ytbhjdcoehgajcaa.L.P

namespace Go.Proofs.Ytbhjdcoehgajcaa.L.P
open Go.RowKit Go.Maps

section
variable {C : List UInt8 → Option (List Int)} {w w' : World} {fp : List Nat} {q d o : Nat} {fr : Int} {N : Nat} {l : List Ab} {s : Ds} {ord : List (Place × Nat)} {gs : List Pg}

theorem Pl.page2 (h : Pl w fp q d o fr N l s ord gs) {g : Pg} (hg : g ∈ gs) : w.heap[g.blk]? = some (.cells #[g.v, .bool g.dirty] 63 (0, 0)) ∧ g.blk ∉ own g.v := by
  obtain ⟨fd, fo, bm, h1, h2, h3, rfl, a1, a2, a3⟩ := h
  refine ⟨(h3.pages g hg).1, fun e => ?_⟩
  obtain ⟨a, b, rfl⟩ := List.append_of_mem hg
  have hap := h3.apart
  simp only [pfeet, List.flatMap_append, List.flatMap_cons, List.nodup_cons, List.mem_cons, List.mem_append, not_or, List.nodup_append] at hap
  obtain ⟨_, _, _, ⟨hng, _⟩, _⟩ := hap
  simp only [Pg.feet, List.nodup_cons] at hng
  exact hng.1 e

theorem Pl.write {a b : List Pg} {g : Pg} {w2 : World} {bs : List Int} (h : Pl w fp q d o fr N l s ord (a ++ g :: b)) (hk : Kept (own g.v) w w2) (hr : RowB w2 g.v bs) :
    Pl (w2.setCell ⟨g.blk, 1, none⟩ (.bool true)) fp q d o fr N l s ord (a ++ { g with bs := bs, dirty := true } :: b) ∧ Kept fp w (w2.setCell ⟨g.blk, 1, none⟩ (.bool true)) := by
  obtain ⟨fd, fo, bm, h1, h2, h3, rfl, a1, a2, a3⟩ := h
  have p2 := h3.setBytes hk hr
  obtain ⟨p3, k3⟩ := p2.setDirty true
  have hin : ∀ x ∈ own g.v, x ∈ pfeet q bm (a ++ g :: b) := fun x hx => pfeet_own (by simp) hx
  have hb : g.blk ∈ pfeet q bm (a ++ g :: b) := pfeet_blk (by simp)
  have ef : pfeet q bm (a ++ { g with bs := bs, dirty := true } :: b) = pfeet q bm (a ++ g :: b) := by simp [pfeet, Pg.feet]
  refine ⟨⟨fd, fo, bm, (h1.kept hk (fun x hx e => a2 x hx (hin x e))).kept k3 (fun x hx e => a2 x hx (by simp at e; exact e ▸ hb)), (h2.kept hk (fun x hx e => a3 x hx (hin x e))).kept k3 (fun x hx e => a3 x hx (by simp at e; exact e ▸ hb)), p3, by rw [ef], a1, by rw [ef]; exact a2, by rw [ef]; exact a3⟩, ?_⟩
  exact (hk.mono (fun x hx => by have := hin x hx; simp [this])).trans k3 (fun x hx => .inl (by simp at hx; subst hx; simp [hb]))

theorem eWrite1 : ∀ args w, (callFunc 31 args).run Try.prog w = .ok (.enter 31 args) w := enters_of Try.func31 (by kernel_rfl) rfl

/-- While bytes are written: how many are done. -/
def WrI (C : List UInt8 → Option (List Int)) (w2 : World) (fp : List Nat) (q d o : Nat) (fr : Int) (N : Nat) (P : Int) (U : Value) (bx : Nat) (nm : List UInt8) (c buf : List Int) (at_ : Nat) (done : Nat) (W : World) : Prop :=
  ∃ fp1 N1 l1 s1 ord1 gs1, Pl W fp1 q d o fr N1 l1 s1 ord1 gs1 ∧ PInv (putC C nm (putA c at_ (buf.take (min done buf.length)))) fr l1 s1 ord1 gs1 ∧ N1 ≤ N + done ∧ P ≤ s1.ops ∧ s1.ops ≤ P + 2 * done ∧ Kept fp w2 W ∧ Newly w2 fp fp1 ∧ W.cell? ⟨bx, 0, none⟩ = some U ∧ done ≤ buf.length + 63

theorem write_page {w2 W : World} {P : Int} {ua : Option Addr} {bx at_ uc D : Nat} {nm : ByteArray} {c buf : List Int} (hnm : nm.size ≤ maxLen) (hfr : fr ≤ 100000) (hN : N + buf.length ≤ 999999) (hP : P + 2 * buf.length ≤ 999000) (hf : at_ + buf.length ≤ c.length) (hcl : c.length ≤ 100000) (hD : D < buf.length)
    (hb2 : bx < w2.heap.size) (hbf : bx ∉ fp) (hu : IsB w2 (.slice ua buf.length uc) buf) (hux : ∀ x ∈ own (.slice ua buf.length uc), x ∉ fp) (hI : WrI C w2 fp q d o fr N P (.slice ua buf.length uc) bx nm.data.toList c buf at_ D W) :
    ∃ k : Place, k.1.1 = nm ∧ k.1.2 = ((at_ + D - (at_ + D) % 64 : Nat) : Int) ∧
      Calls Try.prog 46 #[.pointer (some ⟨q, 0, none⟩), encP k, .int .i64 (min 64 (c.length - (at_ + D - (at_ + D) % 64)) : Nat)] W fun e W1 => ∃ gb, e = .returned (.tuple #[.pointer (some ⟨gb, 0, none⟩), .int .i64 0]) ∧
        Calls Try.prog 31 (#[.pointer (some ⟨gb, 0, none⟩), .int .i64 ((at_ + D) % 64 : Nat), .int .i64 D] ++ #[.pointer (some ⟨bx, 0, none⟩)]) W1 fun e W2 => e = .returned (.tuple #[]) ∧ WrI C w2 fp q d o fr N P (.slice ua buf.length uc) bx nm.data.toList c buf at_ (D + (64 - (at_ + D) % 64)) W2 := by
  obtain ⟨fp1, N1, l1, s1, ord1, gs1, p1, i1, n1, o1, o2, k1, w1, bc, _⟩ := hI
  obtain ⟨j, hj⟩ : ∃ j, j = (at_ + D) / 64 := ⟨_, rfl⟩
  have ej : at_ + D - (at_ + D) % 64 = 64 * j := by omega
  have hmin : min D buf.length = D := by omega
  rw [hmin] at i1
  have hcD := write_len (c := c) (buf := buf) (at_ := at_) (D := D) hf (by omega)
  rw [ej]
  refine ⟨⟨(nm, ((64 * j : Nat) : Int)), hnm, by simp only; omega, by simp only; omega⟩, rfl, rfl, ?_⟩
  have nin : ∀ y, y < w2.heap.size → y ∉ fp → y ∉ fp1 := fun y h1 h2 e => by
    rcases w1 y e with u | u
    · exact h2 u
    · omega
  have hcc : putC C nm.data.toList (putA c at_ (buf.take D)) nm.data.toList = some (putA c at_ (buf.take D)) := by unfold putC; rw [if_pos rfl]
  have ha := hold_any p1 i1 (by omega) (by omega) hfr (k := ⟨(nm, ((64 * j : Nat) : Int)), hnm, by simp only; omega, by simp only; omega⟩) (c := putA c at_ (buf.take D)) (j := j) hcc rfl (by rw [hcD]; omega)
  rw [hcD] at ha
  refine ha.mono ?_
  rintro e W1 ⟨gb, rfl, N2, l2, s2, ord2, a, g, b, ⟨fp2, p2, k2, m2⟩, rfl, hgk, i2, n2, o3, o4, _⟩
  refine ⟨g.blk, rfl, ?_⟩
  obtain ⟨c2, j2, e1, e2, e3, e4⟩ := i2.page g (by simp)
  rw [hgk] at e1 e2
  have ec : some c2 = some (putA c at_ (buf.take D)) := e1.symm.trans hcc
  cases ec
  have e2' : ((64 * j : Nat) : Int) = ((64 * j2 : Nat) : Int) := e2
  have ejj : j2 = j := by omega
  subst ejj
  obtain ⟨g0, _, _, gr, gin, gown⟩ := p2.page (g := g) (by simp)
  obtain ⟨gc, gnb⟩ := p2.page2 (g := g) (by simp)
  obtain ⟨va, vc, hv, _⟩ := gr.isB.form
  have nin2 : ∀ y, y < w2.heap.size → y ∉ fp → y ∉ fp2 := fun y h1 h2 e => by
    rcases m2 y e with u | u
    · exact nin y h1 h2 u
    · have := k1.size; omega
  have bc2 := k2.cell bc (nin bx hb2 hbf)
  have hne : buf ≠ [] := fun e => by rw [e] at hD; simp at hD
  have hu2 := (hu.kept k1 (fun _ => hux)).kept k2 (fun _ y hy => nin y (hu.lt hne y hy) (hux y hy))
  have hsl : (seg (putA c at_ (buf.take D)) j2).length = min 64 (c.length - 64 * j2) := by rw [seg_len, hcD]
  have gv := hv
  rw [hv] at g0 gc
  refine (write1_any g.blk ((at_ + D) % 64) D bx buf.length uc g.bs.length vc ua va buf g.bs bc2 g0 (hv ▸ gr) rfl hu2 (by omega) (by rw [e4, hsl]; omega) (fun e => nin2 bx hb2 hbf (gown bx (by rw [hv]; exact e))) (fun e => gnb (by rw [hv]; exact e)) gc).mono ?_
  rintro e W2 ⟨rfl, w3, rfl, r3, k3⟩
  rw [← hv] at r3 k3
  obtain ⟨p4, k4⟩ := p2.write k3 r3
  have hnd := p2.facts.2.2
  have hstep := write_same (c := c) (buf := buf) (at_ := at_) (D := D) hf hD
  have i4 := i2.write hnd (c2 := putA c at_ (buf.take (min (D + (64 - (at_ + D) % 64)) buf.length))) (j := j2) (by rw [hgk]; exact hcc) (by rw [hgk]) (by rw [write_len hf (by omega), hcD]) (fun i hi => write_other hf hD (by rw [← hj]; exact hi))
  have hname : g.key.1.1.data.toList = nm.data.toList := by rw [hgk]
  rw [hname] at i4
  have ebs : g.bs.take ((at_ + D) % 64) ++ ((buf.drop D).take (g.bs.length - (at_ + D) % 64) ++ g.bs.drop ((at_ + D) % 64 + (buf.drop D).length)) = seg (putA c at_ (buf.take (min (D + (64 - (at_ + D) % 64)) buf.length))) j2 := by
    rw [e4, hj]
    exact hstep
  rw [ebs] at p4
  have epp : putC (putC C nm.data.toList (putA c at_ (buf.take D))) nm.data.toList (putA c at_ (buf.take (min (D + (64 - (at_ + D) % 64)) buf.length))) = putC C nm.data.toList (putA c at_ (buf.take (min (D + (64 - (at_ + D) % 64)) buf.length))) := by
    funext y
    unfold putC
    split <;> rfl
  refine ⟨rfl, fp2, N2, l2, s2, ord2, _, p4, by rw [← epp]; exact i4, by omega, by omega, by omega, ?_, fun y hy => ?_, k4.cell bc2 (nin2 bx hb2 hbf), by omega⟩
  · exact (k1.trans k2 w1).trans k4 (fun y hy => by
      rcases m2 y hy with u | u
      · exact w1 y u
      · exact .inr (Nat.le_trans k1.size u))
  · rcases m2 y hy with u | u
    · exact w1 y u
    · exact .inr (Nat.le_trans k1.size u)

set_option maxRecDepth 100000 in
set_option maxHeartbeats 1000000 in
/-- WriteAt of bytes that fit. -/
theorem writeAt_ok (h : Pl w fp q d o fr N l s ord gs) (hi : PInv C fr l s ord gs) (nm : ByteArray) (hnm : nm.size ≤ maxLen) {c : List Int} (hc : C nm.data.toList = some c) (hfr : fr ≤ 100000) (at_ : Nat) (ua : Option Addr) (uc : Nat) (buf : List Int) (hu : IsB w (.slice ua buf.length uc) buf) (hux : buf ≠ [] → ∀ x ∈ own (.slice ua buf.length uc), x ∉ fp) (hf : at_ + buf.length ≤ c.length) (hN : N + buf.length ≤ 999000) (hP : s.ops + 2 * buf.length ≤ 998000) :
    Calls Try.prog 14 #[.pointer (some ⟨q, 0, none⟩), .string nm, .int .i64 at_, .slice ua buf.length uc] w fun e w' => e = .returned (.int .i64 0) ∧
      ∃ fp' N' l' s' ord' gs', Pl w' fp' q d o fr N' l' s' ord' gs' ∧ PInv (putC C nm.data.toList (putA c at_ buf)) fr l' s' ord' gs' ∧ N' ≤ N + buf.length + 63 ∧ s'.ops ≤ s.ops + 1 + 2 * (buf.length + 63) ∧ Kept fp w w' ∧ Newly w fp fp' := by
  obtain ⟨⟨x, hx⟩, hcl⟩ := hi.has _ _ hc
  obtain ⟨c2, hc2, hxl, _⟩ := hi.file _ _ hx
  rw [hc] at hc2
  cases hc2
  have hb := begin_eq (l := l) hi.left
  have hz : sizeA (beginA l s) nm.data.toList = ((c.length : Int), 0) := by
    rw [hb]
    unfold sizeA
    rw [err_none (s := { s with ops := s.ops + 1 }) hi.up hx]
    have hx2 : Go.Proofs.Ytbhjdcoehgajcaa.lookA l nm.data.toList = some x := hx
    dsimp only
    rw [hx2]
    dsimp only
    rw [hxl]
  have b0 : Below w.heap.size w (w.alloc (.cells #[.slice ua buf.length uc] 28)) := (Below.refl _ w).alloc (Nat.le_refl _) _
  have hc0 : (w.alloc (.cells #[.slice ua buf.length uc] 28)).cell? ⟨w.heap.size, 0, none⟩ = some (.slice ua buf.length uc) := cell_of_heap (heap_alloc_new w (.cells #[.slice ua buf.length uc] 28)) 0
  obtain ⟨n, hn⟩ : ∃ n, n = buf.length := ⟨_, rfl⟩
  have WI := hide (within_ok (h.below b0) (by omega) nm hnm (at_ : Int) (buf.length : Int) hz (by omega) (by omega) (by omega) (by omega))
  rw [hb] at WI
  have hmf := Try.mf
  have HI : Hid (PInv (putC C nm.data.toList (putA c at_ (buf.take (min 0 buf.length)))) fr l { s with ops := s.ops + 1 } ord gs) := by
    have e : putC C nm.data.toList (putA c at_ (buf.take (min 0 buf.length))) = C := by
      funext y
      unfold putC
      split
      · rename_i e
        rw [e, hc]
        simp [putA]
      · rfl
    rw [e]
    exact hi.begins
  have HC := hide (And.intro hnm (And.intro hfr (And.intro hf hcl)))
  have HB := hide (And.intro hN hP)
  have HU := hide (And.intro (hu.below b0) hux)
  have HL := hide h.lt
  have HS : Hid ((w.alloc (.cells #[.slice ua buf.length uc] 28)).heap.size = w.heap.size + 1) := by show _ = _; simp
  have B0 := hide b0
  have hn9 : buf.length ≤ 1000000 := by omega
  clear h hi hx hc hz hb hxl hfr hu hux b0
  generalize hW0 : w.alloc (.cells #[.slice ua buf.length uc] 28) = W0 at WI hc0 HU HS B0
  have HW0 := hide hW0
  go_enter Try.func14, Try.ntmps14
  go_wp2_with fail
  refine WI.out.mono ?_
  rintro e w1 ⟨rfl, o1⟩
  obtain ⟨fp1, p1, k1, n1⟩ := o1
  have nf : w.heap.size ∉ fp := fun e => by have := HL.out _ e; omega
  have hc1 := k1.cell hc0 nf
  have nf1 : ∀ y, y < W0.heap.size → y ∉ fp → y ∉ fp1 := fun y h1 h2 e => by
    rcases n1 y e with u | u
    · exact h2 u
    · omega
  have hs0 := HS.out
  have hk1 := k1.size
  have hu1 := HU.out.1.kept k1 (fun hne => HU.out.2 hne)
  have hux1 : ∀ x ∈ own (.slice ua buf.length uc), buf ≠ [] → x ∉ fp1 := fun x hx hne => nf1 x (HU.out.1.lt hne x hx) (HU.out.2 hne x hx)
  have EA : Hid (Calls Try.prog 29 #[.pointer (some ⟨q, 0, none⟩), .string nm, .int .i64 at_, .int .i64 (buf.length : Int), .int .i64 (c.length : Int), .func (.func 31) #[] #[.pointer (some ⟨w.heap.size, 0, none⟩)]] w1 fun e w' => e = .returned (.int .i64 0) ∧ ∃ done, buf.length ≤ done ∧ WrI C w1 fp1 q d o fr N (s.ops + 1) (.slice ua buf.length uc) w.heap.size nm.data.toList c buf at_ done w') :=
    each_any (w := w1) q at_ buf.length c.length nm (by have := HC.out.2.2; omega) hn9 (by have := HC.out.2.2; omega) HC.out.2.2.1 31 #[.pointer (some ⟨w.heap.size, 0, none⟩)] eWrite1
      (WrI C w1 fp1 q d o fr N (s.ops + 1) (.slice ua buf.length uc) w.heap.size nm.data.toList c buf at_)
      ⟨fp1, N, l, _, ord, gs, p1, HI.out, Nat.le_refl _, Int.le_refl _, by show s.ops + 1 ≤ s.ops + 1 + 2 * ((0 : Nat) : Int); omega, Kept.refl _ _, Newly.refl _ _, hc1, by omega⟩
      (fun done W hd hI => write_page HC.out.1 HC.out.2.1 (by have := HB.out.1; omega) (by have := HB.out.2; omega) HC.out.2.2.1 HC.out.2.2.2 hd (by omega) (nf1 _ (by omega) nf) hu1
        (fun x hx => hux1 x hx (fun e => by rw [e] at hd; simp at hd)) hI)
  have K1 := hide (And.intro k1 n1)
  clear p1 k1 n1 hu1 hux1 hc0 hW0
  go_wp2_with fail
  refine EA.out.mono ?_
  rintro e W4 ⟨rfl, done, hdn, fp4, N4, l4, s4, ord4, gs4, p4, i4, n4, o4, o5, k4, m4, c4, d4⟩
  have Z4 := hide (And.intro p4 (And.intro i4 (And.intro n4 (And.intro o5 (And.intro k4 m4)))))
  clear p4 i4 n4 o4 o5 k4 m4 EA
  go_wp2_with fail
  go_ret
  obtain ⟨p4, i4, n4, o5, k4, m4⟩ := Z4.out
  obtain ⟨k1, n1⟩ := K1.out
  rw [Nat.min_eq_right hdn, List.take_length] at i4
  have q1 : Kept fp w w1 := (Kept.of_below (fp := fp) B0.out).trans k1 (Newly.refl _ _)
  have q2 : Newly w fp fp1 := fun y hy => (n1 y hy).imp id (fun u => Nat.le_trans B0.out.size u)
  exact ⟨rfl, fp4, N4, l4, s4, ord4, gs4, p4, i4, by omega, by omega, q1.trans k4 q2, q2.trans m4 q1.size⟩

end
end Go.Proofs.Ytbhjdcoehgajcaa.L.P

namespace Go.Proofs.Ytbhjdcoehgajcaa.L.P
open Go.RowKit Go.Maps

/-- Pages, those of some places not dirty any more. -/
def cleanL (nm : ByteArray) (zs : List Int) (gs : List Pg) : List Pg := gs.map fun g => if g.key.1.1 = nm ∧ g.key.1.2 ∈ zs then { g with dirty := false } else g

theorem cleanL_nil (nm : ByteArray) (gs : List Pg) : cleanL nm [] gs = gs := by simp [cleanL]
theorem cleanL_keys (nm : ByteArray) (zs : List Int) (gs : List Pg) : (cleanL nm zs gs).map Pg.key = gs.map Pg.key := by
  unfold cleanL
  rw [List.map_map]
  refine List.map_congr_left fun g _ => ?_
  simp only [Function.comp]
  split <;> rfl

theorem cleanL_step {nm : ByteArray} {zs : List Int} {gs : List Pg} {z : Int} (hnd : (gs.map Pg.key).Nodup) (hk : ∃ g ∈ gs, g.key.1.1 = nm ∧ g.key.1.2 = z) :
    ∃ a g b, cleanL nm zs gs = a ++ g :: b ∧ g.key.1.1 = nm ∧ g.key.1.2 = z ∧ cleanL nm (zs ++ [z]) gs = a ++ { g with dirty := false } :: b := by
  obtain ⟨g, hg, h1, h2⟩ := hk
  obtain ⟨a, b, rfl⟩ := List.append_of_mem hg
  rw [List.map_append, List.map_cons, List.nodup_append, List.nodup_cons] at hnd
  have hne : ∀ y ∈ a ++ b, ¬ (y.key.1.1 = nm ∧ y.key.1.2 = z) := fun y hy e => by
    have ek : y.key = g.key := Subtype.ext (Prod.ext (e.1.trans h1.symm) (e.2.trans h2.symm))
    rcases List.mem_append.1 hy with hy | hy
    · exact hnd.2.2 _ (List.mem_map.2 ⟨y, hy, rfl⟩) _ (List.mem_cons_self ..) ek
    · exact hnd.2.1.1 (List.mem_map.2 ⟨y, hy, ek⟩)
  have hsame : ∀ m : List Pg, (∀ y ∈ m, y ∈ a ++ b) → cleanL nm (zs ++ [z]) m = cleanL nm zs m := fun m hm => by
    unfold cleanL
    refine List.map_congr_left fun y hy => ?_
    have := hne y (hm y hy)
    by_cases e1 : y.key.1.1 = nm
    · have e2 : y.key.1.2 ≠ z := fun e => this ⟨e1, e⟩
      simp [e1, e2]
    · simp [e1]
  refine ⟨cleanL nm zs a, if g.key.1.1 = nm ∧ g.key.1.2 ∈ zs then { g with dirty := false } else g, cleanL nm zs b, by simp [cleanL], by split <;> exact h1, by split <;> exact h2, ?_⟩
  have ea := hsame a (fun y hy => by simp [hy])
  have eb := hsame b (fun y hy => by simp [hy])
  have : cleanL nm (zs ++ [z]) (a ++ g :: b) = cleanL nm (zs ++ [z]) a ++ { g with dirty := false } :: cleanL nm (zs ++ [z]) b := by simp [cleanL, h1, h2]
  rw [this, ea, eb]
  split <;> rfl

section
variable {C : List UInt8 → Option (List Int)} {w w' : World} {fp : List Nat} {q d o : Nat} {fr : Int} {N : Nat} {l : List Ab} {s : Ds} {ord : List (Place × Nat)} {gs : List Pg}

theorem Pl.save_any {a b : List Pg} {g : Pg} (h : Pl w fp q d o fr N l s ord (a ++ g :: b)) (hi : PInv C fr l s ord (a ++ g :: b)) (hn : s.ops ≤ 1000000) :
    Calls Try.prog 33 #[.pointer (some ⟨q, 0, none⟩), encP g.key] w fun e w' => e = .returned (.int .i64 0) ∧ ∃ l' s', PlO w w' fp q d o fr N l' s' ord (a ++ { g with dirty := false } :: b) ∧ PInv C fr l' s' ord (a ++ { g with dirty := false } :: b) ∧ s.ops ≤ s'.ops ∧ s'.ops ≤ s.ops + 1 := by
  obtain ⟨hok, _, hnd⟩ := h.facts
  cases hdt : g.dirty with
  | false =>
    have e : ({ g with dirty := false } : Pg) = g := by cases g; simp only at hdt; subst hdt; rfl
    rw [e]
    refine (h.save_clean (by simp) hdt).mono ?_
    rintro e w' ⟨rfl, hp⟩
    exact ⟨rfl, l, s, hp, hi, Int.le_refl _, by omega⟩
  | true =>
    obtain ⟨A, hA, hi2, hops, hbl⟩ := hi.saved hok hnd
    refine (h.save_dirty hdt hn hbl hA).mono ?_
    rintro e w' ⟨rfl, hp⟩
    exact ⟨rfl, A.1, A.2, hp, hi2, by omega, by omega⟩

set_option maxRecDepth 100000 in
set_option maxHeartbeats 1000000 in
theorem flush_any (h : Pl w fp q d o fr N l s ord gs) (hi : PInv C fr l s ord gs) (hlen : gs.length ≤ 100000) (hn : s.ops + gs.length ≤ 999000) (nm : ByteArray) :
    Calls Try.prog 15 #[.pointer (some ⟨q, 0, none⟩), .string nm] w fun e w' => e = .returned (.int .i64 0) ∧ ∃ l' s' zs, (∀ z, z ∈ zs ↔ ∃ g ∈ gs, g.key.1.1 = nm ∧ g.key.1.2 = z) ∧ PlO w w' fp q d o fr N l' s' ord (cleanL nm zs gs) ∧ PInv C fr l' s' ord (cleanL nm zs gs) ∧ s.ops ≤ s'.ops ∧ s'.ops ≤ s.ops + gs.length := by
  have ST := hide (starts_any h hlen nm)
  have H := hide (And.intro h hi)
  have HN := hide hn
  clear h hi hlen hn
  go_enter Try.func15, Try.ntmps15
  go_wp2_with (go_at_call 32; refine ST.out.mono ?_; rintro e w1 ⟨v, zs, rfl, ow, hsrt, hprm, b1⟩; obtain ⟨va, vc, rfl⟩ : ∃ a c, v = .slice a zs.length c := (by (rcases ow.2 with ⟨e, h0⟩ | ⟨g, c, cur, e, _⟩; exact ⟨none, 0, by rw [e, h0]⟩; exact ⟨_, c, e⟩)); have OW := hide ow; have HP := hide hprm; have B1 := hide b1; clear ow hsrt hprm b1)
  have HMEM : Hid (∀ z, z ∈ zs ↔ ∃ g ∈ gs, g.key.1.1 = nm ∧ g.key.1.2 = z) := fun z => by
    rw [HP.out.mem_iff]
    unfold startsOf
    simp only [List.mem_map, List.mem_filter, decide_eq_true_eq]
    constructor
    · rintro ⟨g, ⟨h1, h2⟩, h3⟩
      exact ⟨g, h1, h2, h3⟩
    · rintro ⟨g, h1, h2, h3⟩
      exact ⟨g, ⟨h1, h2⟩, h3⟩
  have HZL : Hid (zs.length ≤ gs.length) := by show _ ≤ _; rw [HP.out.length_eq]; exact startsOf_len _ _
  have hzb : zs.length ≤ 1000000 := by have h1 := HZL.out; have h2 := HN.out; have := H.out.1.facts.1.ops; omega
  have H1 := hide (H.out.1.below B1.out)
  clear ST
  go_loopw [12] (fun v wr => ∃ i : Nat, i ≤ zs.length ∧ v = .int .i64 i ∧ Hid (∃ l' s', PlO w1 wr fp q d o fr N l' s' ord (cleanL nm (zs.take i) gs) ∧ PInv C fr l' s' ord (cleanL nm (zs.take i) gs) ∧ s.ops ≤ s'.ops ∧ s'.ops ≤ s.ops + i) ∧ Hid (wr.ownsRow w.heap.size 3 1 (.slice va zs.length vc) zs.length (zs.map (Value.int .i64)))) (fun v _ => zs.length - numP v)
  case atStart => exact ⟨0, Nat.zero_le _, rfl, ⟨l, s, by rw [List.take_zero, cleanL_nil]; exact ⟨fp, H1.out, Kept.refl _ _, Newly.refl _ _⟩, by rw [List.take_zero, cleanL_nil]; exact H.out.2, Int.le_refl _, by omega⟩, OW⟩
  case round =>
    obtain ⟨i, hi, rfl, HS, HO⟩ := hrel
    by_cases hlt : i < zs.length
    · obtain ⟨z, hz⟩ : ∃ z, z = zs[i] := ⟨_, rfl⟩
      obtain ⟨l1, s1, ⟨fp1, p1, k1, n1⟩, i1, o1, o2⟩ := HS.out
      obtain ⟨a, g, b, e1, e2, e3, e4⟩ := cleanL_step (zs := zs.take i) H.out.1.facts.2.2 ((HMEM.out z).1 (by rw [hz]; exact List.getElem_mem hlt))
      rw [e1] at p1 i1
      have htk : zs.take (i + 1) = zs.take i ++ [z] := by rw [hz]; exact List.take_succ_eq_append_getElem hlt
      rw [← htk] at e4
      have SV := hide (p1.save_any i1 (by have h1 := HN.out; have h2 := HZL.out; omega))
      have eK : encP g.key = .agg #[.string nm, .int .i64 z] := by simp [encP, e2, e3]
      rw [eK] at SV
      obtain ⟨gr, hgr⟩ : ∃ gr, va = some ⟨gr, 0, none⟩ := by
        rcases HO.out.2 with ⟨e, h0⟩ | ⟨g2, c2, cur, e, _⟩
        · omega
        · simp only [Value.slice.injEq] at e
          exact ⟨g2, e.1⟩
      subst hgr
      have hcell : wr.cell? ⟨gr, i, none⟩ = some (.int .i64 z) := by
        have := World.ownsRow.cells HO.out (g := gr) rfl i (.int .i64 z) (by rw [hz]; simp [hlt])
        rw [Addr.add_lit, Nat.zero_add] at this
        exact this
      have hgl : w.heap.size ≤ gr ∧ gr < w1.heap.size := ⟨(World.ownsRow.lt OW.out gr (by simp [Value.ownBlock])).1, (World.ownsRow.lt OW.out gr (by simp [Value.ownBlock])).2⟩
      have nf1 : gr ∉ fp1 := fun e => by
        rcases n1 gr e with u | u
        · have := H.out.1.lt gr u; omega
        · omega
      have K1 := hide (And.intro k1 (And.intro n1 (And.intro o1 o2)))
      have HE := hide (And.intro e4 nf1)
      have hi2 : (i : Int) < (zs.length : Int) := by omega
      clear p1 i1 k1 n1 o1 o2 e1 e2 e3 e4 eK hz htk nf1 hgl HS
      go_wp2_with (go_at_call 33; refine SV.out.mono ?_; rintro e w2 ⟨rfl, l2, s2, o2⟩; have O2 := hide o2; clear o2)
      go_roundw
      case rel =>
        obtain ⟨⟨fp2, p2, k2, n2⟩, i2, q1, q2⟩ := O2.out
        obtain ⟨k1, n1, o1, o2⟩ := K1.out
        refine ⟨i + 1, by omega, by go_num, ⟨l2, s2, by rw [HE.out.1]; exact ⟨fp2, p2, k1.trans k2 n1, n1.trans n2 k1.size⟩, by rw [HE.out.1]; exact i2, by omega, by omega⟩, ?_⟩
        exact ownsRow_kept HO.out k2 (fun y hy e => by
          simp [own, Value.ownBlock] at hy
          exact HE.out.2 (hy ▸ e))
      case measure => simp [numP]; omega
    · have hi2 : ¬ (i : Int) < (zs.length : Int) := by omega
      have hil : i = zs.length := by omega
      have HIL := hide hil
      clear hil
      go_wp2_with fail
      go_ret
      obtain ⟨l1, s1, ⟨fp1, p1, k1, n1⟩, i1, o1, o2⟩ := HS.out
      rw [HIL.out, List.take_length] at p1 i1
      have hzl := HZL.out
      exact ⟨rfl, l1, s1, zs, HMEM.out, ⟨fp1, p1, (Kept.of_below (fp := fp) B1.out).trans k1 (Newly.refl _ _), fun y hy => (n1 y hy).imp id (fun u => Nat.le_trans B1.out.size u)⟩, i1, o1, by omega⟩

end
end Go.Proofs.Ytbhjdcoehgajcaa.L.P

namespace Go.Proofs.Ytbhjdcoehgajcaa.L.P
open Go.RowKit Go.Maps

theorem seg_ext {a b : List Int} (h : ∀ j, seg a j = seg b j) : a = b := by
  apply List.ext_getElem?
  intro i
  have := congrArg (fun x : List Int => x[i % 64]?) (h (i / 64))
  simp only [seg_get] at this
  rw [if_pos (by omega), if_pos (by omega)] at this
  have e : 64 * (i / 64) + i % 64 = i := by omega
  rwa [e] at this

section
variable {C : List UInt8 → Option (List Int)} {w w' : World} {fp : List Nat} {q d o : Nat} {fr : Int} {N : Nat} {l : List Ab} {s : Ds} {ord : List (Place × Nat)} {gs : List Pg}

/-- A file without dirty pages is on the disk as it is by the pool. -/
theorem PInv.onDisk (h : PInv C fr l s ord gs) {nm : List UInt8} {c : List Int} (hc : C nm = some c) (hd : ∀ g ∈ gs, g.key.1.1.data.toList = nm → g.dirty = false) : ∃ x, DLook l nm = some x ∧ x.2.1 = c := by
  obtain ⟨⟨x, hx⟩, _⟩ := h.has _ _ hc
  obtain ⟨c2, hc2, _, hs⟩ := h.file _ _ hx
  rw [hc] at hc2
  cases hc2
  exact ⟨x, hx, seg_ext fun j => hs j fun g hg hgd e => by rw [hd g hg e.1] at hgd; cases hgd⟩

/-- A pool that holds nothing. -/
theorem PInv.new {n : Int} (hup : s.down = false) (hleft : s.left = 0) (hlen : ∀ nm x, DLook l nm = some x → x.2.1.length ≤ 100000) : PInv (fun nm => (DLook l nm).map fun x => x.2.1) (max n 1) l s [] [] := by
  refine ⟨hup, hleft, by simp, fun nm x hx => ⟨x.2.1, by rw [hx]; rfl, rfl, fun _ _ => rfl⟩, fun nm c hc => ?_, by simp, by simp, by simp; omega, by omega⟩
  obtain ⟨x, hx, rfl⟩ := Option.map_eq_some_iff.1 hc
  exact ⟨⟨x, hx⟩, hlen nm x hx⟩

set_option maxRecDepth 100000 in
set_option maxHeartbeats 1000000 in
theorem new_pool {fd : List Nat} (hd : Dk w fd d l s) (n : Int) : Calls Try.prog 11 #[.pointer (some ⟨d, 0, none⟩), .int .i64 n] w fun e w' => ∃ q o fp, e = .returned (.pointer (some ⟨q, 0, none⟩)) ∧ Pl w' fp q d o (max n 1) 0 l s [] [] ∧ Below w.heap.size w w' ∧ Newly w fd fp := by
  have NW := hide (fun W => new_any n W)
  have HD := hide hd
  have hmm := @run_makeMap Try.prog
  clear hd
  go_enter Try.func11, Try.ntmps11
  go_wp2_with (go_at_call 27; refine (NW.out _).mono ?_; rintro e w1 ⟨o, fo, rfl, c1, b1, f1⟩; have C1 := hide c1; have B1 := hide b1; have F1 := hide f1; clear c1 b1 f1)
  go_ret
  have e1 : (w1.alloc (.map #[] 0)).heap.size = w1.heap.size + 1 := by simp
  have b2 : Below w1.heap.size w1 (w1.alloc (.map #[] 0)) := (Below.refl _ w1).alloc (Nat.le_refl _) _
  have b3 : Below w1.heap.size w1 ((w1.alloc (.map #[] 0)).alloc (.cells #[.pointer (some ⟨d, 0, none⟩), .pointer (some ⟨o, 0, none⟩), .map (some w1.heap.size)] 57)) := b2.alloc (by rw [e1]; omega) _
  have hcell := heap_alloc_new (w1.alloc (.map #[] 0)) (.cells #[.pointer (some ⟨d, 0, none⟩), .pointer (some ⟨o, 0, none⟩), .map (some w1.heap.size)] 57)
  rw [e1] at hcell
  have hlt := HD.out.lt
  have hsz := B1.out.size
  have hol := C1.out.lt
  refine ⟨w1.heap.size + 1, o, fd ++ (fo ++ pfeet (w1.heap.size + 1) w1.heap.size []), by simp, ⟨fd, fo, w1.heap.size, (HD.out.below B1.out).below b3, C1.out.below b3, ⟨hcell, ⟨.map [], (World.ownsMap_made w1 Try.prog 54 ptrE).alloc _, MapIs.empty⟩, by simp, by simp [pfeet], by simp⟩, rfl, fun x hx e => ?_, fun x hx e => ?_, fun x hx e => ?_⟩, below_then B1.out b3, fun x hx => ?_⟩
  · have := hlt x hx
    have := F1.out x e
    omega
  · have := hlt x hx
    simp [pfeet] at e
    omega
  · have := hol x hx
    simp [pfeet] at e
    omega
  · simp only [List.mem_append] at hx
    rcases hx with hx | hx | hx
    · exact .inl hx
    · exact .inr (F1.out x hx)
    · simp [pfeet] at hx
      exact .inr (by omega)

set_option maxRecDepth 100000 in
set_option maxHeartbeats 400000 in
theorem readAt_no (nm : ByteArray) (at_ n k z : Int) (hk : k ≠ 0) {R : World → Prop} (hw : Calls Try.prog 28 #[.pointer (some ⟨q, 0, none⟩), .string nm, .int .i64 at_, .int .i64 n] w fun e w' => e = .returned (.tuple #[.int .i64 z, .int .i64 k]) ∧ R w') :
    Calls Try.prog 13 #[.pointer (some ⟨q, 0, none⟩), .string nm, .int .i64 at_, .int .i64 n] w fun e w' => e = .returned (.tuple #[.slice none 0 0, .int .i64 k]) ∧ R w' := by
  have W := hide hw
  have hk2 : (k == 0) = false := by simpa using hk
  clear hw
  go_enter Try.func13, Try.ntmps13
  go_wp2_with (go_at_call 28; refine W.out.mono ?_; rintro e w1 ⟨rfl, r1⟩; have R1 := hide r1; clear r1)
  go_ret2
  exact ⟨rfl, R1.out⟩

set_option maxRecDepth 100000 in
set_option maxHeartbeats 400000 in
theorem writeAt_no (nm : ByteArray) (at_ k z : Int) (ua : Option Addr) (n uc : Nat) (hk : k ≠ 0) {R : World → Prop} (hw : Calls Try.prog 28 #[.pointer (some ⟨q, 0, none⟩), .string nm, .int .i64 at_, .int .i64 n] (w.alloc (.cells #[.slice ua n uc] 28)) fun e w' => e = .returned (.tuple #[.int .i64 z, .int .i64 k]) ∧ R w') :
    Calls Try.prog 14 #[.pointer (some ⟨q, 0, none⟩), .string nm, .int .i64 at_, .slice ua n uc] w fun e w' => e = .returned (.int .i64 k) ∧ R w' := by
  have W := hide hw
  have hk2 : (k == 0) = false := by simpa using hk
  clear hw
  go_enter Try.func14, Try.ntmps14
  go_wp2_with (go_at_call 28; refine W.out.mono ?_; rintro e w1 ⟨rfl, r1⟩; have R1 := hide r1; clear r1)
  go_ret
  exact ⟨rfl, R1.out⟩

end
end Go.Proofs.Ytbhjdcoehgajcaa.L.P

namespace Go.Proofs.Ytbhjdcoehgajcaa.L.P
open Go.RowKit Go.Maps

/-- Pages, frames, without those of some places. -/
def lessP (nm : ByteArray) (zs : List Int) (gs : List Pg) : List Pg := gs.filter fun g => !(decide (g.key.1.1 = nm) && zs.contains g.key.1.2)
def lessO (nm : ByteArray) (zs : List Int) (ord : List (Place × Nat)) : List (Place × Nat) := ord.filter fun y => !(decide (y.1.1.1 = nm) && zs.contains y.1.1.2)

theorem lessP_mem {nm : ByteArray} {zs : List Int} {gs : List Pg} {g : Pg} : g ∈ lessP nm zs gs ↔ g ∈ gs ∧ ¬ (g.key.1.1 = nm ∧ g.key.1.2 ∈ zs) := by
  unfold lessP
  rw [List.mem_filter]
  simp
  intro _
  by_cases a : g.key.1.1 = nm <;> simp [a]
theorem lessO_mem {nm : ByteArray} {zs : List Int} {ord : List (Place × Nat)} {y : Place × Nat} : y ∈ lessO nm zs ord ↔ y ∈ ord ∧ ¬ (y.1.1.1 = nm ∧ y.1.1.2 ∈ zs) := by
  unfold lessO
  rw [List.mem_filter]
  simp
  intro _
  by_cases a : y.1.1.1 = nm <;> simp [a]

theorem lessP_step {nm : ByteArray} {zs : List Int} {gs : List Pg} {g : Pg} (hnd : (gs.map Pg.key).Nodup) (hg : g ∈ lessP nm zs gs) (h1 : g.key.1.1 = nm) : ∃ a b, lessP nm zs gs = a ++ g :: b ∧ lessP nm (zs ++ [g.key.1.2]) gs = a ++ b := by
  obtain ⟨a, b, e⟩ := List.append_of_mem hg
  refine ⟨a, b, e, ?_⟩
  have e2 : lessP nm (zs ++ [g.key.1.2]) gs = (lessP nm zs gs).filter fun y => !(decide (y.key.1.1 = nm) && decide (y.key.1.2 = g.key.1.2)) := by
    unfold lessP
    rw [List.filter_filter]
    refine List.filter_congr fun y _ => ?_
    by_cases q1 : y.key.1.1 = nm <;> by_cases q2 : y.key.1.2 = g.key.1.2 <;> simp [q1, q2]
  have hnd2 : ((lessP nm zs gs).map Pg.key).Nodup := hnd.sublist ((List.filter_sublist).map _)
  rw [e] at e2 hnd2
  rw [e2, List.filter_append, List.filter_cons]
  rw [List.map_append, List.map_cons, List.nodup_append, List.nodup_cons] at hnd2
  have hk : ∀ m : List Pg, (∀ y ∈ m, y.key ≠ g.key) → m.filter (fun y => !(decide (y.key.1.1 = nm) && decide (y.key.1.2 = g.key.1.2))) = m := fun m hm => List.filter_eq_self.2 fun y hy => by
    have := hm y hy
    by_cases q1 : y.key.1.1 = nm
    · by_cases q2 : y.key.1.2 = g.key.1.2
      · exact absurd (Subtype.ext (Prod.ext (q1.trans h1.symm) q2)) this
      · simp [q2]
    · simp [q1]
  rw [hk a (fun y hy e => hnd2.2.2 _ (List.mem_map.2 ⟨y, hy, rfl⟩) _ (List.mem_cons_self ..) e), hk b (fun y hy e => hnd2.2.1.1 (List.mem_map.2 ⟨y, hy, e⟩))]
  simp [h1]

theorem lessO_step {nm : ByteArray} {zs : List Int} {ord : List (Place × Nat)} {k : Place} (h1 : k.1.1 = nm) : lessO nm (zs ++ [k.1.2]) ord = delA (lessO nm zs ord) k := by
  unfold lessO delA
  rw [List.filter_filter]
  refine List.filter_congr fun y _ => ?_
  by_cases q : y.1 = k
  · subst q
    simp [h1]
  · by_cases q1 : y.1.1.1 = nm
    · have q2 : y.1.1.2 ≠ k.1.2 := fun e => q (Subtype.ext (Prod.ext (q1.trans h1.symm) e))
      simp [q, q1, q2]
    · simp [q, q1]

theorem starts_nodup {nm : ByteArray} {gs : List Pg} (hnd : (gs.map Pg.key).Nodup) : (startsOf nm gs).Nodup := by
  have h2 : ((gs.filter fun g => decide (g.key.1.1 = nm)).map Pg.key).Nodup := hnd.sublist ((List.filter_sublist).map _)
  unfold startsOf
  rw [List.nodup_iff_pairwise_ne, List.pairwise_map] at h2 ⊢
  refine h2.imp_of_mem fun {x y} hx hy hne e => hne ?_
  have e1 : x.key.1.1 = nm := by simpa using (List.mem_filter.1 hx).2
  have e2 : y.key.1.1 = nm := by simpa using (List.mem_filter.1 hy).2
  exact Subtype.ext (Prod.ext (e1.trans e2.symm) e)

/-- 'delete(m, k)', by its run. -/
theorem wp_deleteR {ops : Array Oper} {rest : List Oper} {o : Oper} {a : Act} {Q : Exit → Act → World → Prop} {w w' : World} (hg : o.guard = none) (m x : Operand) (t k : TypeId)
    (hop : o.op = Op.call { callee := Callee.builtin Builtin.delete, args := #[m, x], argTypes := #[t, k] }) (hty : o.type = 0) (b : Nat) (key : Value) (hm : a.eval m = .map (some b)) (hx : a.eval x = key)
    (hrun : (Builtin.delete_ #[t, k] 0 #[.map (some b), key]).run Try.prog w = .ok (.tuple #[]) w') (h : wpList Try.prog ops Q rest (a.put o.dst (.tuple #[])) w') : wpList Try.prog ops Q (o :: rest) a w := by
  refine wpList_plain hg fun K hK => ?_
  unfold Oper.wp
  simp [execOp, hop, hty, resolve, invoke, builtin, hm, hx, hrun, Result.andThen]
  exact hK _ _ h

section
variable {C : List UInt8 → Option (List Int)} {w w' : World} {fp : List Nat} {q d o : Nat} {fr : Int} {N : Nat} {l : List Ab} {s : Ds} {ord : List (Place × Nat)} {gs : List Pg}

/-- What is dropped is as the disk has it. -/
theorem PInv.dropped (h : PInv C fr l s ord gs) {nm : ByteArray} {zs : List Int} (hz : ∀ g ∈ gs, g.key.1.1 = nm → g.key.1.2 ∈ zs) {x : Ab} (hx : DLook l nm.data.toList = some x) : PInv (putC C nm.data.toList x.2.1) fr l s (lessO nm zs ord) (lessP nm zs gs) := by
  have hname : ∀ g ∈ lessP nm zs gs, g.key.1.1.data.toList ≠ nm.data.toList := fun g hg e => by
    obtain ⟨h1, h2⟩ := lessP_mem.1 hg
    have e2 : g.key.1.1 = nm := by
      cases hb : g.key.1.1
      cases nm
      rw [hb] at e
      simp at e
      rw [e]
    exact h2 ⟨e2, hz g h1 e2⟩
  obtain ⟨cx, hcx, hlx, _⟩ := h.file _ _ hx
  refine ⟨h.up, h.left, fun g hg => ?_, fun nm2 x2 hx2 => ?_, fun nm2 c2 hc2 => ?_, fun y hy => h.pins y (lessO_mem.1 hy).1, fun k => ?_, ?_, h.one⟩
  · obtain ⟨c, j, e1, e2⟩ := h.page g (lessP_mem.1 hg).1
    exact ⟨c, j, by unfold putC; rw [if_neg (hname g hg)]; exact e1, e2⟩
  · obtain ⟨c, e1, e2, e3⟩ := h.file nm2 x2 hx2
    by_cases e : nm2 = nm.data.toList
    · subst e
      rw [hx] at hx2
      cases hx2
      exact ⟨x.2.1, by unfold putC; rw [if_pos rfl], rfl, fun _ _ => rfl⟩
    · refine ⟨c, by unfold putC; rw [if_neg e]; exact e1, e2, fun i hi => e3 i fun g hg hgd hq => ?_⟩
      by_cases hn : g.key.1.1 = nm
      · exact e (by rw [← hq.1, hn])
      · exact hi g (lessP_mem.2 ⟨hg, fun q => hn q.1⟩) hgd hq
  · unfold putC at hc2
    split at hc2
    · rename_i e
      cases hc2
      rw [e]
      exact ⟨⟨x, hx⟩, by have := (h.has _ _ hcx).2; omega⟩
    · exact h.has nm2 c2 hc2
  · constructor
    · rintro ⟨y, hy, rfl⟩
      obtain ⟨h1, h2⟩ := lessO_mem.1 hy
      obtain ⟨g, hg, e⟩ := (h.keys y.1).1 ⟨y, h1, rfl⟩
      exact ⟨g, lessP_mem.2 ⟨hg, by rw [e]; exact h2⟩, e⟩
    · rintro ⟨g, hg, rfl⟩
      obtain ⟨h1, h2⟩ := lessP_mem.1 hg
      obtain ⟨y, hy, e⟩ := (h.keys g.key).2 ⟨g, h1, rfl⟩
      exact ⟨y, lessO_mem.2 ⟨hy, by rw [e]; exact h2⟩, e⟩
  · have h1 : (lessO nm zs ord).length ≤ ord.length := List.length_filter_le _ _
    have := h.len
    omega

set_option maxRecDepth 100000 in
set_option maxHeartbeats 1000000 in
theorem drop_pool (h : Pl w fp q d o fr N l s ord gs) (hi : PInv C fr l s ord gs) (hlen : gs.length ≤ 100000) (nm : ByteArray) :
    Calls Try.prog 19 #[.pointer (some ⟨q, 0, none⟩), .string nm] w fun e w' => e = .returned (.tuple #[]) ∧ ∃ zs, (∀ z, z ∈ zs ↔ ∃ g ∈ gs, g.key.1.1 = nm ∧ g.key.1.2 = z) ∧ PlO w w' fp q d o fr N l s (lessO nm zs ord) (lessP nm zs gs) := by
  have ST := hide (starts_any h hlen nm)
  have H := hide (And.intro h hi)
  have HLN := hide hlen
  clear h hi hlen
  go_enter Try.func19, Try.ntmps19
  go_wp2_with (go_at_call 32; refine ST.out.mono ?_; rintro e w1 ⟨v, zs, rfl, ow, hsrt, hprm, b1⟩; obtain ⟨va, vc, rfl⟩ : ∃ a c, v = .slice a zs.length c := (by (rcases ow.2 with ⟨e, h0⟩ | ⟨g, c, cur, e, _⟩; exact ⟨none, 0, by rw [e, h0]⟩; exact ⟨_, c, e⟩)); have OW := hide ow; have HP := hide (And.intro hprm hsrt); have B1 := hide b1; clear ow hsrt hprm b1)
  have HMEM : Hid (∀ z, z ∈ zs ↔ ∃ g ∈ gs, g.key.1.1 = nm ∧ g.key.1.2 = z) := fun z => by
    rw [HP.out.1.mem_iff]
    unfold startsOf
    simp only [List.mem_map, List.mem_filter, decide_eq_true_eq]
    constructor
    · rintro ⟨g, ⟨h1, h2⟩, h3⟩
      exact ⟨g, h1, h2, h3⟩
    · rintro ⟨g, h1, h2, h3⟩
      exact ⟨g, ⟨h1, h2⟩, h3⟩
  have HND : Hid zs.Nodup := HP.out.1.nodup_iff.2 (starts_nodup H.out.1.facts.2.2)
  have hzb : zs.length ≤ 1000000 := by rw [HP.out.1.length_eq]; exact Nat.le_trans (startsOf_len _ _) (Nat.le_trans HLN.out (by omega))
  have H1 := hide (H.out.1.below B1.out)
  clear ST
  go_loopw [10] (fun v wr => ∃ i : Nat, i ≤ zs.length ∧ v = .int .i64 i ∧ Hid (PlO w1 wr fp q d o fr N l s (lessO nm (zs.take i) ord) (lessP nm (zs.take i) gs)) ∧ Hid (wr.ownsRow w.heap.size 3 1 (.slice va zs.length vc) zs.length (zs.map (Value.int .i64)))) (fun v _ => zs.length - numP v)
  case atStart =>
    refine ⟨0, Nat.zero_le _, rfl, ?_, OW⟩
    rw [List.take_zero, show lessO nm [] ord = ord by simp [lessO], show lessP nm [] gs = gs by simp [lessP]]
    exact ⟨fp, H1.out, Kept.refl _ _, Newly.refl _ _⟩
  case round =>
    obtain ⟨i, hi, rfl, HS, HO⟩ := hrel
    by_cases hlt : i < zs.length
    · obtain ⟨z, hz⟩ : ∃ z, z = zs[i] := ⟨_, rfl⟩
      obtain ⟨fp1, p1, k1, n1⟩ := HS.out
      obtain ⟨g, hg, e2, e3⟩ := (HMEM.out z).1 (by rw [hz]; exact List.getElem_mem hlt)
      have htk : zs.take (i + 1) = zs.take i ++ [z] := by rw [hz]; exact List.take_succ_eq_append_getElem hlt
      have hnt : z ∉ zs.take i := fun e => by
        have hn := HND.out
        rw [← List.take_append_drop i zs, List.nodup_append] at hn
        refine hn.2.2 z e z ?_ rfl
        have hm := List.getElem_mem (l := zs.drop i) (n := 0) (by simp; omega)
        rw [List.getElem_drop] at hm
        rw [hz]
        exact hm
      obtain ⟨a, b, e4, e5⟩ := lessP_step (zs := zs.take i) H.out.1.facts.2.2 (lessP_mem.2 ⟨hg, fun q => hnt (e3 ▸ q.2)⟩) e2
      have e6 := lessO_step (zs := zs.take i) (ord := ord) (k := g.key) e2
      rw [e3, ← htk] at e5 e6
      rw [e4] at p1
      have hdr : dropA (lessO nm (zs.take i) ord) g.key = (0, delA (lessO nm (zs.take i) ord) g.key) := by
        obtain ⟨y, hy, ey⟩ := (H.out.2.keys g.key).2 ⟨g, hg, rfl⟩
        unfold dropA
        rw [L.look_some (ord := lessO nm (zs.take i) ord) ⟨y, lessO_mem.2 ⟨hy, by rw [ey, e3]; exact fun q => hnt q.2⟩, ey⟩ (fun u hu => H.out.2.pins u (lessO_mem.1 hu).1)]
        rfl
      obtain ⟨bm, w2, c2, r2, fp2, p2, k2, n2⟩ := p1.delete
      have DR := hide (p2.calls_order (fun fo ck => drop_any ck g.key trivial))
      rw [hdr] at DR
      obtain ⟨bm3, _, _, d1, _⟩ := p2.cells
      have eK : encP g.key = .agg #[.string nm, .int .i64 z] := by simp [encP, e2, e3]
      rw [eK] at r2
      rw [show kP.enc g.key = .agg #[.string nm, .int .i64 z] from eK] at DR
      obtain ⟨gr, hgr⟩ : ∃ gr, va = some ⟨gr, 0, none⟩ := by
        rcases HO.out.2 with ⟨e, h0⟩ | ⟨g2, c2, cur, e, _⟩
        · omega
        · simp only [Value.slice.injEq] at e
          exact ⟨g2, e.1⟩
      subst hgr
      have hcell : wr.cell? ⟨gr, i, none⟩ = some (.int .i64 z) := by
        have := World.ownsRow.cells HO.out (g := gr) rfl i (.int .i64 z) (by rw [hz]; simp [hlt])
        rw [Addr.add_lit, Nat.zero_add] at this
        exact this
      have hgl : w.heap.size ≤ gr ∧ gr < w1.heap.size := ⟨(World.ownsRow.lt OW.out gr (by simp [Value.ownBlock])).1, (World.ownsRow.lt OW.out gr (by simp [Value.ownBlock])).2⟩
      have nf1 : gr ∉ fp1 := fun e => by
        rcases n1 gr e with u | u
        · have := H.out.1.lt gr u; omega
        · omega
      have nf2 : gr ∉ fp2 := fun e => by
        rcases n2 gr e with u | u
        · exact nf1 u
        · have := k1.size; omega
      have HO2 := hide (ownsRow_kept HO.out k2 (fun y hy e => by
          simp [own, Value.ownBlock] at hy
          exact nf1 (hy ▸ e)))
      have K1 := hide (And.intro (k1.trans k2 n1) (n1.trans n2 k1.size))
      have HE := hide (And.intro e5 (And.intro e6 nf2))
      have hi2 : (i : Int) < (zs.length : Int) := by omega
      have R2 := hide r2
      clear p1 k1 n1 e2 e3 e4 e5 e6 eK hz htk nf1 nf2 hgl HS p2 k2 n2 hdr hnt r2
      go_wp2_with first | (go_at_call 35; refine DR.out.mono ?_; rintro e w3 ⟨rfl, o3⟩; have O3 := hide o3; clear o3) | (refine wp_deleteR rfl (.tmp 17) (.tmp 20) 55 54 rfl rfl bm (.agg #[.string nm, .int .i64 z]) rfl rfl R2.out ?_)
      go_roundw
      case rel =>
        obtain ⟨fp3, p3, k3, n3⟩ := O3.out
        refine ⟨i + 1, by omega, by go_num, ?_, ownsRow_kept HO2.out k3 (fun y hy e => by
          simp [own, Value.ownBlock] at hy
          exact HE.out.2.2 (hy ▸ e))⟩
        rw [HE.out.1, HE.out.2.1]
        exact ⟨fp3, p3, K1.out.1.trans k3 K1.out.2, K1.out.2.trans n3 K1.out.1.size⟩
      case measure => simp [numP]; omega
    · have hi2 : ¬ (i : Int) < (zs.length : Int) := by omega
      have hil : i = zs.length := by omega
      have HIL := hide hil
      clear hil
      go_wp2_with fail
      go_end0
      obtain ⟨fp1, p1, k1, n1⟩ := HS.out
      rw [HIL.out, List.take_length] at p1
      exact ⟨rfl, zs, HMEM.out, fp1, p1, (Kept.of_below (fp := fp) B1.out).trans k1 (Newly.refl _ _), fun y hy => (n1 y hy).imp id (fun u => Nat.le_trans B1.out.size u)⟩

end
end Go.Proofs.Ytbhjdcoehgajcaa.L.P
