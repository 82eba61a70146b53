/-
  Pools: starts. A lemma file: no statement of the seat is proved here.
-/
import Derived.Test.YtbhjdcoehgajcaaPKeys
import Derived.Sort.OwnSortedInts
namespace Go.Proofs.Ytbhjdcoehgajcaa.L.P
open Go.RowKit Go.Maps Go.Sort Go.Shelf

theorem Try.infoI : (Try.prog.info? 3).map (fun i => (i.zero, i.size, i.bytes)) = some (some (.int .i64 0), 1, 8) := by kernel_rfl

theorem ownsRow_form {w : World} {B n : Nat} {t : TypeId} {v : Value} {xs : List Value} (h : w.ownsRow B t 1 v n xs) (hn : 0 < n) : ∃ g cap, v = .slice (some ⟨g, 0, none⟩) n cap := by
  rcases h.2 with ⟨_, h0⟩ | ⟨g, cap, cur, e, _⟩
  · omega
  · exact ⟨g, cap, e⟩

section
variable {ops : Array Oper} {rest : List Oper} {o : Oper} {a : Act} {Q : Exit → Act → World → Prop}

/-- 'l = append(l, n)', l of the call's own. -/
theorem wp_pushI (w : World) (n0 : Nat) (hn0 : n0 = w.heap.size) (hgd : o.guard = none) (s x : Operand) (ho : o.op = .call { callee := .builtin .append, args := #[s, x], argTypes := #[42, 42] })
    (B : Nat) (v : Value) (n : Nat) (xs : List Value) (z : Int) (hs : a.eval s = v) (hown : w.ownsRow B 3 1 v n xs) (hx : a.eval x = .slice (some ⟨n0, 0, none⟩) 1 1) (hlen : n + 1 ≤ 1000000) (hB : B ≤ w.heap.size)
    (h : ∀ g cap w', w'.ownsRow B 3 1 (.slice (some ⟨g, 0, none⟩) (n + 1) cap) (n + 1) (xs ++ [.int .i64 z]) → Below B w w' → wpList Try.prog ops Q rest (a.put o.dst (.slice (some ⟨g, 0, none⟩) (n + 1) cap)) w') :
    wpList Try.prog ops Q (o :: rest) a (w.alloc (.cells #[.int .i64 z] 3)) := by
  subst hn0
  obtain ⟨i0, hi, hz0, hz1, hz2⟩ := info_parts Try.infoI
  refine wpList_append_own _ hgd s x 42 ho B 3 i0 _ 1 _ Try.underlying42 hi hz0 hz1 hz2 rfl (by decide) _ n _ hs (hown.alloc _) ⟨w.heap.size, 0, none⟩ 1 1 [.int .i64 z] hx rfl (cell_one_new _ _ _) (by simp [Value.oneCell']) (by unfold maxLen; omega) (by omega) (by simp; omega) ?_
  intro v' w' hown' hgrow _
  obtain ⟨g', cap', rfl⟩ := ownsRow_form hown' (Nat.succ_pos _)
  exact h g' cap' w' hown' (((Below.refl _ _).alloc hB _).grown hgrow (by simp; omega) (fun k hk => (hown.lt k hk).1))

end

/-- slices.Sort of a row of one's own. -/
theorem sortI_any {w : World} {B : Nat} {v : Value} {zs : List Int} (h : w.ownsRow B 3 1 v zs.length (zs.map (Value.int .i64))) (hl : zs.length ≤ 1000000) (hB : B ≤ w.heap.size) :
    Calls Try.prog 47 #[v] w fun e w' => e = .returned (.tuple #[]) ∧ w'.ownsRow B 3 1 v zs.length ((zs.mergeSort fun x y => decide (x ≤ y)).map (Value.int .i64)) ∧ Below B w w' := by
  by_cases h0 : zs.length = 0
  · have e : zs = [] := List.eq_nil_of_length_eq_zero h0
    subst e
    obtain ⟨a, c, rfl⟩ : ∃ a c, v = .slice a 0 c := by
      rcases h.2 with ⟨e, _⟩ | ⟨g, cap, cur, e, _⟩
      · exact ⟨none, 0, e⟩
      · exact ⟨_, cap, e⟩
    refine (AnyM.slices_Sort_int_none Try.sortI a c w).mono ?_
    rintro e w' ⟨rfl, rfl⟩
    exact ⟨rfl, by simpa using h, Below.refl _ _⟩
  · rcases h.2 with ⟨_, e⟩ | ⟨g, cap, cur, rfl, hb, hgg, h1, h2, h3, h4⟩
    · exact absurd e h0
    have hH : Holds (Value.int .i64) w g 0 zs.toArray := by
      intro j hj
      have hj2 : j < zs.length := by simpa using hj
      have := World.ownsRow.cells h (g := g) rfl j (.int .i64 zs[j]) (by simp [hj2])
      rw [Addr.add_lit] at this
      refine ⟨?_, frozen_of_heap hgg _⟩
      rw [this]
      simp [hj2]
    refine (AnyM.slices_Sort_int Try.sortI g 0 cap zs w hH (Array.getElem?_eq_some_iff.1 hgg).1 (by omega)).mono ?_
    rintro e w' ⟨rfl, n, os, rfl⟩
    refine ⟨rfl, ownsRow_sortedI (by simp) hb hgg h1 h2 h3, ?_⟩
    exact (Below.refl B w).grown (grownBy_sortedI _) hB (fun j hj => by cases hj; exact hb)

theorem ranges_below {w w' : World} {B bm r n : Nat} {D : DataW Unit} {left : Lit → Bool} {cnt : Nat} (h : w.ranges Try.prog 54 ptrE bm r n D left cnt) (hb : Below B w w') (h1 : bm < B) (h2 : r < B) : w'.ranges Try.prog 54 ptrE bm r n D left cnt := by
  obtain ⟨es, clock, since, seen, c0, hb0, F, hs, hD, hr, rest⟩ := h
  exact ⟨es, clock, since, seen, c0, (hb.block bm h1).trans hb0, F, hs, hD, (hb.block r h2).trans hr, rest⟩

section
variable {w w' : World} {fp : List Nat} {q d o : Nat} {fr : Int} {N : Nat} {l : List Ab} {s : Ds} {ord : List (Place × Nat)} {gs : List Pg}

/-- Where pages of a file begin. -/
def startsOf (nm : ByteArray) (gs : List Pg) : List Int := (gs.filter fun g => decide (g.key.1.1 = nm)).map fun g => g.key.1.2
theorem startsOf_perm {nm : ByteArray} {a b : List Pg} (h : a.Perm b) : (startsOf nm a).Perm (startsOf nm b) := (h.filter _).map _
theorem startsOf_len (nm : ByteArray) (gs : List Pg) : (startsOf nm gs).length ≤ gs.length := by unfold startsOf; rw [List.length_map]; exact List.length_filter_le _ _
theorem str_neq {a b : ByteArray} (h : ¬ a = b) : (a.toList == b.toList) = false := by
  rw [beq_eq_false_iff_ne]
  intro e
  rw [ByteArray.toList_eq, ByteArray.toList_eq] at e
  apply h
  cases a
  cases b
  simp at e
  rw [e]

set_option maxRecDepth 100000 in
set_option maxHeartbeats 1000000 in
theorem starts_any (h : Pl w fp q d o fr N l s ord gs) (hlen : gs.length ≤ 100000) (nm : ByteArray) : Calls Try.prog 32 #[.pointer (some ⟨q, 0, none⟩), .string nm] w fun e w' => ∃ (v : Value) (zs : List Int), e = .returned v ∧ w'.ownsRow w.heap.size 3 1 v zs.length (zs.map (Value.int .i64)) ∧ zs.Pairwise (· ≤ ·) ∧ zs.Perm (startsOf nm gs) ∧ Below w.heap.size w w' := by
  obtain ⟨fd, fo, bm, h1, h2, h3, rfl, a1, a2, a3⟩ := h
  obtain ⟨_, _, c2⟩ := h3.cellAt
  obtain ⟨D, hown, hD⟩ := h3.map
  have OW := hide hown
  have HBW := hide hown.lt
  have HD := hide hD
  have HN := hide h3.keys
  have HLN := hide hlen
  clear h1 h2 h3 hown hD a1 a2 a3 hlen
  go_enter Try.func32, Try.ntmps32
  go_wp2_with (first | (at_range; refine wpList_range_own _ rfl _ 55 rfl 54 61 keyedP Try.underlying55 ptrE bm gs.length D rfl OW.out ?_; intro w0 hrg0 hg0 hs0) | fail)
  have hk0 : Kept [] w w0 := Kept.of_grown hg0
  have HK0 := hide (hk0.below (Nat.le_refl _) (by simp))
  have HR0 := hide hrg0
  have HS0 : Hid (w.heap.size + 1 ≤ w0.heap.size) := hrg0.lt
  clear hk0 hrg0 hg0 hs0
  go_frame
  go_loopw [5] (fun v5 wr => ∃ (left : Lit → Bool) (cnt : Nat) (zs : List Int), Hid (wr.ranges Try.prog 54 ptrE bm w.heap.size gs.length D left cnt) ∧ Hid (wr.ownsRow (w.heap.size + 1) 3 1 v5 zs.length (zs.map (Value.int .i64))) ∧ Hid (zs.Perm (startsOf nm (cameP left gs))) ∧ Hid (Below w.heap.size w wr) ∧ Hid (w.heap.size + 1 ≤ wr.heap.size)) (fun _ wr => wr.rangeLeft bm w.heap.size)
  case atStart =>
    refine ⟨_, _, [], HR0, World.ownsRow_nil _ _ _ _, ?_, HK0, HS0⟩
    show List.Perm [] _
    rw [came_none]
    · exact List.Perm.refl _
    · intro g hg
      have e := HD.out.has g.key
      obtain ⟨a, b, hab⟩ := List.append_of_mem (List.mem_map.2 ⟨g, hg, rfl⟩ : g.fr ∈ gs.map Pg.fr)
      have hnd : ((gs.map Pg.fr).map Fr.key).Nodup := by rw [fr_key]; exact HN.out
      rw [hab] at e hnd
      rw [show g.key = g.fr.key from rfl, find_at hnd] at e
      exact e
  case round =>
    obtain ⟨left, cnt, zs, HR, HO, HM, HK, HS⟩ := hrel
    have HZ : Hid (zs.length ≤ 100000) := by
      show _ ≤ _
      rw [HM.out.length_eq]
      exact Nat.le_trans (startsOf_len _ _) (Nat.le_trans (List.length_filter_le _ _) HLN.out)
    go_wp2_with (at_next; refine wpList_next_ranges _ rfl _ rfl 54 keyedP ptrE encP (fun c : Option Nat => Value.pointer (c.map fun b => ⟨b, 0, none⟩)) (fun key kl hk => by obtain ⟨x, rfl, _⟩ := keyP_inv hk; exact ⟨x, rfl⟩) ptrE_shape bm w.heap.size gs.length D left cnt rfl HR.out ?_ ?_)
    · intro hc0 hl0
      have HL0 := hide hl0
      clear hc0 hl0
      have ST := hide (sortI_any HO.out (Nat.le_trans HZ.out (by omega)) HS.out)
      go_wp2_with (go_at_call 47; refine ST.out.mono ?_; rintro e w5 ⟨rfl, o5, b5⟩; have O5 := hide o5; have B5 := hide b5; clear o5 b5)
      go_ret
      have e : left = fun _ => false := funext HL0.out
      have e2 := HM.out
      rw [e, came_all] at e2
      have hsz := HS.out
      refine ⟨_, zs.mergeSort fun x y => decide (x ≤ y), rfl, ?_, ?_, (List.mergeSort_perm _ _).trans e2, HK.out.trans (B5.out.mono (by omega))⟩
      · have o := O5.out
        rw [List.length_mergeSort]
        exact ⟨o.1, o.2.imp id (fun ⟨g, c, cur, h1, h2, h3⟩ => ⟨g, c, cur, h1, by omega, h3⟩)⟩
      · exact (List.pairwise_mergeSort (le := fun x y => decide (x ≤ y)) (fun a b c h1 h2 => by simp only [decide_eq_true_eq] at *; omega) (fun a b => by simp only [Bool.or_eq_true, decide_eq_true_eq]; omega) zs).imp (fun h => by simpa using h)
    · intro xa xb xh c kl yd yp w2 cnt2 hkey hlk hv hat hrg2 hlt hg2 hs2 hen
      generalize (⟨(xa, xb), xh⟩ : Place) = x at hkey hlk hv hat hrg2 hlt hg2 hs2 hen ⊢
      clear xh xa xb
      obtain ⟨x', ex, rfl⟩ := keyP_inv hkey
      obtain rfl : x = x' := by
        obtain ⟨⟨a1, a2⟩, a3⟩ := x
        obtain ⟨⟨b1, b2⟩, b3⟩ := x'
        simp [encP] at ex
        obtain ⟨rfl, rfl⟩ := ex
        rfl
      have h3 := HD.out.has x
      rw [has_true_of_atKey (k := litP x) hat] at h3
      obtain ⟨e, he⟩ := Option.isSome_iff_exists.1 h3.symm
      obtain ⟨hmem, hek⟩ := find_some he
      obtain ⟨g, hgm, rfl⟩ := List.mem_map.1 hmem
      obtain rfl : g.key = x := hek
      have hk2 : Below w.heap.size w w2 := HK.out.trans ((Kept.of_grown hg2).below (Nat.le_trans (Nat.le_succ _) HS.out) (fun z hz => by simp at hz; subst hz; exact Nat.le_refl _))
      have HO2 := hide (ownsRow_kept HO.out (Kept.of_grown hg2) (fun z hz e => by
        have := (World.ownsRow.lt HO.out z (by simpa [own] using hz)).1
        simp at e
        omega))
      have HK2 := hide hk2
      have HR2 := hide hrg2
      have HS2 : Hid (w.heap.size + 1 ≤ w2.heap.size) := by show _ ≤ _; rw [hs2]; exact HS.out
      have HLT : Hid (w2.rangeLeft bm w.heap.size < wr.rangeLeft bm w.heap.size) := by rw [hrg2.left_eq, HR.out.left_eq]; exact hlt
      obtain ⟨a, b, hab⟩ := List.append_of_mem hgm
      have PS := hide (by have := came_step (left := left) (a := a) (b := b) (g := g) (by rw [← hab]; exact HN.out) hlk; rw [← hab] at this; exact this : (cameP (fun z => left z && !z.sameKey (litP g.key)) gs).Perm (g :: cameP left gs))
      have HM2 : Hid ((startsOf nm (cameP (fun z => left z && !z.sameKey (litP g.key)) gs)).Perm (if g.key.1.1 = nm then g.key.1.2 :: startsOf nm (cameP left gs) else startsOf nm (cameP left gs))) := by
        refine (startsOf_perm PS.out).trans ?_
        unfold startsOf
        rw [List.filter_cons]
        by_cases hq : g.key.1.1 = nm
        · simp [hq]
        · simp [hq]
      have HBM := hide HR.out.owns.lt
      clear h3 he hmem hk2 hrg2 hlt hkey hlk hv hat hg2 HR hab ex hgm hs2
      obtain ⟨k, hk⟩ : ∃ k, k = g.key := ⟨_, rfl⟩
      rw [← hk] at hen HM2 HR2
      clear hk
      have hlen := HZ.out
      have hb3 : Below (w.heap.size + 1) w2 (w2.alloc (.cells #[.string k.1.1, .int .i64 k.1.2] 54)) := (Below.refl _ w2).alloc HS2.out _
      have HB3 := hide hb3
      have HO3 := hide (HO2.out.alloc (.cells #[.string k.1.1, .int .i64 k.1.2] 54))
      have HW3 : Hid (w.heap.size + 1 ≤ (w2.alloc (.cells #[.string k.1.1, .int .i64 k.1.2] 54)).heap.size) := Nat.le_trans HS2.out hb3.size
      clear hb3
      by_cases hq : k.1.1 = nm
      · subst hq
        have HM3 := hide HM2.out
        rw [if_pos rfl] at HM3
        go_wp2_with (refine wp_pushI _ (w2.heap.size + 1) (by simp) rfl (.tmp 20) (.tmp 23) rfl (w.heap.size + 1) _ zs.length (zs.map (Value.int .i64)) k.1.2 rfl HO3.out rfl (by have := HZ.out; omega) HW3.out ?_; intro g4 cap4 w4 o4 b4; have O4 := hide o4; have B4 := hide b4; clear o4 b4)
        go_roundw
        case rel =>
          have b5 := HB3.out.trans B4.out
          have hlb : bm < w.heap.size := HBW.out
          have r := ranges_below HR2.out b5 (by omega) (by omega)
          refine ⟨_, cnt2, zs ++ [k.1.2], r, ?_, ?_, HK2.out.trans (b5.mono (by omega)), Nat.le_trans HW3.out B4.out.size⟩
          · have o := O4.out
            rw [List.length_append, List.map_append]
            exact o
          · exact (List.perm_append_singleton _ _).trans ((List.Perm.cons _ HM.out).trans HM3.out.symm)
        case measure =>
          have b5 := HB3.out.trans B4.out
          have hlb : bm < w.heap.size := HBW.out
          rw [(ranges_below HR2.out b5 (by omega) (by omega)).left_eq, ← HR2.out.left_eq]
          exact HLT.out
      · have hqn := str_neq hq
        have HM3 := hide HM2.out
        rw [if_neg hq] at HM3
        go_wp2
        go_roundw
        case rel =>
          have hlb : bm < w.heap.size := HBW.out
          exact ⟨_, cnt2, zs, ranges_below HR2.out HB3.out (by omega) (by omega), HO3, HM.out.trans HM3.out.symm, HK2.out.trans (HB3.out.mono (by omega)), HW3⟩
        case measure =>
          have hlb : bm < w.heap.size := HBW.out
          rw [(ranges_below HR2.out HB3.out (by omega) (by omega)).left_eq, ← HR2.out.left_eq]
          exact HLT.out

end
end Go.Proofs.Ytbhjdcoehgajcaa.L.P
