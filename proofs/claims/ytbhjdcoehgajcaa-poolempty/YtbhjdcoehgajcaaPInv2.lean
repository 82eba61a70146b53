/-
  What a file has by the pool, behind a page that is saved. A lemma file: no statement of the seat is proved here.
-/
import Derived.Test.YtbhjdcoehgajcaaPInv
namespace Go.Proofs.Ytbhjdcoehgajcaa.L.P
open Go.RowKit Go.Maps

abbrev DSet := @Go.Proofs.Ytbhjdcoehgajcaa.setA

theorem putA_get {now cs : List Int} {a : Nat} (ha : a ≤ now.length) (i : Nat) : (putA now a cs)[i]? = if i < a then now[i]? else if i < a + cs.length then cs[i - a]? else now[i]? := by
  unfold putA
  have e : (now.take a).length = a := by simp; omega
  rw [List.getElem?_append]
  rw [e]
  split
  · rw [List.getElem?_take_of_lt (by assumption)]
  · rw [List.getElem?_append]
    by_cases h2 : i < a + cs.length
    · rw [if_pos (by omega), if_pos h2]
    · rw [if_neg (by omega), if_neg h2, List.getElem?_drop]
      congr 1
      omega

theorem seg_get (c : List Int) (j i : Nat) : (seg c j)[i]? = if i < 64 then c[64 * j + i]? else none := by
  unfold seg
  split
  · rw [List.getElem?_take_of_lt (by assumption), List.getElem?_drop]
  · rw [List.getElem?_eq_none]
    simp
    omega

theorem seg_put_same {now c : List Int} {j : Nat} (hl : now.length = c.length) (hj : 64 * j < c.length) : seg (putA now (64 * j) (seg c j)) j = seg c j := by
  apply List.ext_getElem?
  intro i
  rw [seg_get]
  by_cases h : i < 64
  · rw [if_pos h, putA_get (by omega), if_neg (by omega)]
    by_cases h2 : 64 * j + i < 64 * j + (seg c j).length
    · rw [if_pos h2]
      congr 1
      omega
    · rw [if_neg h2]
      rw [seg_len] at h2
      rw [List.getElem?_eq_none (by omega), List.getElem?_eq_none (by rw [seg_len]; omega)]
  · rw [if_neg h, List.getElem?_eq_none (by rw [seg_len]; omega)]

theorem seg_put_other {now c : List Int} {j k : Nat} (hl : now.length = c.length) (hj : 64 * j < c.length) (hk : k ≠ j) : seg (putA now (64 * j) (seg c j)) k = seg now k := by
  apply List.ext_getElem?
  intro i
  rw [seg_get, seg_get]
  by_cases h : i < 64
  · rw [if_pos h, if_pos h, putA_get (by omega)]
    split
    · rfl
    · rw [if_neg]
      rw [seg_len]
      omega
  · rw [if_neg h, if_neg h]

theorem put_len {now c : List Int} {j : Nat} (hl : now.length = c.length) (hj : 64 * j < c.length) : (putA now (64 * j) (seg c j)).length = now.length := by
  rw [putA_length _ _ _ (by omega), seg_len]
  omega

theorem look_set {l : List Ab} {x0 y : Ab} {nm0 : List UInt8} (hx : DLook l nm0 = some x0) (hy : y.1 = nm0) (nm : List UInt8) : DLook (DSet l y) nm = if nm = nm0 then some y else DLook l nm := by
  have hx0 : x0.1 = nm0 := (Go.Proofs.Ytbhjdcoehgajcaa.lookA_mem hx).2
  show (l.map fun z => if z.1 == y.1 then y else z).find? (fun x => x.1 == nm) = _
  rw [List.find?_map]
  have e : ((fun x : Ab => x.1 == nm) ∘ fun z : Ab => if z.1 == y.1 then y else z) = fun z : Ab => z.1 == nm := by
    funext z
    simp only [Function.comp]
    split
    · rename_i h
      have : z.1 = y.1 := by simpa using h
      rw [this]
    · rfl
  rw [e]
  by_cases h : nm = nm0
  · subst h
    rw [if_pos rfl]
    rw [show l.find? (fun z : Ab => z.1 == nm) = some x0 from hx]
    simp [hx0, hy]
  · rw [if_neg h]
    show (DLook l nm).map _ = DLook l nm
    cases hz : DLook l nm with
    | none => rfl
    | some z =>
      have hz1 : z.1 = nm := (Go.Proofs.Ytbhjdcoehgajcaa.lookA_mem hz).2
      simp only [Option.map_some]
      rw [if_neg]
      simp only [beq_iff_eq, hz1, hy]
      exact h

section
variable {C : List UInt8 → Option (List Int)} {fr : Int} {l : List Ab} {s : Ds} {ord : List (Place × Nat)}

theorem write_eq {nm : List UInt8} {x : Ab} {a : Nat} {bs : List Int} (hok : okA l s) (hl : s.left = 0) (hd : s.down = false) (hx : DLook l nm = some x) (hf : a + bs.length ≤ x.2.1.length) :
    writeAtA (beginA l s) nm (a : Int) bs = (0, (DSet l (x.1, putA x.2.1 a bs, x.2.2), { s with ops := s.ops + 1, used := s.used + 0 })) := by
  rw [begin_eq hl]
  unfold writeAtA
  rw [err_none (s := { s with ops := s.ops + 1 }) hd hx]
  have hx2 : Go.Proofs.Ytbhjdcoehgajcaa.lookA l nm = some x := hx
  dsimp only
  rw [hx2]
  show writeA l { s with ops := s.ops + 1 } x (a : Int) bs = _
  have hm : moreA x.2.1 a bs = 0 := by
    unfold moreA
    rw [Nat.max_eq_left hf]
    omega
  unfold writeA
  rw [if_neg (by omega)]
  simp only [Int.toNat_natCast, hm]
  rw [if_neg (by have := hok.fits; omega)]

/-- A dirty page saved. -/
theorem PInv.saved {a b : List Pg} {g : Pg} (h : PInv C fr l s ord (a ++ g :: b)) (hok : okA l s) (hnd : ((a ++ g :: b).map Pg.key).Nodup) :
    ∃ A, writeAtA (beginA l s) g.key.1.1.data.toList g.key.1.2 g.bs = (0, A) ∧ PInv C fr A.1 A.2 ord (a ++ { g with dirty := false } :: b) ∧ A.2.ops = s.ops + 1 ∧ g.bs.length ≤ 64 := by
  obtain ⟨c, j, hc, hj, hlt, hb⟩ := h.page g (by simp)
  obtain ⟨⟨x, hx⟩, _⟩ := h.has _ _ hc
  obtain ⟨c2, hc2, hl, hs⟩ := h.file _ _ hx
  rw [hc] at hc2
  cases hc2
  have hxn : x.1 = g.key.1.1.data.toList := (Go.Proofs.Ytbhjdcoehgajcaa.lookA_mem hx).2
  have hbl : g.bs.length = min 64 (c.length - 64 * j) := by rw [hb, seg_len]
  rw [hj]
  refine ⟨_, write_eq hok h.left h.up hx (by rw [hbl, ← hl]; omega), ?_, rfl, by rw [hbl]; omega⟩
  have hmem : ∀ y ∈ a ++ { g with dirty := false } :: b, (y ∈ a ++ g :: b ∧ y.key ≠ g.key) ∨ y = { g with dirty := false } := fun y hy => by
    rw [List.map_append, List.map_cons, List.nodup_append, List.nodup_cons] at hnd
    rcases List.mem_append.1 hy with hy | hy
    · exact .inl ⟨by simp [hy], fun e => hnd.2.2 _ (List.mem_map.2 ⟨y, hy, rfl⟩) _ (List.mem_cons_self ..) e⟩
    · rcases List.mem_cons.1 hy with rfl | hy
      · exact .inr rfl
      · exact .inl ⟨by simp [hy], fun e => hnd.2.1.1 (List.mem_map.2 ⟨y, hy, e⟩)⟩
  have hback : ∀ y ∈ a ++ g :: b, y.key ≠ g.key → y ∈ a ++ { g with dirty := false } :: b := fun y hy hn => by
    rcases List.mem_append.1 hy with hy | hy
    · simp [hy]
    · rcases List.mem_cons.1 hy with rfl | hy
      · exact absurd rfl hn
      · simp [hy]
  refine ⟨h.up, h.left, fun y hy => ?_, fun nm z hz => ?_, fun nm c3 hc3 => ?_, h.pins, fun k => ?_, h.len, h.one⟩
  · rcases hmem y hy with hy | rfl
    · exact h.page y hy.1
    · exact ⟨c, j, hc, hj, hlt, hb⟩
  · have hz2 : DLook (DSet l (x.1, putA x.2.1 (64 * j) g.bs, x.2.2)) nm = some z := hz
    rw [look_set (y := (x.1, putA x.2.1 (64 * j) g.bs, x.2.2)) hx hxn] at hz2
    split at hz2
    · rename_i hnm
      subst hnm
      cases hz2
      refine ⟨c, hc, ?_, fun i hi => ?_⟩
      · show c.length = (putA x.2.1 (64 * j) g.bs).length
        rw [hb, put_len hl.symm hlt, hl]
      · show seg (putA x.2.1 (64 * j) g.bs) i = seg c i
        rw [hb]
        by_cases e : i = j
        · subst e
          exact seg_put_same hl.symm hlt
        · rw [seg_put_other hl.symm hlt e]
          refine hs i (fun y hy hyd hq => ?_)
          by_cases ek : y.key = g.key
          · rw [ek, hj] at hq
            have := hq.2
            omega
          · exact hi y (hback y hy ek) hyd hq
    · obtain ⟨c4, e1, e2, e3⟩ := h.file nm z hz2
      refine ⟨c4, e1, e2, fun i hi => e3 i (fun y hy hyd hq => ?_)⟩
      rename_i hnm
      by_cases ek : y.key = g.key
      · rw [ek] at hq
        exact hnm hq.1.symm
      · exact hi y (hback y hy ek) hyd hq
  · obtain ⟨⟨z, hz⟩, hcl⟩ := h.has nm c3 hc3
    refine ⟨?_, hcl⟩
    show ∃ z, DLook (DSet l (x.1, putA x.2.1 (64 * j) g.bs, x.2.2)) nm = some z
    rw [look_set (y := (x.1, putA x.2.1 (64 * j) g.bs, x.2.2)) hx hxn]
    split
    · exact ⟨_, rfl⟩
    · exact ⟨z, hz⟩
  · rw [h.keys k]
    constructor
    · rintro ⟨y, hy, rfl⟩
      by_cases ek : y.key = g.key
      · exact ⟨{ g with dirty := false }, by simp, ek.symm⟩
      · exact ⟨y, hback y hy ek, rfl⟩
    · rintro ⟨y, hy, rfl⟩
      rcases hmem y hy with hy | rfl
      · exact ⟨y, hy.1, rfl⟩
      · exact ⟨g, by simp, rfl⟩

end
end Go.Proofs.Ytbhjdcoehgajcaa.L.P
