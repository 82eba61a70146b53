/-
  Pools: WriteAt. A lemma file: no statement of the seat is proved here.
-/
import Derived.Test.YtbhjdcoehgajcaaPRead
namespace Go.Proofs.Ytbhjdcoehgajcaa.L.P
open Go.RowKit Go.Maps

/-- C, but for one file. -/
def putC (C : List UInt8 → Option (List Int)) (nm : List UInt8) (c : List Int) : List UInt8 → Option (List Int) := fun x => if x = nm then some c else C x

theorem write_get {c buf : List Int} {at_ D : Nat} (hf : at_ + buf.length ≤ c.length) (hD : D ≤ buf.length) (i : Nat) : (putA c at_ (buf.take D))[i]? = if i < at_ then c[i]? else if i < at_ + D then buf[i - at_]? else c[i]? := by
  rw [putA_get (by omega), List.length_take, Nat.min_eq_left hD]
  split
  · rfl
  · split
    · rw [List.getElem?_take_of_lt (by omega)]
    · rfl

theorem write_len {c buf : List Int} {at_ D : Nat} (hf : at_ + buf.length ≤ c.length) (hD : D ≤ buf.length) : (putA c at_ (buf.take D)).length = c.length := by
  rw [putA_length _ _ _ (by omega), List.length_take]
  omega

theorem write_other {c buf : List Int} {at_ D : Nat} (hf : at_ + buf.length ≤ c.length) (hD : D < buf.length) {i : Nat} (hi : i ≠ (at_ + D) / 64) :
    seg (putA c at_ (buf.take (min (D + (64 - (at_ + D) % 64)) buf.length))) i = seg (putA c at_ (buf.take D)) i := by
  apply List.ext_getElem?
  intro p
  rw [seg_get, seg_get]
  by_cases hp : p < 64
  · rw [if_pos hp, if_pos hp, write_get hf (by omega), write_get hf (by omega)]
    by_cases h1 : 64 * i + p < at_
    · rw [if_pos h1, if_pos h1]
    · rw [if_neg h1, if_neg h1]
      by_cases h2 : 64 * i + p < at_ + D
      · rw [if_pos h2, if_pos (by omega)]
      · rw [if_neg h2, if_neg (by omega)]
  · rw [if_neg hp, if_neg hp]

theorem write_same {c buf : List Int} {at_ D : Nat} (hf : at_ + buf.length ≤ c.length) (hD : D < buf.length) :
    (seg (putA c at_ (buf.take D)) ((at_ + D) / 64)).take ((at_ + D) % 64) ++ ((buf.drop D).take ((seg (putA c at_ (buf.take D)) ((at_ + D) / 64)).length - (at_ + D) % 64) ++ (seg (putA c at_ (buf.take D)) ((at_ + D) / 64)).drop ((at_ + D) % 64 + (buf.drop D).length)) =
      seg (putA c at_ (buf.take (min (D + (64 - (at_ + D) % 64)) buf.length))) ((at_ + D) / 64) := by
  have hl : (seg (putA c at_ (buf.take D)) ((at_ + D) / 64)).length = min 64 (c.length - 64 * ((at_ + D) / 64)) := by rw [seg_len, write_len hf (by omega)]
  rw [hl]
  apply List.ext_getElem?
  intro p
  have e0 : ((seg (putA c at_ (buf.take D)) ((at_ + D) / 64)).take ((at_ + D) % 64)).length = (at_ + D) % 64 := by rw [List.length_take, hl]; omega
  rw [seg_get, List.getElem?_append, e0]
  by_cases h1 : p < (at_ + D) % 64
  · rw [if_pos h1, List.getElem?_take_of_lt h1, seg_get, if_pos (by omega), if_pos (by omega), write_get hf (by omega), write_get hf (by omega)]
    by_cases h2 : 64 * ((at_ + D) / 64) + p < at_
    · rw [if_pos h2, if_pos h2]
    · rw [if_neg h2, if_neg h2, if_pos (by omega), if_pos (by omega)]
  · rw [if_neg h1, List.getElem?_append]
    have e1 : ((buf.drop D).take (min 64 (c.length - 64 * ((at_ + D) / 64)) - (at_ + D) % 64)).length = min (min 64 (c.length - 64 * ((at_ + D) / 64)) - (at_ + D) % 64) (buf.length - D) := by simp
    rw [e1]
    by_cases h2 : p - (at_ + D) % 64 < min (min 64 (c.length - 64 * ((at_ + D) / 64)) - (at_ + D) % 64) (buf.length - D)
    · rw [if_pos h2, List.getElem?_take_of_lt (by omega), List.getElem?_drop, if_pos (by omega), write_get hf (by omega), if_neg (by omega), if_pos (by omega)]
      congr 1
      omega
    · rw [if_neg h2, List.getElem?_drop]
      rw [List.length_drop, seg_get]
      by_cases h3 : p < 64
      · rw [if_pos h3]
        by_cases h4 : buf.length - D ≤ min 64 (c.length - 64 * ((at_ + D) / 64)) - (at_ + D) % 64
        · have ep : (at_ + D) % 64 + (buf.length - D) + (p - (at_ + D) % 64 - min (min 64 (c.length - 64 * ((at_ + D) / 64)) - (at_ + D) % 64) (buf.length - D)) = p := by omega
          rw [ep, if_pos h3, write_get hf (by omega), write_get hf (by omega), if_neg (by omega), if_neg (by omega), if_neg (by omega), if_neg (by omega)]
        · have ep : c.length ≤ 64 * ((at_ + D) / 64) + p := by omega
          rw [List.getElem?_eq_none (l := putA c at_ (buf.take (min (D + (64 - (at_ + D) % 64)) buf.length))) (by rw [write_len hf (by omega)]; exact ep)]
          split
          · rw [List.getElem?_eq_none]
            rw [write_len hf (by omega)]
            omega
          · rfl
      · rw [if_neg h3]
        split
        · rw [List.getElem?_eq_none]
          rw [write_len hf (by omega)]
          omega
        · rfl

section
variable {C : List UInt8 → Option (List Int)} {fr : Int} {l : List Ab} {s : Ds} {ord : List (Place × Nat)}

/-- A page written into. -/
theorem PInv.write {a b : List Pg} {g : Pg} (h : PInv C fr l s ord (a ++ g :: b)) (hnd : ((a ++ g :: b).map Pg.key).Nodup) {c1 c2 : List Int} {j : Nat} (hc : C g.key.1.1.data.toList = some c1) (hj : g.key.1.2 = ((64 * j : Nat) : Int)) (hl : c2.length = c1.length) (ho : ∀ i, i ≠ j → seg c2 i = seg c1 i) :
    PInv (putC C g.key.1.1.data.toList c2) fr l s ord (a ++ { g with bs := seg c2 j, dirty := true } :: b) := by
  have hmem : ∀ y ∈ a ++ { g with bs := seg c2 j, dirty := true } :: b, (y ∈ a ++ g :: b ∧ y.key ≠ g.key) ∨ y = { g with bs := seg c2 j, dirty := true } := fun y hy => by
    rw [List.map_append, List.map_cons, List.nodup_append, List.nodup_cons] at hnd
    rcases List.mem_append.1 hy with hy | hy
    · exact .inl ⟨by simp [hy], fun e => hnd.2.2 _ (List.mem_map.2 ⟨y, hy, rfl⟩) _ (List.mem_cons_self ..) e⟩
    · rcases List.mem_cons.1 hy with rfl | hy
      · exact .inr rfl
      · exact .inl ⟨by simp [hy], fun e => hnd.2.1.1 (List.mem_map.2 ⟨y, hy, e⟩)⟩
  have hback : ∀ y ∈ a ++ g :: b, y.key ≠ g.key → y ∈ a ++ { g with bs := seg c2 j, dirty := true } :: b := fun y hy hn => by
    rcases List.mem_append.1 hy with hy | hy
    · simp [hy]
    · rcases List.mem_cons.1 hy with rfl | hy
      · exact absurd rfl hn
      · simp [hy]
  have hkey : ∀ y : Pg, y.key.1.1.data.toList = g.key.1.1.data.toList → y.key.1.2 = g.key.1.2 → y.key = g.key := fun y e1 e2 => by
    apply Subtype.ext
    apply Prod.ext
    · cases hb : y.key.1.1
      cases hb2 : g.key.1.1
      rw [hb, hb2] at e1
      simp at e1
      rw [e1]
    · exact e2
  obtain ⟨cg, jg, g1, g2, g3, g4⟩ := h.page g (by simp)
  rw [hc] at g1
  cases g1
  have ejg : jg = j := by omega
  subst ejg
  refine ⟨h.up, h.left, fun y hy => ?_, fun nm x hx => ?_, fun nm c3 hc3 => ?_, h.pins, fun k => ?_, h.len, h.one⟩
  · rcases hmem y hy with ⟨hy, hk⟩ | rfl
    · obtain ⟨cy, jy, e1, e2, e3, e4⟩ := h.page y hy
      by_cases hn : y.key.1.1.data.toList = g.key.1.1.data.toList
      · rw [hn, hc] at e1
        cases e1
        have hji : jy ≠ jg := fun e => hk (hkey y hn (by rw [e2, g2, e]))
        exact ⟨c2, jy, by unfold putC; rw [if_pos hn], e2, by omega, by rw [e4, ho jy hji]⟩
      · exact ⟨cy, jy, by unfold putC; rw [if_neg hn]; exact e1, e2, e3, e4⟩
    · exact ⟨c2, jg, by unfold putC; rw [if_pos rfl], g2, by omega, rfl⟩
  · obtain ⟨cx, e1, e2, e3⟩ := h.file nm x hx
    by_cases hn : nm = g.key.1.1.data.toList
    · subst hn
      rw [hc] at e1
      cases e1
      refine ⟨c2, by unfold putC; rw [if_pos rfl], by omega, fun i hi => ?_⟩
      have hij : i ≠ jg := fun e => hi { g with bs := seg c2 jg, dirty := true } (by simp) rfl ⟨rfl, by rw [e]; exact g2⟩
      rw [ho i hij]
      refine e3 i (fun y hy hyd hq => ?_)
      by_cases ek : y.key = g.key
      · rw [ek, g2] at hq
        have := hq.2
        omega
      · exact hi y (hback y hy ek) hyd hq
    · refine ⟨cx, by unfold putC; rw [if_neg hn]; exact e1, e2, fun i hi => e3 i (fun y hy hyd hq => ?_)⟩
      by_cases ek : y.key = g.key
      · rw [ek] at hq
        exact hn hq.1.symm
      · exact hi y (hback y hy ek) hyd hq
  · unfold putC at hc3
    split at hc3
    · rename_i e
      cases hc3
      rw [e]
      have := h.has _ _ hc
      exact ⟨this.1, by rw [hl]; exact this.2⟩
    · exact h.has nm c3 hc3
  · rw [h.keys k]
    constructor
    · rintro ⟨y, hy, rfl⟩
      by_cases ek : y.key = g.key
      · exact ⟨{ g with bs := seg c2 jg, dirty := true }, by simp, ek.symm⟩
      · exact ⟨y, hback y hy ek, rfl⟩
    · rintro ⟨y, hy, rfl⟩
      rcases hmem y hy with ⟨hy, _⟩ | rfl
      · exact ⟨y, hy, rfl⟩
      · exact ⟨g, by simp, rfl⟩

end
end Go.Proofs.Ytbhjdcoehgajcaa.L.P
