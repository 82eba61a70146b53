/-
  A row of texts of one's own: one of its slots, its front; its texts cut. A lemma file: no statement of the seat is proved here.
-/
import Derived.Test.YtjnmggbkclnbkaaBRow2
namespace Go.Proofs.Ytjnmggbkclnbkaa
open Go.RowKit Go.Maps

theorem own_len (a : Option Addr) (n m c c' : Nat) : own (.slice a n c) = own (.slice a m c') := by cases a <;> rfl

/-- A slot of the row. -/
theorem RowT.at {w : World} {g cap : Nat} {bss : List (List Int)} (h : RowT w (.slice (some ⟨g, 0, none⟩) bss.length cap) bss) (k : Nat) (hk : k < bss.length) :
    bss.length ≤ cap ∧ w.frozen? ⟨g, k, none⟩ = false ∧ ∃ a c, w.cell? ⟨g, k, none⟩ = some (.slice a (bss[k]?.getD []).length c) ∧ IsB w (.slice a (bss[k]?.getD []).length c) (bss[k]?.getD []) ∧ (bss[k]?.getD [] ≠ [] → ∀ x ∈ own (.slice a (bss[k]?.getD []).length c), x ≠ g) := by
  obtain ⟨us, hr, hl, h3⟩ := h
  rw [hl] at hr
  have hf := World.ownsRow.frozenAt hr k
  have hc : bss.length ≤ cap := by
    rcases hr.2 with ⟨h', _⟩ | ⟨g', cap', cur, h', _, _, hn, _⟩
    · simp at h'
    · simp at h'
      omega
  have hku : k < us.length := by omega
  have hu := List.getElem?_eq_getElem hku
  have hcell := World.ownsRow.cells hr (g := g) rfl k _ hu
  rw [Addr.add_lit, Nat.zero_add] at hcell
  obtain ⟨hi, hd⟩ := h3 k _ hu
  obtain ⟨a, c, he, _⟩ := hi.form
  rw [he] at hcell hi hd
  exact ⟨hc, hf, a, c, hcell, hi, fun hne x hx => by simpa [own, Value.ownBlock, eq_comm] using hd hne x hx⟩

/-- The row's front. -/
theorem RowT.take {w : World} {a : Option Addr} {n cap : Nat} {bss : List (List Int)} (h : RowT w (.slice a n cap) bss) (m : Nat) (hm : m ≤ bss.length) : RowT w (.slice a m cap) (bss.take m) := by
  obtain ⟨us, hr, hl, h3⟩ := h
  refine ⟨us.take m, ⟨by simp, ?_⟩, by simp; omega, fun j u hu => ?_⟩
  · have e : (us.take m).length = m := by simp; omega
    rw [e]
    rcases hr.2 with ⟨h', h0⟩ | ⟨g', cap', cur, h', hb, hg, hn, hcm, hs, ht⟩
    · simp only [Value.slice.injEq] at h'
      obtain ⟨rfl, rfl, rfl⟩ := h'
      obtain rfl : m = 0 := by omega
      exact .inl ⟨rfl, rfl⟩
    · simp only [Value.slice.injEq] at h'
      obtain ⟨rfl, rfl, rfl⟩ := h'
      refine .inr ⟨g', cap, cur, rfl, hb, hg, by omega, hcm, hs, ?_⟩
      rw [← ht, List.take_take]
      congr 1
      omega
  · have hj : j < m := by
      have := (List.getElem?_eq_some_iff.1 hu).1
      simp at this
      omega
    rw [List.getElem?_take_of_lt hj] at hu ⊢
    rw [own_len a m n cap cap]
    exact h3 j u hu

/-- The first k texts are cut to a thousand bytes. -/
def cutT (k : Nat) (l : List (List Int)) : List (List Int) := (l.take k).map (fun t => t.take 1000) ++ l.drop k

theorem cutT_length (k : Nat) (l : List (List Int)) : (cutT k l).length = l.length := by
  simp [cutT]
  omega
theorem cutT_zero (l : List (List Int)) : cutT 0 l = l := by simp [cutT]
theorem cutT_all (l : List (List Int)) : cutT l.length l = l.map (fun t => t.take 1000) := by simp [cutT]
theorem cutT_at (k : Nat) (l : List (List Int)) (h : k < l.length) : (cutT k l)[k]?.getD [] = l[k]?.getD [] := by
  have e : ((l.take k).map (fun t => t.take 1000)).length = k := by simp; omega
  rw [cutT, List.getElem?_append_right (by omega), e]
  simp
theorem cutT_step (k : Nat) (l : List (List Int)) (h : k < l.length) : (cutT k l).set k ((l[k]?.getD []).take 1000) = cutT (k + 1) l := by
  have e : ((l.take k).map (fun t => t.take 1000)).length = k := by simp; omega
  rw [cutT, List.set_append_right _ _ (by omega), e, Nat.sub_self, cutT, take_snocL l k h, List.map_append, List.append_assoc]
  congr 1
  have e2 := List.drop_eq_getElem_cons h
  simp only [List.map_cons, List.map_nil, List.getElem?_eq_getElem h, Option.getD_some, List.singleton_append]
  rw [e2, List.set_cons_zero]

/-- How many bytes the blocks of the first k texts have. -/
def sizeT (k : Nat) (l : List (List Int)) : Nat := ((l.take k).map (fun t => min t.length 1000 + 6)).sum
theorem sizeT_zero (l : List (List Int)) : sizeT 0 l = 0 := by simp [sizeT]
theorem sizeT_step (k : Nat) (l : List (List Int)) (h : k < l.length) : sizeT (k + 1) l = sizeT k l + (min (l[k]?.getD []).length 1000 + 6) := by
  rw [sizeT, take_snocL l k h, List.map_append, List.sum_append]
  simp [sizeT]
theorem sizeT_le (k : Nat) (l : List (List Int)) : sizeT k l ≤ 1006 * k := by
  induction k with
  | zero => simp [sizeT]
  | succ k ih =>
    by_cases h : k < l.length
    · rw [sizeT_step k l h]
      omega
    · have : sizeT (k + 1) l = sizeT k l := by rw [sizeT, sizeT, List.take_of_length_le (by omega), List.take_of_length_le (by omega)]
      omega
theorem joinB_cons (t : List Int) (l : List (List Int)) : joinB (t :: l) = blkB t ++ joinB l := by simp [joinB]
theorem joinB_size (l : List (List Int)) : (joinB (l.map (fun t => t.take 1000))).length = sizeT l.length l := by
  rw [sizeT, List.take_of_length_le (Nat.le_refl _)]
  induction l with
  | nil => rfl
  | cons t l ih =>
    rw [List.map_cons, joinB_cons, List.length_append, blkB_length, ih, List.map_cons, List.sum_cons, List.length_take]
    omega
theorem okL_cut (l : List (List Int)) : okL (l.map (fun t => t.take 1000)) = true := by
  simp only [okL, List.all_eq_true, decide_eq_true_eq, List.mem_map]
  rintro _ ⟨t, _, rfl⟩
  simp
  omega
theorem cut_bytes (l : List (List Int)) (h : ∀ t ∈ l, ∀ z ∈ t, 0 ≤ z ∧ z ≤ 255) : ∀ t ∈ l.map (fun t => t.take 1000), ∀ z ∈ t, 0 ≤ z ∧ z ≤ 255 := by
  intro t ht z hz
  obtain ⟨s, hs, rfl⟩ := List.mem_map.1 ht
  exact h s hs z (List.mem_of_mem_take hz)

end Go.Proofs.Ytjnmggbkclnbkaa
