/-
  What is asked at a crash: whether the next sector stays. A lemma file: no statement of the seat is proved here.
-/
import Derived.Test.YtbhjdcoehgajcaaDSame
namespace Go.Proofs.Ytbhjdcoehgajcaa
open Go.RowKit Go.Maps Go.Sort Go.Shelf

/-- Does the k-th sector stay? -/
def staysB (ks : List Bool) (k : Nat) : Bool := ks[k]?.getD false

set_option maxRecDepth 100000 in
set_option maxHeartbeats 1000000 in
theorem stays_any (c kb k : Nat) (kv : Value) (ks : List Bool) (w : World) (hc : w.heap[c]? = some (.cells #[.int .i64 k] 3 (0, 0))) (hk : w.cell? ⟨kb, 0, none⟩ = some kv) (hne : c ≠ kb) (hv : IsK w kv ks) (hcv : ks ≠ [] → c ∉ own kv) (hk2 : k ≤ 1099511627776) (hl : ks.length ≤ 1099511627776) :
    Calls Try.prog 37 #[.pointer (some ⟨c, 0, none⟩), .pointer (some ⟨kb, 0, none⟩)] w fun e w' => e = .returned (.bool (staysB ks k)) ∧ w' = w.setCell ⟨c, 0, none⟩ (.int .i64 ((k + 1 : Nat) : Int)) := by
  have c0 := cell_of_heap hc 0
  have f0 := frozen_of_heap hc 0
  simp at c0
  have hk' : (w.setCell ⟨c, 0, none⟩ (.int .i64 ((k : Int) + 1))).cell? ⟨kb, 0, none⟩ = some kv := (World.cell?_of_block (Below.heap_setCell w _ _ kb (Ne.symm hne))).trans hk
  have e1 : ((k + 1 : Nat) : Int) = (k : Int) + 1 := by omega
  rw [e1]
  obtain ⟨ad, cp, rfl, h1, h2, h3⟩ := hv
  by_cases hlt : k < ks.length
  · obtain ⟨x, rfl⟩ : ∃ x, ad = some x := by
      cases ad with
      | none => rw [(h2 rfl).1] at hlt; simp at hlt
      | some x => exact ⟨x, rfl⟩
    have hx := h3 x rfl k hlt
    have hspot : x.spot = none := by
      have := World.cell?_spot (h3 x rfl 0 (by omega))
      simpa [Addr.add] using this
    obtain ⟨b, off, sp⟩ := x
    simp only at hspot
    subst hspot
    rw [Addr.add_lit] at hx
    have hcb : b ≠ c := fun e => hcv (fun e2 => by subst e2; simp at hlt) (by simp [own, Value.ownBlock, e])
    have hx' : (w.setCell ⟨c, 0, none⟩ (.int .i64 ((k : Int) + 1))).cell? ⟨b, off + k, none⟩ = some (.bool (staysB ks k)) := (World.cell?_of_block (Below.heap_setCell w _ _ b hcb)).trans hx
    generalize staysB ks k = r at hx' ⊢
    have hi : (k : Int) < (ks.length : Int) := by omega
    clear h3 h2 hc hx hk e1 hcv
    go_enter Try.func37, Try.ntmps37
    go_wp2
    go_ret
    exact ⟨rfl, rfl⟩
  · have hs : staysB ks k = false := by simp [staysB, List.getElem?_eq_none (Nat.le_of_not_lt hlt)]
    rw [hs]
    have hi : ¬ (k : Int) < (ks.length : Int) := by omega
    clear h3 h2 hc hk e1 hcv hs
    go_enter Try.func37, Try.ntmps37
    go_wp2
    go_ret
    exact ⟨rfl, rfl⟩

/-- xs laid over rest from a on, 0s ahead of it where rest ends. -/
def over (rest : List Int) (a : Nat) (xs : List Int) : List Int :=
  (rest ++ List.replicate (a + xs.length - rest.length) 0).take a ++ (xs ++ (rest ++ List.replicate (a + xs.length - rest.length) 0).drop (a + xs.length))

/-- What is left of a file, and how many sectors have been asked for, behind its first sectors. -/
def tearTo (ks : List Bool) (now syn : List Int) (k0 : Nat) : Nat → List Int × Nat
  | 0 => (syn, k0)
  | j + 1 =>
    if sameB now syn (16 * j) (min (16 * j + 16) now.length) then tearTo ks now syn k0 j
    else if staysB ks (tearTo ks now syn k0 j).2 then (over (tearTo ks now syn k0 j).1 (16 * j) (seg now (16 * j) (min (16 * j + 16) now.length)), (tearTo ks now syn k0 j).2 + 1)
    else ((tearTo ks now syn k0 j).1, (tearTo ks now syn k0 j).2 + 1)

/-- .. behind all of them. -/
def tearB (ks : List Bool) (now syn : List Int) (k0 : Nat) : List Int × Nat := tearTo ks now syn k0 ((now.length + 15) / 16)

theorem seg_length (xs : List Int) (a b : Nat) (hb : b ≤ xs.length) : (seg xs a b).length = b - a := by simp [seg]; omega

theorem over_length (rest : List Int) (a : Nat) (xs : List Int) : (over rest a xs).length = max rest.length (a + xs.length) := by simp [over]; omega

/-- What is left is as long as what was synced, or less than what was there. -/
theorem tearTo_len (ks : List Bool) (now syn : List Int) (k0 j : Nat) (hj : 16 * j < now.length + 16) (hs : syn.length ≤ now.length) : (tearTo ks now syn k0 j).1.length ≤ now.length ∧ syn.length ≤ (tearTo ks now syn k0 j).1.length ∧ (tearTo ks now syn k0 j).2 ≤ k0 + j ∧ k0 ≤ (tearTo ks now syn k0 j).2 := by
  induction j with
  | zero => simp [tearTo, hs]
  | succ j ih =>
    have ih := ih (by omega)
    unfold tearTo
    split
    · omega
    · split
      · have e := seg_length now (16 * j) (min (16 * j + 16) now.length) (by omega)
        simp only [over_length, e]
        omega
      · simp only
        omega

end Go.Proofs.Ytbhjdcoehgajcaa
