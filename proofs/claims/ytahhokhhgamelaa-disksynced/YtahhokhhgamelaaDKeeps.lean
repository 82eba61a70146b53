/-
  What was synced stays; what came behind it is as it was written, or 0s. A lemma file: no statement of the seat is proved here.
-/
import Derived.Test.YtahhokhhgamelaaDBeside
namespace Go.Proofs.Ytahhokhhgamelaa
open Go.RowKit Go.Maps Go.Sort Go.Shelf

/-- A byte of what was written over. -/
theorem over_at (rest : List Int) (a : Nat) (xs : List Int) (i : Nat) (hi : i < (over rest a xs).length) :
    (over rest a xs)[i]? = if a ≤ i ∧ i < a + xs.length then xs[i - a]? else if i < rest.length then rest[i]? else some 0 := by
  have hl := over_length rest a xs
  obtain ⟨R, hR⟩ : ∃ R, R = rest ++ List.replicate (a + xs.length - rest.length) (0 : Int) := ⟨_, rfl⟩
  have hRl : R.length = max rest.length (a + xs.length) := by rw [hR]; simp; omega
  have hRi : i < R.length → R[i]? = if i < rest.length then rest[i]? else some 0 := fun h => by
    rw [hR]
    by_cases h1 : i < rest.length
    · rw [if_pos h1, List.getElem?_append_left h1]
    · rw [if_neg h1, List.getElem?_append_right (by omega), List.getElem?_replicate, if_pos (by rw [hRl] at h; omega)]
  have hta : (R.take a).length = a := by rw [List.length_take]; omega
  unfold over
  rw [← hR]
  by_cases h1 : i < a
  · rw [if_neg (by omega), List.getElem?_append_left (by omega), List.getElem?_take_of_lt h1]
    exact hRi (by omega)
  · rw [List.getElem?_append_right (by omega), hta]
    by_cases h2 : i < a + xs.length
    · rw [if_pos ⟨by omega, h2⟩, List.getElem?_append_left (by omega)]
    · rw [if_neg (by omega), List.getElem?_append_right (by omega), List.getElem?_drop, show a + xs.length + (i - a - xs.length) = i by omega]
      exact hRi (by omega)

theorem seg_at (xs : List Int) (a b i : Nat) (hi : i < b - a) : (seg xs a b)[i]? = xs[a + i]? := by
  unfold seg
  rw [List.getElem?_take_of_lt hi, List.getElem?_drop]

theorem tearTo_keeps (ks : List Bool) (now syn : List Int) (k0 : Nat) (hp : ∀ i, i < syn.length → now[i]? = syn[i]?) (j : Nat) (hj : 16 * j < now.length + 16) :
    syn.length ≤ (tearTo ks now syn k0 j).1.length ∧ (∀ i, i < syn.length → (tearTo ks now syn k0 j).1[i]? = syn[i]?) ∧ (∀ i, syn.length ≤ i → i < (tearTo ks now syn k0 j).1.length → (tearTo ks now syn k0 j).1[i]? = now[i]? ∨ (tearTo ks now syn k0 j).1[i]? = some 0) := by
  induction j with
  | zero => exact ⟨Nat.le_refl _, fun _ _ => rfl, fun i h1 h2 => by simp only [tearTo] at h2; omega⟩
  | succ j ih =>
    obtain ⟨i1, i2, i3⟩ := ih (by omega)
    rw [tearTo]
    split
    · exact ⟨i1, i2, i3⟩
    · split
      · dsimp only
        generalize (tearTo ks now syn k0 j).1 = rest at *
        have hsl := seg_length now (16 * j) (min (16 * j + 16) now.length) (by omega)
        have hol := over_length rest (16 * j) (seg now (16 * j) (min (16 * j + 16) now.length))
        have key : ∀ i, i < (over rest (16 * j) (seg now (16 * j) (min (16 * j + 16) now.length))).length → (over rest (16 * j) (seg now (16 * j) (min (16 * j + 16) now.length)))[i]? = now[i]? ∨ (over rest (16 * j) (seg now (16 * j) (min (16 * j + 16) now.length)))[i]? = if i < rest.length then rest[i]? else some 0 := fun i hi => by
          rw [over_at _ _ _ i hi]
          by_cases h : 16 * j ≤ i ∧ i < 16 * j + (seg now (16 * j) (min (16 * j + 16) now.length)).length
          · rw [if_pos h, seg_at _ _ _ _ (by omega), show 16 * j + (i - 16 * j) = i by omega]
            exact .inl rfl
          · rw [if_neg h]
            exact .inr rfl
        refine ⟨by omega, fun i hi => ?_, fun i h1 h2 => ?_⟩
        · rcases key i (by omega) with h | h
          · rw [h, hp i hi]
          · rw [h, if_pos (by omega), i2 i hi]
        · rcases key i h2 with h | h
          · exact .inl h
          · by_cases hr : i < rest.length
            · rw [if_pos hr] at h
              rw [h]
              exact i3 i h1 hr
            · rw [if_neg hr] at h
              exact .inr h
      · exact ⟨i1, i2, i3⟩

/-- What a crash leaves of a file, some first bytes of which are synced. -/
theorem torn_keeps (ks : List Bool) (bs ps : List Int) :
    bs.length ≤ (tearB ks (bs ++ ps) bs 0).1.length ∧ (tearB ks (bs ++ ps) bs 0).1.length ≤ (bs ++ ps).length ∧ (tearB ks (bs ++ ps) bs 0).1.take bs.length = bs ∧
      (∀ i, bs.length ≤ i → i < (tearB ks (bs ++ ps) bs 0).1.length → (tearB ks (bs ++ ps) bs 0).1[i]?.getD 0 = (bs ++ ps)[i]?.getD 0 ∨ (tearB ks (bs ++ ps) bs 0).1[i]?.getD 0 = 0) := by
  have h0 := tearB_len ks (bs ++ ps) bs 0 (by simp)
  obtain ⟨h1, h2, h3⟩ := tearTo_keeps ks (bs ++ ps) bs 0 (fun i hi => by rw [List.getElem?_append_left hi]) (((bs ++ ps).length + 15) / 16) (by omega)
  have e : (tearTo ks (bs ++ ps) bs 0 (((bs ++ ps).length + 15) / 16)).1 = (tearB ks (bs ++ ps) bs 0).1 := rfl
  rw [e] at h1 h2 h3
  refine ⟨h1, h0.1, ?_, fun i hi hl => ?_⟩
  · apply List.ext_getElem?
    intro i
    by_cases hi : i < bs.length
    · rw [List.getElem?_take_of_lt hi, h2 i hi]
    · rw [List.getElem?_eq_none (by rw [List.length_take]; omega), List.getElem?_eq_none (by omega)]
  · rcases h3 i hi hl with h | h
    · exact .inl (by rw [h])
    · exact .inr (by rw [h]; rfl)

theorem strOfNums_append (a b : List Int) : strOfNums (a ++ b) = strOfNums a ++ strOfNums b := by
  unfold strOfNums
  apply ByteArray.ext
  simp

theorem strOfNums_size (l : List Int) : (strOfNums l).size = l.length := by
  unfold strOfNums
  simp [ByteArray.size]

/-- A byte of a string. -/
theorem str_at (l : List Int) (hb : ∀ z ∈ l, 0 ≤ z ∧ z ≤ 255) (i : Nat) (hi : i < l.length) (w : World) : (Instr.index 9 (.string (strOfNums l)) (.int .i64 (i : Int))).run Try.prog w = .ok (.int .u8 (l[i]?.getD 0)) w := by
  have hs := strOfNums_size l
  rw [run_index_string w 9 (strOfNums l) .i64 (i : Int) Try.underlying9, dif_pos ⟨by omega, by rw [hs]; omega⟩]
  have hz := hb l[i] (List.getElem_mem hi)
  have e : ∀ (h : i < (strOfNums l).size), (strOfNums l)[i]'h = UInt8.ofNat (l[i]).toNat := fun h => by
    show ((l.map (fun n => UInt8.ofNat n.toNat)).toArray)[i]'(by simpa using hi) = _
    simp
  simp only [Int.toNat_natCast, e]
  congr 2
  simp [hi]
  omega

end Go.Proofs.Ytahhokhhgamelaa
