/-
  PutVar over nothing, and how many digits a number has. A lemma file: no statement of the seat is proved here.
-/
import Derived.Test.YtoneaaafdgllbaaShown
namespace Go.Proofs.Ytoneaaafdgllbaa
open Go.RowKit

/-- PutVar(nil, n), the digits named. -/
theorem putVar_nil (n : Int) (xs : List Int) (hx : xs = varB 9 n) (w : World) (h0 : 0 ≤ n) (h1 : n < 18446744073709551616) :
    Calls Try.prog 19 #[.slice none 0 0, .int .u64 n] w fun e w' => ∃ g cap, e = .returned (.slice (some ⟨g, 0, none⟩) xs.length cap) ∧ OwnB w.heap.size w' g cap xs ∧ Below w.heap.size w w' := by
  subst hx
  exact putVar_any (.slice none 0 0) [] n w (IsB.nil w) (by simp) h0 h1

/-- A lesser number has no more digits. -/
theorem varB_mono (f : Nat) (a b : Int) (h : b ≤ a) : (varB f b).length ≤ (varB f a).length := by
  induction f generalizing a b with
  | zero => simp [varB]
  | succ f ih =>
    simp only [varB]
    by_cases hb : 128 ≤ b
    · rw [if_pos hb, if_pos (by omega)]
      have := ih (a / 128) (b / 128) (by omega)
      simp only [List.length_cons]
      omega
    · rw [if_neg hb]
      split <;> simp

theorem varB_one (f : Nat) (m : Int) (h : ¬ 128 ≤ m) : (varB f m).length = 1 := by
  cases f with
  | zero => rfl
  | succ f => rw [varB, if_neg h]; rfl

theorem varB_more (f : Nat) (m : Int) (h : 128 ≤ m) : (varB (f + 1) m).length = (varB f (m / 128)).length + 1 := by
  rw [varB, if_pos h]
  rfl

/-- All digits but the last have the highest bit. -/
theorem varB_high (f : Nat) (n : Int) (h0 : 0 ≤ n) (j : Nat) (hj : j + 1 < (varB f n).length) : 128 ≤ (varB f n)[j]?.getD 0 := by
  induction f generalizing n j with
  | zero => simp [varB] at hj
  | succ f ih =>
    by_cases h : 128 ≤ n
    · rw [varB, if_pos h] at hj ⊢
      cases j with
      | zero => simp; omega
      | succ j =>
        rw [List.getElem?_cons_succ]
        exact ih (n / 128) (by omega) j (by simpa using hj)
    · rw [varB, if_neg h] at hj
      simp at hj

theorem gv_of_dig (bs : List Int) (h : digN 10 bs = 0) : gv bs = (0, 0, false) := by
  have : okV bs = false := by simp [okV, h, shortB]
  simp [gv, this]

/-- A number by digits that ends too early is none. -/
theorem gv_cut (n : Int) (h0 : 0 ≤ n) (k : Nat) (hk : k < (varB 9 n).length) : gv ((varB 9 n).take k) = (0, 0, false) := by
  refine gv_of_dig _ (digN_none 10 _ fun j hj hl => ?_)
  simp only [List.length_take] at hl
  rw [List.getElem?_take_of_lt (by omega)]
  exact varB_high 9 n h0 j (by omega)

/-- A new row of no bytes. -/
theorem OwnB.empty (w : World) (B : Nat) (hB : B ≤ w.heap.size) : OwnB B (w.alloc (.cells #[] 5)) w.heap.size 0 [] :=
  ⟨World.ownsRow_made w #[] 0 hB (by unfold maxLen; omega) rfl, by simp⟩

/-- A number by digits with a digit 0 behind is none. -/
theorem gv_zero (n : Int) (h0 : 0 ≤ n) (z : Int) (hz : 128 ≤ z) : gv ((varB 9 n).set ((varB 9 n).length - 1) z ++ [0]) = (0, 0, false) := by
  have hl := varB_length 9 n
  have hset : ∀ j, j < (varB 9 n).length → 128 ≤ ((varB 9 n).set ((varB 9 n).length - 1) z ++ [0])[j]?.getD 0 := by
    intro j hj
    rw [List.getElem?_append_left (by simpa using hj), List.getElem?_set]
    by_cases e : (varB 9 n).length - 1 = j
    · rw [if_pos e, if_pos (by omega)]
      exact hz
    · rw [if_neg e]
      exact varB_high 9 n h0 j (by omega)
  by_cases h10 : (varB 9 n).length = 10
  · exact gv_of_dig _ (digN_none 10 _ fun j hj _ => hset j (by omega))
  · have hlast : ((varB 9 n).set ((varB 9 n).length - 1) z ++ [0])[(varB 9 n).length]?.getD 0 = 0 := by
      rw [List.getElem?_append_right (by simp)]
      simp
    have hd := digN_found 10 ((varB 9 n).set ((varB 9 n).length - 1) z ++ [0]) (varB 9 n).length (by omega) (by simp) hset (by rw [hlast]; omega)
    have hylen : ((varB 9 n).set ((varB 9 n).length - 1) z ++ [0]).length = (varB 9 n).length + 1 := by simp
    have hk : okV ((varB 9 n).set ((varB 9 n).length - 1) z ++ [0]) = false := by
      unfold okV
      have hs : shortB (((varB 9 n).set ((varB 9 n).length - 1) z ++ [0]).take (digN 10 ((varB 9 n).set ((varB 9 n).length - 1) z ++ [0]))) = false := by
        rw [hd]
        unfold shortB
        rw [List.take_of_length_le (by simp)]
        apply decide_eq_false
        rintro (h | ⟨_, h⟩)
        · rw [hylen] at h
          omega
        · apply h
          rw [hylen, Nat.add_sub_cancel]
          exact hlast
      rw [hs]
      rfl
    simp [gv, hk]

theorem OwnB.cellAt {B : Nat} {w : World} {g cap : Nat} {bs : List Int} (h : OwnB B w g cap bs) (j : Nat) (hj : j < bs.length) : w.cell? ⟨g, j, none⟩ = some (.int .u8 (bs[j]?.getD 0)) := by
  obtain ⟨a, c, he, _, _, h3, _⟩ := h.isB
  simp only [Value.slice.injEq] at he
  obtain ⟨rfl, _, rfl⟩ := he
  have := h3 _ rfl j hj
  rw [Addr.add_lit] at this
  simpa using this

theorem OwnB.frozenAt {B : Nat} {w : World} {g cap : Nat} {bs : List Int} (h : OwnB B w g cap bs) (j : Nat) : w.frozen? ⟨g, j, none⟩ = false := by
  obtain ⟨⟨h1, h2⟩, h3⟩ := h
  rcases h2 with ⟨h, _⟩ | ⟨g', cap', cur, he, hg, hh, _⟩
  · simp at h
  · have e : g' = g := by simp at he; omega
    subst e
    simp [World.frozen?, hh]

theorem OwnB.stored {B : Nat} {w : World} {g cap : Nat} {bs : List Int} (h : OwnB B w g cap bs) (j : Nat) (z : Int) (hz : 0 ≤ z ∧ z ≤ 255) : OwnB B (w.setCell ⟨g, j, none⟩ (.int .u8 z)) g cap (bs.set j z) := by
  refine ⟨?_, fun y hy => ?_⟩
  · have := (h.1.stored j (.int .u8 z)).1
    rw [← List.map_set] at this
    simpa using this
  · rcases List.mem_or_eq_of_mem_set hy with hy | rfl
    · exact h.2 y hy
    · exact hz

theorem i64_and65535 (n : Int) : bits .and .i64 n 65535 = n % 65536 := by
  have hm : (BitVec.ofInt 64 65535).toNat = 2 ^ 16 - 1 := by decide
  have key : (BitVec.ofInt 64 n &&& BitVec.ofInt 64 65535).toNat = (n % ((2 ^ 64 : Nat) : Int)).toNat % 2 ^ 16 := by
    rw [BitVec.toNat_and, BitVec.toNat_ofInt, hm, Nat.and_two_pow_sub_one_eq_mod]
  show IntKind.i64.wrap ((BitVec.ofInt 64 n &&& BitVec.ofInt 64 65535).toNat : Nat) = n % 65536
  rw [key, IntKind.wrap_i64]
  omega

theorem i64_and7 (n : Int) : bits .and .i64 n 7 = n % 8 := by
  have hm : (BitVec.ofInt 64 7).toNat = 2 ^ 3 - 1 := by decide
  have key : (BitVec.ofInt 64 n &&& BitVec.ofInt 64 7).toNat = (n % ((2 ^ 64 : Nat) : Int)).toNat % 2 ^ 3 := by
    rw [BitVec.toNat_and, BitVec.toNat_ofInt, hm, Nat.and_two_pow_sub_one_eq_mod]
  show IntKind.i64.wrap ((BitVec.ofInt 64 n &&& BitVec.ofInt 64 7).toNat : Nat) = n % 8
  rw [key, IntKind.wrap_i64]
  omega

/-- A draw ahead turns nothing. -/
theorem below_undrew {w w' : World} (h : Below w.drew.heap.size w.drew w') : Below w.heap.size w w' := ⟨h.os, h.tape, h.output, h.size, h.block⟩
theorem ownB_undrew {w w' : World} {g cap : Nat} {bs : List Int} (h : OwnB w.drew.heap.size w' g cap bs) : OwnB w.heap.size w' g cap bs := h

end Go.Proofs.Ytoneaaafdgllbaa
