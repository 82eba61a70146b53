/-
  Caches, as they are told: keys that come one by one. A lemma file: no statement of the seat is proved here.
-/
import Derived.Test.YtokodmeabchmjaaLShown
namespace Go.Proofs.Ytokodmeabchmjaa
open Go.RowKit Go.Maps

theorem and65535 (n : Int) : bits .and .i64 n 65535 = n % 65536 := by
  have hm : (BitVec.ofInt 64 65535).toNat = 2 ^ 16 - 1 := by decide
  have key : (BitVec.ofInt 64 n &&& BitVec.ofInt 64 65535).toNat = (n % ((2 ^ 64 : Nat) : Int)).toNat % 2 ^ 16 := by
    rw [BitVec.toNat_and, BitVec.toNat_ofInt, hm, Nat.and_two_pow_sub_one_eq_mod]
  show IntKind.i64.wrap ((BitVec.ofInt 64 n &&& BitVec.ofInt 64 65535).toNat : Nat) = n % 65536
  rw [key, IntKind.wrap_i64]
  omega

/-- The keys f 0 to f (n - 1), each pinned c times. -/
def upto (f : Nat → Int) (c n : Nat) : List (Int × Nat) := (List.range n).map fun (i : Nat) => (f i, c)

theorem upto_succ (f : Nat → Int) (c n : Nat) : upto f c (n + 1) = upto f c n ++ [(f n, c)] := by simp [upto, List.range_succ]
theorem upto_length (f : Nat → Int) (c n : Nat) : (upto f c n).length = n := by simp [upto]

theorem lookA_none_of {l : List (Int × Nat)} {k : Int} (h : ∀ x ∈ l, x.1 ≠ k) : lookA l k = none := by
  unfold lookA
  rw [Option.map_eq_none_iff, List.find?_eq_none]
  intro x hx
  simpa using h x hx

theorem lookA_snoc {l : List (Int × Nat)} {k : Int} {n : Nat} (h : ∀ x ∈ l, x.1 ≠ k) : lookA (l ++ [(k, n)]) k = some n := by
  unfold lookA
  rw [List.find?_append, List.find?_eq_none.2 (fun x hx => by simpa using h x hx)]
  simp

theorem upto_none {f : Nat → Int} {c n : Nat} {k : Int} (h : ∀ i, i < n → f i ≠ k) : ∀ x ∈ upto f c n, x.1 ≠ k := by
  intro x hx
  obtain ⟨i, hi, rfl⟩ := List.mem_map.1 hx
  exact h i (by simpa using hi)

theorem useA_room {fr : Int} {l : List (Int × Nat)} {k : Int} (h : ∀ x ∈ l, x.1 ≠ k) (hr : (l.length : Int) < fr) : useA fr l k = (none, 0, l ++ [(k, 0)]) := by
  unfold useA
  rw [lookA_none_of h]
  simp only
  rw [if_neg (by omega)]

theorem setA_snoc {l : List (Int × Nat)} {k : Int} {n m : Nat} (h : ∀ x ∈ l, x.1 ≠ k) : setA (l ++ [(k, n)]) k m = l ++ [(k, m)] := by
  unfold setA
  rw [List.map_append]
  congr 1
  · rw [List.map_congr_left (g := id)]
    · simp
    · intro x hx
      simp [h x hx]
  · simp

theorem okI (k : Int) (h0 : -1000000 ≤ k) (h1 : k ≤ 1000000) : kI.ok k := ⟨by omega, by omega⟩

end Go.Proofs.Ytokodmeabchmjaa
