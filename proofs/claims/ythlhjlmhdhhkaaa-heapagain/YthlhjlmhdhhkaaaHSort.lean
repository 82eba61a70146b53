/-
  The document's Sort. A lemma file: no statement of the seat is proved here.
-/
import Derived.Test.YthlhjlmhdhhkaaaHEnd
namespace Go.Proofs.Ythlhjlmhdhhkaaa
open Go.RowKit

set_option maxRecDepth 100000 in
set_option maxHeartbeats 2000000 in
theorem refSort_any {w : World} {v : Value} {l : List Rc} (h : IsR w v l) (hmax : l.length ≤ 100000) :
    Calls Try.prog 15 #[v] w fun e w' => ∃ v', e = .returned v' ∧ RowR w' v' (sortR [] l) ∧ Below w.heap.size w w' := by
  obtain ⟨a, cap, rfl, hcap⟩ := h.form
  have HI := hide h
  have R0 := hide (rowR_empty w)
  have B0 : Hid (Below w.heap.size w (w.alloc (.cells #[] 30))) := (Below.refl _ w).alloc (Nat.le_refl _) _
  clear h
  go_enter Try.func15, Try.ntmps15
  go_wp2
  go_loopw [3, 4] (fun vo vi wr => ∃ i : Nat, vi = .int .i64 i ∧ i ≤ l.length ∧ Hid (RowR wr vo (sortR [] (l.take i))) ∧ Hid (Below w.heap.size w wr)) (fun _ vi _ => l.length + 1 - numOf vi)
  case atStart => exact ⟨0, by first | rfl | go_num, Nat.zero_le _, R0.out, B0.out⟩
  case round =>
    obtain ⟨i, rfl, hi, HR, HB⟩ := hrel
    have hw1 : IntKind.i64.wrap ((i : Int) + 1) = (i : Int) + 1 := i64_small _ (by omega) (by omega)
    by_cases hil : i < l.length
    · obtain ⟨b, off, rfl, d1, d2⟩ := HI.out.read HB.out i hil
      obtain ⟨x, hx⟩ : ∃ x, x = l[i]! := ⟨_, rfl⟩
      rw [← hx] at d1 d2
      have hox : okR x := by rw [hx]; exact HI.out.okAt i hil
      have HX := hide (And.intro hx hox)
      clear hx hox
      obtain ⟨x1, x2⟩ := x
      simp only at d1 d2
      go_wp2_with fail
      refine (refPut_any HR.out.isR (sortR_rises (by simp [Rises]) _) (by rw [sortR_length]; simp; omega) x1 x2 HX.out.2).mono ?_
      rintro e w3 ⟨v3, rfl, r3, b3, n3⟩
      have R3 := hide r3
      have B3 := hide b3
      clear r3 b3 n3
      go_wp2
      go_roundw
      case rel =>
        refine ⟨i + 1, by go_num, by omega, ?_, below_then HB.out B3.out⟩
        have := R3.out
        rw [HX.out.1, sortR_snoc _ _ _ hil] at this
        exact this
      case measure => simp [numOf]; omega
    · obtain rfl : i = l.length := by omega
      go_wp2
      go_ret
      refine ⟨_, rfl, ?_, HB.out⟩
      have := HR.out
      rw [List.take_length] at this
      exact this

theorem i64_and65535 (n : Int) : bits .and .i64 n 65535 = n % 65536 := by
  have hm : (BitVec.ofInt 64 65535).toNat = 2 ^ 16 - 1 := by decide
  have key : (BitVec.ofInt 64 n &&& BitVec.ofInt 64 65535).toNat = (n % ((2 ^ 64 : Nat) : Int)).toNat % 2 ^ 16 := by
    rw [BitVec.toNat_and, BitVec.toNat_ofInt, hm, Nat.and_two_pow_sub_one_eq_mod]
  show IntKind.i64.wrap ((BitVec.ofInt 64 n &&& BitVec.ofInt 64 65535).toNat : Nat) = n % 65536
  rw [key, IntKind.wrap_i64]
  omega

theorem IsR.take {w : World} {a : Option Addr} {n cap : Nat} {l : List Rc} (h : IsR w (.slice a n cap) l) (k : Nat) (hk : k ≤ l.length) : IsR w (.slice a k cap) (l.take k) := by
  obtain ⟨a', cap', e, h1, h2, h3, h4⟩ := h
  simp only [Value.slice.injEq] at e
  obtain ⟨rfl, rfl, rfl⟩ := e
  have hl : (l.take k).length = k := by rw [List.length_take]; omega
  refine ⟨a, cap, by rw [hl], by omega, fun e => ⟨by rw [(h2 e).1]; simp, (h2 e).2⟩, fun x hx j u hu => ?_, fun e he => h4 e (List.mem_of_mem_take he)⟩
  rw [flatR_take] at hu
  have hj : j < k * 2 := by
    have := (List.getElem?_eq_some_iff.1 hu).1
    simp at this
    omega
  rw [List.getElem?_take_of_lt hj] at hu
  exact h3 x hx j u hu

theorem insR_head {x : Rc} {S : List Rc} (h : Rises (x :: S)) : insR x S = x :: S :=
  Rises.unique (insR_rises _ (List.pairwise_cons.1 h).2) h (insR_perm _ _)

theorem H1.stayB {w0 w w' : World} {hs : Bx} {p : Nat} {S R : List Rc} {ov : Value} (h : H1 w0 w hs p S ov R) (hb : Below w.heap.size w w') : H1 w0 w' hs p S ov R := h.stay (Kept.of_below hb)

end Go.Proofs.Ythlhjlmhdhhkaaa
