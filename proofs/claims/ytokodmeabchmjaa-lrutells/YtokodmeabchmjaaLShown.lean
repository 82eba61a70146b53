/-
  What shown of layer 5 does. A lemma file: no statement of the seat is proved here.
-/
import Derived.Test.YtokodmeabchmjaaLLawS
import Derived.Test.YtokodmeabchmjaaLLawI
namespace Go.Proofs.Ytokodmeabchmjaa
open Go.RowKit Go.Maps

abbrev sA : ByteArray := ⟨#[97]⟩
abbrev sB : ByteArray := ⟨#[98]⟩
abbrev sC : ByteArray := ⟨#[99]⟩
abbrev sD : ByteArray := ⟨#[100]⟩

theorem str1 (b : UInt8) : kS.ok ⟨#[b]⟩ := by
  show 1 ≤ maxLen
  unfold maxLen
  omega

theorem nat_le {n m : Nat} (h : n ≤ m) : ∀ k, some n = some k → k ≤ m := fun k e => by cases e; exact h

section
variable {w0 w : World} {p : Nat}
open S
theorem sh1 (h : Lc w0 w p 2 0 []) : Calls Try.prog 13 #[.pointer (some ⟨p, 0, none⟩), .string ⟨#[97]⟩] w fun x w' => x = .returned (.tuple #[.string ⟨#[]⟩, .bool false, .int .i64 0]) ∧ Lc w0 w' p 2 1 [(sA, 0)] := h.use (by omega) sA (str1 97) (g := none) (e := 0) (l' := [(sA, 0)]) (by kernel_rfl)
theorem sh2 (h : Lc w0 w p 2 1 [(sA, 0)]) : Calls Try.prog 13 #[.pointer (some ⟨p, 0, none⟩), .string ⟨#[98]⟩] w fun x w' => x = .returned (.tuple #[.string ⟨#[]⟩, .bool false, .int .i64 0]) ∧ Lc w0 w' p 2 2 [(sA, 0), (sB, 0)] := h.use (by omega) sB (str1 98) (g := none) (e := 0) (l' := [(sA, 0), (sB, 0)]) (by kernel_rfl)
theorem sh3 (h : Lc w0 w p 2 2 [(sA, 0), (sB, 0)]) : Calls Try.prog 13 #[.pointer (some ⟨p, 0, none⟩), .string ⟨#[97]⟩] w fun x w' => x = .returned (.tuple #[.string ⟨#[]⟩, .bool false, .int .i64 0]) ∧ Lc w0 w' p 2 3 [(sB, 0), (sA, 0)] := h.use (by omega) sA (str1 97) (g := none) (e := 0) (l' := [(sB, 0), (sA, 0)]) (by kernel_rfl)
theorem sh4 (h : Lc w0 w p 2 3 [(sB, 0), (sA, 0)]) : Calls Try.prog 13 #[.pointer (some ⟨p, 0, none⟩), .string ⟨#[99]⟩] w fun x w' => x = .returned (.tuple #[.string ⟨#[98]⟩, .bool true, .int .i64 0]) ∧ Lc w0 w' p 2 4 [(sA, 0), (sC, 0)] := h.use (by omega) sC (str1 99) (g := some sB) (e := 0) (l' := [(sA, 0), (sC, 0)]) (by kernel_rfl)
theorem sh5 (h : Lc w0 w p 2 4 [(sA, 0), (sC, 0)]) : Calls Try.prog 15 #[.pointer (some ⟨p, 0, none⟩), .string ⟨#[97]⟩] w fun x w' => x = .returned (.int .i64 0) ∧ Lc w0 w' p 2 4 [(sA, 1), (sC, 0)] := h.pin sA (str1 97) (fun n e => nat_le (n := 0) (by omega) n e) (e := 0) (l' := [(sA, 1), (sC, 0)]) (by kernel_rfl)
theorem sh6 (h : Lc w0 w p 2 4 [(sA, 1), (sC, 0)]) : Calls Try.prog 15 #[.pointer (some ⟨p, 0, none⟩), .string ⟨#[99]⟩] w fun x w' => x = .returned (.int .i64 0) ∧ Lc w0 w' p 2 4 [(sA, 1), (sC, 1)] := h.pin sC (str1 99) (fun n e => nat_le (n := 0) (by omega) n e) (e := 0) (l' := [(sA, 1), (sC, 1)]) (by kernel_rfl)
theorem sh7 (h : Lc w0 w p 2 4 [(sA, 1), (sC, 1)]) : Calls Try.prog 13 #[.pointer (some ⟨p, 0, none⟩), .string ⟨#[100]⟩] w fun x w' => x = .returned (.tuple #[.string ⟨#[]⟩, .bool false, .int .i64 8]) ∧ Lc w0 w' p 2 5 [(sA, 1), (sC, 1)] := h.use (by omega) sD (str1 100) (g := none) (e := 8) (l' := [(sA, 1), (sC, 1)]) (by kernel_rfl)
theorem sh8 (h : Lc w0 w p 2 5 [(sA, 1), (sC, 1)]) : Calls Try.prog 19 #[.pointer (some ⟨p, 0, none⟩), .string ⟨#[97]⟩] w fun x w' => x = .returned (.int .i64 9) ∧ Lc w0 w' p 2 5 [(sA, 1), (sC, 1)] := h.drop sA (str1 97) (e := 9) (l' := [(sA, 1), (sC, 1)]) (by kernel_rfl)
theorem sh9 (h : Lc w0 w p 2 5 [(sA, 1), (sC, 1)]) : Calls Try.prog 17 #[.pointer (some ⟨p, 0, none⟩), .string ⟨#[97]⟩] w fun x w' => x = .returned (.int .i64 0) ∧ Lc w0 w' p 2 5 [(sA, 0), (sC, 1)] := h.unpin sA (str1 97) (fun n e => nat_le (n := 1) (by omega) n e) (e := 0) (l' := [(sA, 0), (sC, 1)]) (by kernel_rfl)
theorem sh10 (h : Lc w0 w p 2 5 [(sA, 0), (sC, 1)]) : Calls Try.prog 19 #[.pointer (some ⟨p, 0, none⟩), .string ⟨#[97]⟩] w fun x w' => x = .returned (.int .i64 0) ∧ Lc w0 w' p 2 5 [(sC, 1)] := h.drop sA (str1 97) (e := 0) (l' := [(sC, 1)]) (by kernel_rfl)
theorem sh11 (h : Lc w0 w p 2 5 [(sC, 1)]) : Calls Try.prog 23 #[.pointer (some ⟨p, 0, none⟩), .string ⟨#[99]⟩] w fun x w' => x = .returned (.bool true) ∧ Lc w0 w' p 2 5 [(sC, 1)] := h.has sC (str1 99) (b := true) (by kernel_rfl)
theorem sh12 (h : Lc w0 w p 2 5 [(sC, 1)]) : Calls Try.prog 22 #[.pointer (some ⟨p, 0, none⟩)] w fun x w' => ∃ a cap, x = .returned (.slice a 1 cap) ∧ Lc w0 w' p 2 5 [(sC, 1)] := by
  refine (h.keys sortsTo12 (by omega) (by decide)).mono ?_
  rintro e w' ⟨v, rfl, o, d, _⟩
  obtain ⟨a, cap, rfl⟩ := row_len o
  exact ⟨a, cap, rfl, d⟩
end

set_option maxRecDepth 100000 in
set_option maxHeartbeats 4000000 in
theorem shown_any (w : World) : Calls Try.prog 10 #[] w fun e w' => e = .returned (.bool true) ∧ Below w.heap.size w w' := by
  have NW := hide (S.Lc.new (w0 := w) (w := w) 2 (Below.refl _ _))
  go_enter Try.func10, Try.ntmps10
  go_wp2_with (go_at_call 11; refine NW.out.mono ?_; rintro e w1 ⟨p, rfl, d1⟩; have D1 : Hid (S.Lc w w1 p 2 0 []) := d1; clear d1)
  go_wp2_with fail
  refine (sh1 D1.out).mono ?_
  rintro e w2 ⟨rfl, d2⟩
  have D2 := hide d2
  clear d2
  go_wp2_with fail
  refine (sh2 D2.out).mono ?_
  rintro e w3 ⟨rfl, d3⟩
  have D3 := hide d3
  clear d3
  go_wp2_with fail
  refine (sh3 D3.out).mono ?_
  rintro e w4 ⟨rfl, d4⟩
  have D4 := hide d4
  clear d4
  go_wp2_with fail
  refine (sh4 D4.out).mono ?_
  rintro e w5 ⟨rfl, d5⟩
  have D5 := hide d5
  clear d5
  go_wp2_with fail
  refine (sh5 D5.out).mono ?_
  rintro e w6 ⟨rfl, d6⟩
  have D6 := hide d6
  clear d6
  go_wp2_with fail
  refine (sh6 D6.out).mono ?_
  rintro e w7 ⟨rfl, d7⟩
  have D7 := hide d7
  clear d7
  go_wp2_with fail
  refine (sh7 D7.out).mono ?_
  rintro e w8 ⟨rfl, d8⟩
  have D8 := hide d8
  clear d8
  go_wp2_with fail
  refine (sh8 D8.out).mono ?_
  rintro e w9 ⟨rfl, d9⟩
  have D9 := hide d9
  clear d9
  go_wp2_with fail
  refine (sh9 D9.out).mono ?_
  rintro e w10 ⟨rfl, d10⟩
  have D10 := hide d10
  clear d10
  go_wp2_with fail
  refine (sh10 D10.out).mono ?_
  rintro e w11 ⟨rfl, d11⟩
  have D11 := hide d11
  clear d11
  go_wp2_with fail
  refine (sh11 D11.out).mono ?_
  rintro e w12 ⟨rfl, d12⟩
  have D12 := hide d12
  clear d12
  go_wp2_with fail
  refine (sh12 D12.out).mono ?_
  rintro e w13 ⟨a, cap, rfl, d13⟩
  have D13 := hide d13
  clear d13
  go_wp2_with fail
  go_ret
  exact ⟨rfl, D13.out.bel⟩

end Go.Proofs.Ytokodmeabchmjaa
