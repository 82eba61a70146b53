/-
  What shown answers. A lemma file: no statement of the seat is proved here.
-/
import Derived.Test.YtahhokhhgamelaaDShown
namespace Go.Proofs.Ytahhokhhgamelaa
open Go.RowKit Go.Maps Go.Sort Go.Shelf

/-- The disk of shown, by what it has done. -/
def S10 (used ops : Int) (down : Bool) : Ds := { room := 10, used := used, ops := ops, down := down, left := 0, keep := [] }

theorem shown1 : createA (beginA [] (S10 0 0 false)) [97] = (0, ([([97], [], [])], S10 0 1 false)) := by kernel_rfl
theorem shown2 : appendA (beginA [([97], [], [])] (S10 0 1 false)) [97] (zs0 20) = (0, ([([97], zs0 20, [])], S10 2 2 false)) := by kernel_rfl
theorem shown3 : appendA (beginA [([97], zs0 20, [])] (S10 2 2 false)) [97] (zs0 200) = (6, ([([97], zs0 20, [])], S10 2 3 false)) := by kernel_rfl
theorem shown4 : crashA [] [([97], zs0 20, [])] (S10 2 4 false) = ([([97], [], [])], S10 0 4 true) := by kernel_rfl

theorem shown5 : beginA [([97], zs0 20, [])] (S10 2 3 false) = ([([97], zs0 20, [])], S10 2 4 false) := by kernel_rfl
theorem shown6 : sizeA ([([97], zs0 20, [])], S10 2 4 false) [97] = (20, 0) := by kernel_rfl
theorem shown7 : beginA [([97], [], [])] (S10 0 4 true) = ([([97], [], [])], S10 0 5 true) := by kernel_rfl
theorem shown8 : sizeA ([([97], [], [])], S10 0 5 true) [97] = (0, 7) := by kernel_rfl
theorem shown9 : beginA [([97], [], [])] (S10 0 5 false) = ([([97], [], [])], S10 0 6 false) := by kernel_rfl
theorem shown10 : sizeA ([([97], [], [])], S10 0 6 false) [97] = (0, 0) := by kernel_rfl

theorem str1 (b : UInt8) : (⟨#[b]⟩ : ByteArray).size ≤ maxLen := by
  show 1 ≤ maxLen
  unfold maxLen
  omega

section
variable {B : Nat} {w0 w w1 : World} {p : Nat}

theorem sd1 (h : Sd B w0 w p [] (S10 0 0 false)) : Calls Try.prog 16 #[.pointer (some ⟨p, 0, none⟩), .string ⟨#[97]⟩] w fun e w' => e = .returned (.int .i64 0) ∧ Sd B w0 w' p [([97], [], [])] (S10 0 1 false) :=
  h.create (by decide) ⟨#[97]⟩ (str1 97) shown1
theorem sd2 (h : Sd B w0 w p [([97], [], [])] (S10 0 1 false)) (u : Value) (hb : Below w.heap.size w w1) (hu : RowB w1 u (zs0 20)) (hux : ∀ x ∈ own u, w.heap.size ≤ x) : Calls Try.prog 18 #[.pointer (some ⟨p, 0, none⟩), .string ⟨#[97]⟩, u] w1 fun e w' => e = .returned (.int .i64 0) ∧ Sd B w0 w' p [([97], zs0 20, [])] (S10 2 2 false) :=
  h.appendN (by decide) ⟨#[97]⟩ (str1 97) u _ hb hu.isB (by rw [zs0_length]; omega) hux shown2
theorem sd3 (h : Sd B w0 w p [([97], zs0 20, [])] (S10 2 2 false)) (u : Value) (hb : Below w.heap.size w w1) (hu : RowB w1 u (zs0 200)) (hux : ∀ x ∈ own u, w.heap.size ≤ x) : Calls Try.prog 18 #[.pointer (some ⟨p, 0, none⟩), .string ⟨#[97]⟩, u] w1 fun e w' => e = .returned (.int .i64 6) ∧ Sd B w0 w' p [([97], zs0 20, [])] (S10 2 3 false) :=
  h.appendN (by decide) ⟨#[97]⟩ (str1 97) u _ hb hu.isB (by rw [zs0_length]; omega) hux shown3
theorem sd4 (h : Sd B w0 w p [([97], zs0 20, [])] (S10 2 3 false)) : Calls Try.prog 24 #[.pointer (some ⟨p, 0, none⟩), .string ⟨#[97]⟩] w fun e w' => e = .returned (.tuple #[.int .i64 20, .int .i64 0]) ∧ Sd B w0 w' p [([97], zs0 20, [])] (S10 2 4 false) :=
  h.size (by decide) ⟨#[97]⟩ (str1 97) shown5 shown6
theorem sd5 (h : Sd B w0 w p [([97], zs0 20, [])] (S10 2 4 false)) : Calls Try.prog 35 #[.pointer (some ⟨p, 0, none⟩), .slice none 0 0] w fun e w' => e = .returned (.tuple #[]) ∧ Sd B w0 w' p [([97], [], [])] (S10 0 4 true) :=
  h.crash (by decide) _ [] (IsK.nil _) (fun h => absurd rfl h) (Nat.zero_le _) shown4
theorem sd6 (h : Sd B w0 w p [([97], [], [])] (S10 0 4 true)) : Calls Try.prog 24 #[.pointer (some ⟨p, 0, none⟩), .string ⟨#[97]⟩] w fun e w' => e = .returned (.tuple #[.int .i64 0, .int .i64 7]) ∧ Sd B w0 w' p [([97], [], [])] (S10 0 5 true) :=
  h.size (by decide) ⟨#[97]⟩ (str1 97) shown7 shown8
theorem sd7 (h : Sd B w0 w p [([97], [], [])] (S10 0 5 true)) : Calls Try.prog 37 #[.pointer (some ⟨p, 0, none⟩)] w fun e w' => e = .returned (.tuple #[]) ∧ Sd B w0 w' p [([97], [], [])] (S10 0 5 false) := h.restart
theorem sd8 (h : Sd B w0 w p [([97], [], [])] (S10 0 5 false)) : Calls Try.prog 24 #[.pointer (some ⟨p, 0, none⟩), .string ⟨#[97]⟩] w fun e w' => e = .returned (.tuple #[.int .i64 0, .int .i64 0]) ∧ Sd B w0 w' p [([97], [], [])] (S10 0 6 false) :=
  h.size (by decide) ⟨#[97]⟩ (str1 97) shown9 shown10
theorem sd_used (h : Sd B w0 w p [([97], zs0 20, [])] (S10 2 4 false)) : Calls Try.prog 42 #[.pointer (some ⟨p, 0, none⟩)] w fun e w' => e = .returned (.int .i64 2) ∧ w' = w := h.used
theorem sd_ops (h : Sd B w0 w p [([97], [], [])] (S10 0 6 false)) : Calls Try.prog 41 #[.pointer (some ⟨p, 0, none⟩)] w fun e w' => e = .returned (.int .i64 6) ∧ w' = w := h.ops
theorem sd_room (h : Sd B w0 w p [([97], [], [])] (S10 0 6 false)) : Calls Try.prog 44 #[.pointer (some ⟨p, 0, none⟩)] w fun e w' => e = .returned (.int .i64 10) ∧ w' = w := h.room
theorem sd_down (h : Sd B w0 w p [([97], [], [])] (S10 0 6 false)) : Calls Try.prog 40 #[.pointer (some ⟨p, 0, none⟩)] w fun e w' => e = .returned (.bool false) ∧ w' = w := h.down
end

end Go.Proofs.Ytahhokhhgamelaa
