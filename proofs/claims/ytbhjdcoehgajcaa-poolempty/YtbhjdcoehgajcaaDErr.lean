/-
  Operations on a file that there is not; Rename to a name that may not be. A lemma file: no statement of the seat is proved here.
-/
import Derived.Test.YtbhjdcoehgajcaaDShown
namespace Go.Proofs.Ytbhjdcoehgajcaa
open Go.RowKit Go.Maps Go.Sort Go.Shelf

section
variable {w : World} {fp : List Nat} {p : Nat} {l : List Ab} {s : Ds}

set_option maxRecDepth 100000 in
set_option maxHeartbeats 2000000 in
theorem Dk.writeAt_err (h : Dk w fp p l s) (hn : s.ops ≤ 1000000) (nm : ByteArray) (hnm : nm.size ≤ maxLen) (at_ : Int) (a : Option Addr) (n c : Nat) {k : Int} (he : errA (beginA l s) nm.data.toList = some k) :
    Calls Try.prog 48 #[.pointer (some ⟨p, 0, none⟩), .string nm, .int .i64 at_, .slice a n c] w fun e w' => e = .returned (.int .i64 k) ∧ Outc w w' fp p (beginA l s) := by
  obtain ⟨bm, kv, fs, d, rfl, rfl, ho⟩ := h
  have hok := hide (beginA_ok ho)
  have FD := hide (find_err d ho hn nm hnm he)
  have hk := errA_ne he
  have hk0 : ¬ k = 0 := by omega
  clear d ho he hnm
  generalize beginA (fs.map Fl.ab) s = A at FD hok ⊢
  go_enter Try.func48, Try.ntmps48
  go_wp2_with (go_at_call 34; refine FD.out.mono ?_; rintro e w1 ⟨rfl, kv1, fs1, s1, L1⟩; have HL := hide L1; clear L1)
  go_ret
  exact ⟨rfl, HL.out.outc hok.out⟩

set_option maxRecDepth 100000 in
set_option maxHeartbeats 2000000 in
theorem Dk.readAt_err (h : Dk w fp p l s) (hn : s.ops ≤ 1000000) (nm : ByteArray) (hnm : nm.size ≤ maxLen) (at_ n : Int) {k : Int} (he : errA (beginA l s) nm.data.toList = some k) :
    Calls Try.prog 16 #[.pointer (some ⟨p, 0, none⟩), .string nm, .int .i64 at_, .int .i64 n] w fun e w' => e = .returned (.tuple #[.slice none 0 0, .int .i64 k]) ∧ Outc w w' fp p (beginA l s) := by
  obtain ⟨bm, kv, fs, d, rfl, rfl, ho⟩ := h
  have hok := hide (beginA_ok ho)
  have FD := hide (find_err d ho hn nm hnm he)
  have hk := errA_ne he
  have hk0 : ¬ k = 0 := by omega
  clear d ho he hnm
  generalize beginA (fs.map Fl.ab) s = A at FD hok ⊢
  go_enter Try.func16, Try.ntmps16
  go_wp2_with (go_at_call 34; refine FD.out.mono ?_; rintro e w1 ⟨rfl, kv1, fs1, s1, L1⟩; have HL := hide L1; clear L1)
  go_ret2
  exact ⟨rfl, HL.out.outc hok.out⟩

set_option maxRecDepth 100000 in
set_option maxHeartbeats 2000000 in
theorem Dk.sync_err (h : Dk w fp p l s) (hn : s.ops ≤ 1000000) (nm : ByteArray) (hnm : nm.size ≤ maxLen) {k : Int} (he : errA (beginA l s) nm.data.toList = some k) :
    Calls Try.prog 21 #[.pointer (some ⟨p, 0, none⟩), .string nm] w fun e w' => e = .returned (.int .i64 k) ∧ Outc w w' fp p (beginA l s) := by
  obtain ⟨bm, kv, fs, d, rfl, rfl, ho⟩ := h
  have hok := hide (beginA_ok ho)
  have FD := hide (find_err d ho hn nm hnm he)
  have hk := errA_ne he
  have hk0 : ¬ k = 0 := by omega
  clear d ho he hnm
  generalize beginA (fs.map Fl.ab) s = A at FD hok ⊢
  go_enter Try.func21, Try.ntmps21
  go_wp2_with (go_at_call 34; refine FD.out.mono ?_; rintro e w1 ⟨rfl, kv1, fs1, s1, L1⟩; have HL := hide L1; clear L1)
  go_ret
  exact ⟨rfl, HL.out.outc hok.out⟩

end

end Go.Proofs.Ytbhjdcoehgajcaa
