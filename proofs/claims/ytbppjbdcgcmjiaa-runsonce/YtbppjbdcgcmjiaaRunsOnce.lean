/-
  Proved: for every slice of records and how, RunsOnce returns true and leaves the slice as it was (sorted once more it is the same; by Sum and Min there is one of each key). No condition.
-/
import Derived.Deep.QuietTactic
import Derived.BigQuiet
import Derived.WalkKit
import Derived.ProofKit
import Derived.OpenShut
import Derived.ShutString
import Derived.Test.YtbppjbdcgcmjiaaQFew
namespace Go.Proofs.Ytbppjbdcgcmjiaa.runsOnce
open Go.ChangeShapes Go.WideShapes Go.ChangeAt Go.RowKit
open Go.ChangeMaps (open_string shut_string)
set_option linter.unusedVariables false

theorem own : ownKnob Try.prog.godebug = none := by kernel_rfl
theorem laidOut : laidOutB Try.prog = true := by kernel_rfl


/-! ### The walk -/
set_option maxRecDepth 100000 in
set_option maxHeartbeats 20000000 in
theorem walk (a0 : Option Addr) (len0 cap0 : Nat) (es0 : List Rc) (a1 : Int) (w : World) (i0 : IsR w (.slice a0 len0 cap0) es0) (l0 : es0.length = len0) (m0 : len0 ≤ maxLen) (w1 : (Lit.int .i64 a1).wf = true) :
    Calls Try.prog 7 #[.slice a0 len0 cap0, .int .i64 a1] w fun e w' => e = .returned (.bool true) ∧ Below w.heap.size w w' := by
  subst l0
  unfold maxLen at m0
  obtain ⟨r, hcr, hr3⟩ : ∃ r : Nat, (bits .and .i64 a1 65535).tmod 3 = (r : Int) ∧ r < 3 := by
    refine ⟨((a1 % 65536).tmod 3).toNat, ?_, ?_⟩
    · rw [i64_and65535]
      have := Int.tmod_nonneg 3 (show 0 ≤ a1 % 65536 by omega)
      omega
    · have h1 := Int.tmod_nonneg 3 (show 0 ≤ a1 % 65536 by omega)
      have h2 := Int.tmod_lt_of_pos (a1 % 65536) (show (0 : Int) < 3 by omega)
      omega
  have hmay : mayH (r : Int) = true := by
    have : r = 0 ∨ r = 1 ∨ r = 2 := by omega
    rcases this with rfl | rfl | rfl <;> rfl
  have SH := hide (shown_any w)
  have I0 := hide i0
  have HOK : Hid (∀ e ∈ es0.take 100, okR e) := by
    obtain ⟨_, _, _, _, _, _, h⟩ := I0.out
    exact fun e he => h e (List.mem_of_mem_take he)
  have HM := hide hmay
  clear i0 hmay
  obtain ⟨S, hS⟩ : ∃ S, S = canR (r : Int) (es0.take 100) := ⟨_, rfl⟩
  have hSS : canR (r : Int) S = S := by rw [hS]; exact can_can HOK.out
  have hSl : S.length ≤ 100 := by rw [hS]; have := canR_le (r : Int) (es0.take 100); simp at this; omega
  have hSr : Rises S := by rw [hS]; exact canR_rises HOK.out
  have hSs : 0 < r → Strict S := fun h => by rw [hS]; exact canR_strict (by omega) HOK.out
  have hS0 : r = 0 → S.length = min es0.length 100 := fun h => by
    subst h
    rw [hS]
    show (canR 0 _).length = _
    rw [canR_zero, sortR_length]
    simp
    omega
  have HS := hide (And.intro hS (And.intro hSS hSl))
  have HR := hide (And.intro hSr (And.intro hSs hS0))
  clear hS hSS hSl hSr hSs hS0
  go_enter Try.func7, Try.ntmps7
  go_wp2_with fail
  refine SH.out.mono ?_
  rintro e w1 ⟨rfl, b1⟩
  have I1 := hide (I0.out.below b1)
  have B1 := hide b1
  clear b1 SH
  go_wp2_with fail
  refine (few_any I1.out (by omega)).mono ?_
  rintro e w2 ⟨v2, rfl, r2, b2, n2⟩
  have R2 := hide (And.intro r2.isR (B1.out.trans (b2.mono B1.out.size)))
  clear r2 b2 n2
  go_wp2_with fail
  refine (sorted_any v2 (es0.take 100) (r : Int) _ R2.out.1 (by simp; omega) HM.out).mono ?_
  rintro e w3 ⟨v3, rfl, r3, b3, n3⟩
  rw [show foldR (r : Int) (sortR [] (es0.take 100)) = S from HS.out.1.symm] at r3
  have R3 := hide (And.intro r3.isR (R2.out.2.trans (b3.mono R2.out.2.size)))
  clear r3 b3 n3 R2
  go_wp2_with fail
  refine (sorted_any v3 S (r : Int) _ R3.out.1 (by have := HS.out.2.2; omega) HM.out).mono ?_
  rintro e w4 ⟨v4, rfl, r4, b4, n4⟩
  rw [show foldR (r : Int) (sortR [] S) = S from HS.out.2.1] at r4
  have R4 := hide (And.intro (R3.out.1.below b4) (And.intro r4.isR (R3.out.2.trans (b4.mono R3.out.2.size))))
  clear r4 b4 n4 R3
  go_wp2_with fail
  refine (same_any R4.out.1 R4.out.2.1 (by have := HS.out.2.2; omega)).mono ?_
  rintro e w5 ⟨rfl, k5⟩
  rw [show decide (S = S) = true by simp]
  have R5 := hide (And.intro (R4.out.1.kept k5 (fun _ _ => by simp)) (R4.out.2.2.trans (k5.below R4.out.2.2.size (by simp))))
  clear k5 R4
  obtain ⟨a3, c3, e3, hc3⟩ := R5.out.1.form
  subst e3
  obtain ⟨n, hn⟩ : ∃ n, n = S.length := ⟨_, rfl⟩
  have HN := hide hn
  rw [← hn] at R5
  rw [← hn]
  have hn1 : n ≤ 100 := by have := HS.out.2.2; omega
  clear hn hc3
  go_wp2
  go_loopw [10] (fun v wr => ∃ i : Nat, v = .int .i64 (i : Int) ∧ 1 ≤ i ∧ (i ≤ n ∨ i = 1) ∧ Hid (IsR wr (.slice a3 n c3) S ∧ Below w.heap.size w wr)) (fun v _ => n + 1 - numOf v)
  case atStart => exact ⟨1, rfl, Nat.le_refl _, .inr rfl, R5.out⟩
  case round =>
    obtain ⟨i, rfl, hi1, hi, HI⟩ := hrel
    obtain ⟨k, hk⟩ : ∃ k, i = k + 1 := ⟨i - 1, by omega⟩
    have hw1 : IntKind.i64.wrap ((i : Int) + 1) = (i : Int) + 1 := i64_small _ (by omega) (by omega)
    have hw2 : IntKind.i64.wrap ((i : Int) - 1) = (k : Int) := by rw [i64_small _ (by omega) (by omega)]; omega
    by_cases hin : i < n
    · have hin' : (i : Int) < (n : Int) := by omega
      have hnl := HN.out
      obtain ⟨g, o, c, e, _, hc⟩ := HI.out.1.opened (by omega)
      simp only [Value.slice.injEq] at e
      obtain ⟨rfl, hx1, rfl⟩ := e
      clear hx1
      obtain ⟨x, hx⟩ : ∃ x, x = S[i]! := ⟨_, rfl⟩
      obtain ⟨y, hy⟩ : ∃ y, y = S[k]! := ⟨_, rfl⟩
      have hxy : ltR x y = false := by rw [hx, hy]; exact rises_at HR.out.1 k i (by omega) (by omega)
      have hkey : 0 < r → (x.1 == y.1) = false := fun h => by
        have := List.pairwise_iff_getElem.1 (HR.out.2.1 h) k i (by omega) (by omega) (by omega)
        rw [hx, hy, getElem!_pos S i (by omega), getElem!_pos S k (by omega)]
        simp
        omega
      have hcs : ∀ W, Below wr.heap.size wr W → (W.cell? ⟨g, o + i * 2, none⟩ = some (.int .u64 x.1) ∧ W.cell? ⟨g, o + i * 2 + 1, none⟩ = some (.int .u64 x.2)) ∧ W.cell? ⟨g, o + k * 2, none⟩ = some (.int .u64 y.1) ∧ W.cell? ⟨g, o + k * 2 + 1, none⟩ = some (.int .u64 y.2) := fun W hb => by
        obtain ⟨g', o', c', e', _, hc'⟩ := (HI.out.1.below hb).opened (by omega)
        simp only [Value.slice.injEq, Option.some.injEq, Addr.mk.injEq, and_true] at e'
        obtain ⟨⟨rfl, rfl⟩, _⟩ := e'
        rw [hx, hy]
        exact ⟨hc' i (by omega), hc' k (by omega)⟩
      have HCS := hide hcs
      clear hc hcs hnl hx hy
      obtain ⟨x1, x2⟩ := x
      obtain ⟨y1, y2⟩ := y
      have LS : Hid (∀ W, Calls Try.prog 22 #[.agg #[.int .u64 x1, .int .u64 x2], .agg #[.int .u64 y1, .int .u64 y2]] W fun e w' => e = .returned (.bool false) ∧ Below W.heap.size W w') := fun W => by have := less_any x1 x2 y1 y2 W; rw [hxy] at this; exact this
      clear hxy
      have c0 := HCS.out wr (Below.refl _ _)
      dsimp only at c0 hkey
      obtain ⟨⟨c1, c2⟩, d1, d2⟩ := c0
      have hk0 : (k : Int) < (n : Int) := by omega
      clear hk
      by_cases hr0 : r = 0
      · have hz1 : ¬ 0 < r := by omega
        have hz2 : decide (0 < r) = false := decide_eq_false hz1
        clear hkey hr0
        go_wp2
        refine wp_region_held_drew (S := (fun W => (W.cell? ⟨g, o + i * 2, none⟩ = some (.int .u64 x1) ∧ W.cell? ⟨g, o + i * 2 + 1, none⟩ = some (.int .u64 x2)) ∧ W.cell? ⟨g, o + k * 2, none⟩ = some (.int .u64 y1) ∧ W.cell? ⟨g, o + k * 2 + 1, none⟩ = some (.int .u64 y2))) (by kernel_rfl) (by first | exact HCS.out _ (Below.refl _ _).drew | exact HCS.out _ b2') (fun hHeld => ?_)
        refine wpAnyH_take (i := 0) (oi := { dst := some 46, op := Op.move (Operand.tmp 6), type := 22, pos := "law.go:104", after := #[], guard := none }) (v := ?_) rfl (by kernel_rfl) (by kernel_rfl) (by kernel_rfl) (fun _ _ _ h => h) (Or.inl ⟨by rfl, ?_⟩) (by assumption) ?_
        rotate_left
        · (intro w hSw; (try dsimp only at hSw); go_simp; (try with_reducible rfl))
        simp only [Act.put, List.setIfInBounds_toArray, List.set_cons_zero, List.set_cons_succ]
        refine wpAnyH_take (i := 1) (oi := { dst := some 47, op := Op.move (Operand.tmp 10), type := 3, pos := "law.go:104", after := #[], guard := none }) (v := ?_) rfl (by kernel_rfl) (by kernel_rfl) (by kernel_rfl) (fun _ _ _ h => h) (Or.inl ⟨by rfl, ?_⟩) (by assumption) ?_
        rotate_left
        · (intro w hSw; (try dsimp only at hSw); go_simp; (try with_reducible rfl))
        simp only [Act.put, List.setIfInBounds_toArray, List.set_cons_zero, List.set_cons_succ]
        refine wpAnyH_take (i := 2) (oi := { dst := some 48, op := Op.indexAddr 22 (Operand.tmp 46) (Operand.tmp 47), type := 0, pos := "law.go:104", after := #[{ on := 0, ground := Ground.data }, { on := 1, ground := Ground.data }], guard := none }) (v := ?_) rfl (by kernel_rfl) (by kernel_rfl) (by kernel_rfl) (fun _ _ _ h => h) (Or.inl ⟨by rfl, ?_⟩) (by assumption) ?_
        rotate_left
        · (intro w hSw; (try dsimp only at hSw); go_simp; (try with_reducible rfl))
        simp only [Act.put, List.setIfInBounds_toArray, List.set_cons_zero, List.set_cons_succ]
        refine wpAnyH_take (i := 3) (oi := { dst := some 49, op := Op.load 44 (Operand.tmp 48), type := 44, pos := "law.go:104", after := #[{ on := 2, ground := Ground.data }], guard := none }) (v := ?_) rfl (by kernel_rfl) (by kernel_rfl) (by kernel_rfl) (fun _ _ _ h => h) (Or.inl ⟨by rfl, ?_⟩) (by assumption) ?_
        rotate_left
        · (intro w hSw; (try dsimp only at hSw); go_simp; (try with_reducible rfl))
        simp only [Act.put, List.setIfInBounds_toArray, List.set_cons_zero, List.set_cons_succ]
        refine wpAnyH_take (i := 4) (oi := { dst := some 50, op := Op.move (Operand.tmp 6), type := 22, pos := "law.go:104", after := #[], guard := none }) (v := ?_) rfl (by kernel_rfl) (by kernel_rfl) (by kernel_rfl) (fun _ _ _ h => h) (Or.inl ⟨by rfl, ?_⟩) (by assumption) ?_
        rotate_left
        · (intro w hSw; (try dsimp only at hSw); go_simp; (try with_reducible rfl))
        simp only [Act.put, List.setIfInBounds_toArray, List.set_cons_zero, List.set_cons_succ]
        refine wpAnyH_take (i := 5) (oi := { dst := some 51, op := Op.move (Operand.tmp 10), type := 3, pos := "law.go:104", after := #[], guard := none }) (v := ?_) rfl (by kernel_rfl) (by kernel_rfl) (by kernel_rfl) (fun _ _ _ h => h) (Or.inl ⟨by rfl, ?_⟩) (by assumption) ?_
        rotate_left
        · (intro w hSw; (try dsimp only at hSw); go_simp; (try with_reducible rfl))
        simp only [Act.put, List.setIfInBounds_toArray, List.set_cons_zero, List.set_cons_succ]
        refine wpAnyH_take (i := 6) (oi := { dst := some 52, op := Op.binOp BinOp.sub 3 (Operand.tmp 51) (Operand.const (Value.int IntKind.i64 1)) 3, type := 3, pos := "law.go:104", after := #[{ on := 5, ground := Ground.data }], guard := none }) (v := ?_) rfl (by kernel_rfl) (by kernel_rfl) (by kernel_rfl) (fun _ _ _ h => h) (Or.inl ⟨by rfl, ?_⟩) (by assumption) ?_
        rotate_left
        · (intro w hSw; (try dsimp only at hSw); go_simp; (try with_reducible rfl))
        simp only [Act.put, List.setIfInBounds_toArray, List.set_cons_zero, List.set_cons_succ]
        refine wpAnyH_take (i := 7) (oi := { dst := some 53, op := Op.indexAddr 22 (Operand.tmp 50) (Operand.tmp 52), type := 0, pos := "law.go:104", after := #[{ on := 4, ground := Ground.data }, { on := 6, ground := Ground.data }], guard := none }) (v := ?_) rfl (by kernel_rfl) (by kernel_rfl) (by kernel_rfl) (fun _ _ _ h => h) (Or.inl ⟨by rfl, ?_⟩) (by assumption) ?_
        rotate_left
        · (intro w hSw; (try dsimp only at hSw); go_simp; (try with_reducible rfl))
        simp only [Act.put, List.setIfInBounds_toArray, List.set_cons_zero, List.set_cons_succ]
        refine wpAnyH_take (i := 8) (oi := { dst := some 54, op := Op.load 44 (Operand.tmp 53), type := 44, pos := "law.go:104", after := #[{ on := 7, ground := Ground.data }], guard := none }) (v := ?_) rfl (by kernel_rfl) (by kernel_rfl) (by kernel_rfl) (fun _ _ _ h => h) (Or.inl ⟨by rfl, ?_⟩) (by assumption) ?_
        rotate_left
        · (intro w hSw; (try dsimp only at hSw); go_simp; (try with_reducible rfl))
        simp only [Act.put, List.setIfInBounds_toArray, List.set_cons_zero, List.set_cons_succ]
        refine wpAnyH_ready (rs := [9]) (by kernel_rfl) (by simp) ?_
        refine AllReadyH.cons rfl (fun K hK => ?_) AllReadyH.nil
        go_simp
        go_wp2_with (first | (go_at_call 22; refine (LS.out _).mono ?_; rintro e w2 ⟨rfl, b2⟩; have b2' : Below wr.heap.size wr w2 := ⟨b2.os, b2.tape, b2.output, b2.size, b2.block⟩))
        refine hK.out _ _ ?_ (fun hHeld => ?_)
        · first | exact HCS.out _ (Below.refl _ _).drew | exact HCS.out _ b2'
        clear hK K
        refine wpAnyH_take (i := 10) (oi := { dst := some 56, op := Op.move (Operand.tmp 55), type := 4, pos := "law.go:104", after := #[{ on := 9, ground := Ground.data }, { on := 9, ground := Ground.chain }], guard := none }) (v := ?_) rfl (by kernel_rfl) (by kernel_rfl) (by kernel_rfl) (fun _ _ _ h => h) (Or.inl ⟨by rfl, ?_⟩) (by assumption) ?_
        rotate_left
        · (intro w hSw; (try dsimp only at hSw); go_simp; (try with_reducible rfl))
        simp only [Act.put, List.setIfInBounds_toArray, List.set_cons_zero, List.set_cons_succ]
        refine wpAnyH_take (i := 11) (oi := { dst := some 57, op := Op.move (Operand.tmp 1), type := 3, pos := "law.go:104", after := #[{ on := 10, ground := Ground.guard }], guard := some (10, false) }) (v := ?_) rfl (by kernel_rfl) (by kernel_rfl) (by kernel_rfl) (fun _ _ _ h => h) (Or.inl ⟨by rfl, ?_⟩) (by assumption) ?_
        rotate_left
        · (intro w hSw; (try dsimp only at hSw); go_simp; (try with_reducible rfl))
        simp only [Act.put, List.setIfInBounds_toArray, List.set_cons_zero, List.set_cons_succ]
        refine wpAnyH_take (i := 12) (oi := { dst := some 58, op := Op.binOp BinOp.gtr 3 (Operand.tmp 57) (Operand.const (Value.int IntKind.i64 0)) 3, type := 4, pos := "law.go:104", after := #[{ on := 11, ground := Ground.data }, { on := 10, ground := Ground.guard }], guard := some (10, false) }) (v := ?_) rfl (by kernel_rfl) (by kernel_rfl) (by kernel_rfl) (fun _ _ _ h => h) (Or.inl ⟨by rfl, ?_⟩) (by assumption) ?_
        rotate_left
        · (intro w hSw; (try dsimp only at hSw); go_simp; (try with_reducible rfl))
        simp only [Act.put, List.setIfInBounds_toArray, List.set_cons_zero, List.set_cons_succ]
        refine wpAnyH_take (i := 13) (oi := { dst := some 59, op := Op.move (Operand.tmp 58), type := 4, pos := "law.go:104", after := #[{ on := 12, ground := Ground.data }, { on := 10, ground := Ground.chain }, { on := 10, ground := Ground.guard }], guard := some (10, false) }) (v := ?_) rfl (by kernel_rfl) (by kernel_rfl) (by kernel_rfl) (fun _ _ _ h => h) (Or.inl ⟨by rfl, ?_⟩) (by assumption) ?_
        rotate_left
        · (intro w hSw; (try dsimp only at hSw); go_simp; (try with_reducible rfl))
        simp only [Act.put, List.setIfInBounds_toArray, List.set_cons_zero, List.set_cons_succ]
        refine wpAnyH_take (i := 14) (oi := { dst := some 60, op := Op.move (Operand.tmp 6), type := 22, pos := "law.go:104", after := #[{ on := 13, ground := Ground.guard }], guard := some (13, true) }) (v := undef) rfl (by kernel_rfl) (by kernel_rfl) (by kernel_rfl) (fun _ _ _ h => h) (Or.inr ⟨by kernel_rfl, rfl⟩) (by assumption) ?_
        simp only [Act.put, List.setIfInBounds_toArray, List.set_cons_zero, List.set_cons_succ]
        refine wpAnyH_take (i := 15) (oi := { dst := some 61, op := Op.move (Operand.tmp 10), type := 3, pos := "law.go:104", after := #[{ on := 13, ground := Ground.guard }], guard := some (13, true) }) (v := undef) rfl (by kernel_rfl) (by kernel_rfl) (by kernel_rfl) (fun _ _ _ h => h) (Or.inr ⟨by kernel_rfl, rfl⟩) (by assumption) ?_
        simp only [Act.put, List.setIfInBounds_toArray, List.set_cons_zero, List.set_cons_succ]
        refine wpAnyH_take (i := 16) (oi := { dst := some 62, op := Op.indexAddr 22 (Operand.tmp 60) (Operand.tmp 61), type := 0, pos := "law.go:104", after := #[{ on := 14, ground := Ground.data }, { on := 15, ground := Ground.data }, { on := 13, ground := Ground.guard }], guard := some (13, true) }) (v := undef) rfl (by kernel_rfl) (by kernel_rfl) (by kernel_rfl) (fun _ _ _ h => h) (Or.inr ⟨by kernel_rfl, rfl⟩) (by assumption) ?_
        simp only [Act.put, List.setIfInBounds_toArray, List.set_cons_zero, List.set_cons_succ]
        refine wpAnyH_take (i := 17) (oi := { dst := some 63, op := Op.fieldAddr 44 (Operand.tmp 62) 0, type := 0, pos := "law.go:104", after := #[{ on := 16, ground := Ground.data }, { on := 13, ground := Ground.guard }], guard := some (13, true) }) (v := undef) rfl (by kernel_rfl) (by kernel_rfl) (by kernel_rfl) (fun _ _ _ h => h) (Or.inr ⟨by kernel_rfl, rfl⟩) (by assumption) ?_
        simp only [Act.put, List.setIfInBounds_toArray, List.set_cons_zero, List.set_cons_succ]
        refine wpAnyH_take (i := 18) (oi := { dst := some 64, op := Op.load 39 (Operand.tmp 63), type := 39, pos := "law.go:104", after := #[{ on := 17, ground := Ground.data }, { on := 13, ground := Ground.guard }], guard := some (13, true) }) (v := undef) rfl (by kernel_rfl) (by kernel_rfl) (by kernel_rfl) (fun _ _ _ h => h) (Or.inr ⟨by kernel_rfl, rfl⟩) (by assumption) ?_
        simp only [Act.put, List.setIfInBounds_toArray, List.set_cons_zero, List.set_cons_succ]
        refine wpAnyH_take (i := 19) (oi := { dst := some 65, op := Op.move (Operand.tmp 6), type := 22, pos := "law.go:104", after := #[{ on := 13, ground := Ground.guard }], guard := some (13, true) }) (v := undef) rfl (by kernel_rfl) (by kernel_rfl) (by kernel_rfl) (fun _ _ _ h => h) (Or.inr ⟨by kernel_rfl, rfl⟩) (by assumption) ?_
        simp only [Act.put, List.setIfInBounds_toArray, List.set_cons_zero, List.set_cons_succ]
        refine wpAnyH_take (i := 20) (oi := { dst := some 66, op := Op.move (Operand.tmp 10), type := 3, pos := "law.go:104", after := #[{ on := 13, ground := Ground.guard }], guard := some (13, true) }) (v := undef) rfl (by kernel_rfl) (by kernel_rfl) (by kernel_rfl) (fun _ _ _ h => h) (Or.inr ⟨by kernel_rfl, rfl⟩) (by assumption) ?_
        simp only [Act.put, List.setIfInBounds_toArray, List.set_cons_zero, List.set_cons_succ]
        refine wpAnyH_take (i := 21) (oi := { dst := some 67, op := Op.binOp BinOp.sub 3 (Operand.tmp 66) (Operand.const (Value.int IntKind.i64 1)) 3, type := 3, pos := "law.go:104", after := #[{ on := 20, ground := Ground.data }, { on := 13, ground := Ground.guard }], guard := some (13, true) }) (v := undef) rfl (by kernel_rfl) (by kernel_rfl) (by kernel_rfl) (fun _ _ _ h => h) (Or.inr ⟨by kernel_rfl, rfl⟩) (by assumption) ?_
        simp only [Act.put, List.setIfInBounds_toArray, List.set_cons_zero, List.set_cons_succ]
        refine wpAnyH_take (i := 22) (oi := { dst := some 68, op := Op.indexAddr 22 (Operand.tmp 65) (Operand.tmp 67), type := 0, pos := "law.go:104", after := #[{ on := 19, ground := Ground.data }, { on := 21, ground := Ground.data }, { on := 13, ground := Ground.guard }], guard := some (13, true) }) (v := undef) rfl (by kernel_rfl) (by kernel_rfl) (by kernel_rfl) (fun _ _ _ h => h) (Or.inr ⟨by kernel_rfl, rfl⟩) (by assumption) ?_
        simp only [Act.put, List.setIfInBounds_toArray, List.set_cons_zero, List.set_cons_succ]
        refine wpAnyH_take (i := 23) (oi := { dst := some 69, op := Op.fieldAddr 44 (Operand.tmp 68) 0, type := 0, pos := "law.go:104", after := #[{ on := 22, ground := Ground.data }, { on := 13, ground := Ground.guard }], guard := some (13, true) }) (v := undef) rfl (by kernel_rfl) (by kernel_rfl) (by kernel_rfl) (fun _ _ _ h => h) (Or.inr ⟨by kernel_rfl, rfl⟩) (by assumption) ?_
        simp only [Act.put, List.setIfInBounds_toArray, List.set_cons_zero, List.set_cons_succ]
        refine wpAnyH_take (i := 24) (oi := { dst := some 70, op := Op.load 39 (Operand.tmp 69), type := 39, pos := "law.go:104", after := #[{ on := 23, ground := Ground.data }, { on := 13, ground := Ground.guard }], guard := some (13, true) }) (v := undef) rfl (by kernel_rfl) (by kernel_rfl) (by kernel_rfl) (fun _ _ _ h => h) (Or.inr ⟨by kernel_rfl, rfl⟩) (by assumption) ?_
        simp only [Act.put, List.setIfInBounds_toArray, List.set_cons_zero, List.set_cons_succ]
        refine wpAnyH_take (i := 25) (oi := { dst := some 71, op := Op.binOp BinOp.eql 39 (Operand.tmp 64) (Operand.tmp 70) 39, type := 4, pos := "law.go:104", after := #[{ on := 18, ground := Ground.data }, { on := 24, ground := Ground.data }, { on := 13, ground := Ground.guard }], guard := some (13, true) }) (v := undef) rfl (by kernel_rfl) (by kernel_rfl) (by kernel_rfl) (fun _ _ _ h => h) (Or.inr ⟨by kernel_rfl, rfl⟩) (by assumption) ?_
        simp only [Act.put, List.setIfInBounds_toArray, List.set_cons_zero, List.set_cons_succ]
        refine wpAnyH_take (i := 26) (oi := { dst := some 72, op := Op.pick (Operand.tmp 59) (Operand.tmp 71) (Operand.const (Value.bool false)), type := 4, pos := "law.go:104", after := #[{ on := 13, ground := Ground.data }, { on := 25, ground := Ground.data }, { on := 10, ground := Ground.guard }], guard := some (10, false) }) (v := ?_) rfl (by kernel_rfl) (by kernel_rfl) (by kernel_rfl) (fun _ _ _ h => h) (Or.inl ⟨by rfl, ?_⟩) (by assumption) ?_
        rotate_left
        · (intro w hSw; (try dsimp only at hSw); go_simp; (try with_reducible rfl))
        simp only [Act.put, List.setIfInBounds_toArray, List.set_cons_zero, List.set_cons_succ]
        refine wpAnyH_take (i := 27) (oi := { dst := some 73, op := Op.pick (Operand.tmp 56) (Operand.const (Value.bool true)) (Operand.tmp 72), type := 4, pos := "law.go:104", after := #[{ on := 10, ground := Ground.data }, { on := 26, ground := Ground.data }], guard := none }) (v := ?_) rfl (by kernel_rfl) (by kernel_rfl) (by kernel_rfl) (fun _ _ _ h => h) (Or.inl ⟨by rfl, ?_⟩) (by assumption) ?_
        rotate_left
        · (intro w hSw; (try dsimp only at hSw); go_simp; (try with_reducible rfl))
        simp only [Act.put, List.setIfInBounds_toArray, List.set_cons_zero, List.set_cons_succ]
        refine wpAnyH_done (by kernel_rfl) ?_ _
        have HI2 : Hid (IsR w2 (.slice (some ⟨g, o, none⟩) n c3) S ∧ Below w.heap.size w w2) := ⟨HI.out.1.below b2', HI.out.2.trans (b2'.mono HI.out.2.size)⟩
        go_wp2
        go_roundw
        case rel => exact ⟨i + 1, by go_num, by omega, .inl (by omega), HI2.out⟩
        case measure => simp [numOf]; omega
      · have hkb := hkey (by omega)
        have hr1 : 0 < r := by omega
        have hr2 : decide (0 < r) = true := decide_eq_true hr1
        go_wp2
        go_region_held (fun W => (W.cell? ⟨g, o + i * 2, none⟩ = some (.int .u64 x1) ∧ W.cell? ⟨g, o + i * 2 + 1, none⟩ = some (.int .u64 x2)) ∧ W.cell? ⟨g, o + k * 2, none⟩ = some (.int .u64 y1) ∧ W.cell? ⟨g, o + k * 2 + 1, none⟩ = some (.int .u64 y2)) (first | exact HCS.out _ (Below.refl _ _).drew | exact HCS.out _ b2') (first | (go_at_call 22; refine (LS.out _).mono ?_; rintro e w2 ⟨rfl, b2⟩; have b2' : Below wr.heap.size wr w2 := ⟨b2.os, b2.tape, b2.output, b2.size, b2.block⟩))
        have HI2 : Hid (IsR w2 (.slice (some ⟨g, o, none⟩) n c3) S ∧ Below w.heap.size w w2) := ⟨HI.out.1.below b2', HI.out.2.trans (b2'.mono HI.out.2.size)⟩
        go_wp2
        go_roundw
        case rel => exact ⟨i + 1, by go_num, by omega, .inl (by omega), HI2.out⟩
        case measure => simp [numOf]; omega
    · have hge : ¬ ((i : Int) < (n : Int)) := by omega
      obtain ⟨mm, hmm, hmin⟩ := min100 es0.length
      have hmi : min (es0.length : Int) 100 = (mm : Int) := by omega
      by_cases hr0 : r = 0
      · subst hr0
        have hnm : n = mm := by have := HR.out.2.2 rfl; have := HN.out; omega
        subst hnm
        clear hmm
        go_wp2
        go_ret
        exact ⟨rfl, HI.out.2⟩
      · have hr1 : (0 : Int) < (r : Int) := by omega
        have hr2 : decide ((0 : Int) < (r : Int)) = true := decide_eq_true hr1
        clear hmm
        go_wp2
        go_ret
        exact ⟨rfl, HI.out.2⟩

/-! ### The row's step -/
set_option maxRecDepth 100000 in
theorem lifted (os : Os) (started : os.Started) (H : Type) (enc : TypeId × Value → H) :
    ReturnsInHanded {} Try.checked os 7 .any (Rows.runsOnceSpec.pre6 enc Try.prog Try.f7 Rows.runsOnceRow.domain false) (Rows.runsOnceSpec.post enc Try.prog Try.f7 false true false false) := by
  refine returnsInHanded_of_change (C := Try.checked) own started (by kernel_rfl) Try.func7
    (ChangeSpec.witness6 (enc := enc) (C := Try.checked) false ⟨#[], #[.slice none 0 0, .int .i64 0], []⟩ 8 (by kernel_rfl) (by kernel_rfl) (by kernel_rfl) (by kernel_rfl)) ?_
  intro W base args ds gs before hval0 hW hcnd _
  have hval : ∀ (j : Nat) t v, Try.f7.params[j]? = some t → args[j]? = some v → Value.okWide Try.prog W .any base t v := hval0
  have hW' := hW
  obtain ⟨p, q, hA0, hV, rfl, hfz, hnd⟩ := hW
  have hA : DataW.TrodAll enc Try.prog W 0 (fun _ => true) true Try.f7.params.toList args.toList ds p := hA0
  rw [Try.params7] at hA hval
  obtain ⟨v0, vs0, d0, ds0, p0, q0, hargs, rfl, rfl, h0, r0⟩ := trodAll_cons hA
  obtain ⟨v1, vs1, d1, ds1, p1, q1, rfl, rfl, rfl, h1, r1⟩ := trodAll_cons r0
  obtain ⟨rfl, rfl, rfl⟩ := trodAll_nil r1
  obtain rfl : args = #[v0, v1] := by cases args; simp_all
  obtain ⟨rfl, rfl⟩ := trodVars_none hV
  obtain ⟨a0, len0, cap0, rfl⟩ := okWide_slice Try.underlying22 (hval 0 22 v0 rfl rfl)
  have k0 := h0
  have lt0 : ∀ x ∈ p0, x.block < W.heap.size := by obtain ⟨m, hm⟩ := k0; exact DataW.trod_lt m _ _ _ hm
  obtain ⟨es0, i0, l0, m0⟩ : ∃ es, IsR W (.slice a0 len0 cap0) es ∧ es.length = len0 ∧ len0 ≤ maxLen := by
    obtain ⟨fuel, hf⟩ := h0
    obtain ⟨a, len, cap, es, hcs, h1, h2, h3⟩ := recsIn hf
    simp [Value.cells] at hcs
    obtain ⟨rfl, rfl, rfl⟩ := hcs
    exact ⟨es, h1, h2, h3⟩
  obtain ⟨a1, rfl, rfl, rfl, w1⟩ := open_int Try.underlying3 (hval 1 3 v1 rfl rfl) h1
  clear hA0 hval0
  refine (walk a0 len0 cap0 es0 a1 W i0 l0 m0 w1).mono fun e W' ⟨he, bel⟩ => ?_
  subst he
  exact ⟨_, rfl, _, _, _, [], _, [], hW', trodAll_mk1 (shut_bool Try.underlying4 _), (trodAll_cons_mk (Below.trod laidOut (by kernel_rfl) (of_decide_eq_true (by kernel_rfl)) k0 bel lt0) (trodAll_cons_mk (shut_int Try.underlying3 w1) trodAll_mk0)), rfl, bel.frame _, fun h => by cases h⟩

theorem over : Rows.runsOnceRow.holds Try.pinned (OpenSpec.ofChange Rows.runsOnceSpec) :=
  OpenClaim.holds_of_wide 7 Try.f7 rfl rfl rfl rfl rfl rfl rfl ⟨rfl, rfl, rfl, rfl, rfl⟩ rfl rfl rfl rfl rfl (by kernel_rfl) Try.func7 (by kernel_rfl)
    (of_decide_eq_true (by kernel_rfl)) (by unfold Func.isWrapper; first | (rw [if_pos (by decide +kernel)]; kernel_rfl) | (rw [if_neg (by decide +kernel)]; exact ⟨rfl, rfl⟩))
    (fun os started H enc _ => lifted os started H enc)

/-- The statement. -/
theorem proved : Rows.RunsOnceSaid := over
#print axioms proved
end Go.Proofs.Ytbppjbdcgcmjiaa.runsOnce
