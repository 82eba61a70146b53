/-
  Proved: for every room and every slice of slices of bytes, DiskRoom returns true and leaves them as they were (no more is on a disk than there is room for; what does not fit changes nothing). No condition.
-/
import Derived.WalkKit
import Derived.ProofKit
import Derived.OpenShut
import Derived.ShutString
import Derived.Deep.Grids
import Derived.Deep.RegionHeld
import Derived.Test.YtahhokhhgamelaaDHold
namespace Go.Proofs.Ytahhokhhgamelaa.diskRoom
open Go.ChangeShapes Go.WideShapes Go.ChangeAt Go.RowKit
open Go.ChangeMaps (open_string shut_string)
set_option linter.unusedVariables false

theorem own : ownKnob Try.prog.godebug = none := by kernel_rfl
theorem laidOut : laidOutB Try.prog = true := by kernel_rfl

def S2 (R used ops : Int) : Ds := { room := R, used := used, ops := ops, down := false, left := 0, keep := [] }
/-- Two files. -/
def two (xs ys : List Int) : List Ab := [([97], xs, []), ([98], ys, [])]
theorem t_a (R : Int) : createA (beginA [] (S2 R 0 0)) [97] = (0, ([([97], [], [])], S2 R 0 1)) := by rfl
theorem t_b (R : Int) : createA (beginA [([97], [], [])] (S2 R 0 1)) [98] = (0, (two [] [], S2 R 0 2)) := by rfl
theorem write_a (xs ys cs : List Int) (R o : Int) : appendA (beginA (two xs ys) (S2 R (sec xs.length + sec ys.length) o)) [97] cs =
    if sec (xs.length + cs.length) + sec ys.length ≤ R then (0, (two (xs ++ cs) ys, S2 R (sec (xs.length + cs.length) + sec ys.length) (o + 1))) else (6, (two xs ys, S2 R (sec xs.length + sec ys.length) (o + 1))) := by
  show writeA (two xs ys) (S2 R (sec xs.length + sec ys.length) (o + 1)) ([97], xs, []) (xs.length : Int) cs = _
  unfold writeA
  have h0 : moreA xs ((xs.length : Int)).toNat cs = sec (xs.length + cs.length) - sec xs.length := by rw [Int.toNat_natCast, moreA, Nat.max_eq_right (by omega)]
  have hp : putA xs ((xs.length : Int)).toNat cs = xs ++ cs := by rw [Int.toNat_natCast, putA, List.take_of_length_le (Nat.le_refl _), List.drop_of_length_le (by omega), List.append_nil]
  rw [if_neg (by simp), h0, hp]
  by_cases h : sec (xs.length + cs.length) + sec ys.length ≤ R
  · rw [if_pos h, if_neg (by simp only [S2]; omega)]
    have e : sec xs.length + sec ys.length + (sec (xs.length + cs.length) - sec xs.length) = sec (xs.length + cs.length) + sec ys.length := by omega
    simp [setA, two, S2, e]
  · rw [if_neg h, if_pos (by simp only [S2]; omega)]
theorem write_b (xs ys cs : List Int) (R o : Int) : appendA (beginA (two xs ys) (S2 R (sec xs.length + sec ys.length) o)) [98] cs =
    if sec (ys.length + cs.length) + sec xs.length ≤ R then (0, (two xs (ys ++ cs), S2 R (sec xs.length + sec (ys.length + cs.length)) (o + 1))) else (6, (two xs ys, S2 R (sec xs.length + sec ys.length) (o + 1))) := by
  show writeA (two xs ys) (S2 R (sec xs.length + sec ys.length) (o + 1)) ([98], ys, []) (ys.length : Int) cs = _
  unfold writeA
  have h0 : moreA ys ((ys.length : Int)).toNat cs = sec (ys.length + cs.length) - sec ys.length := by rw [Int.toNat_natCast, moreA, Nat.max_eq_right (by omega)]
  have hp : putA ys ((ys.length : Int)).toNat cs = ys ++ cs := by rw [Int.toNat_natCast, putA, List.take_of_length_le (Nat.le_refl _), List.drop_of_length_le (by omega), List.append_nil]
  rw [if_neg (by simp), h0, hp]
  by_cases h : sec (ys.length + cs.length) + sec xs.length ≤ R
  · rw [if_pos h, if_neg (by simp only [S2]; omega)]
    have e : sec xs.length + sec ys.length + (sec (ys.length + cs.length) - sec ys.length) = sec xs.length + sec (ys.length + cs.length) := by omega
    simp [setA, two, S2, e]
  · rw [if_neg h, if_pos (by simp only [S2]; omega)]
/-- The two sizes. -/
def sz2 (x y : Nat) : Obj := .cells #[.int .i64 x, .int .i64 y] 3 (0, 0)
theorem sz2_cells {w : World} {g x y : Nat} (h : w.heap[g]? = some (sz2 x y)) : w.cell? ⟨g, 0, none⟩ = some (.int .i64 x) ∧ w.cell? ⟨g, 1, none⟩ = some (.int .i64 y) ∧ (∀ j, w.frozen? ⟨g, j, none⟩ = false) := by
  refine ⟨?_, ?_, fun j => ?_⟩ <;> simp [World.cell?, World.frozen?, h, sz2]
theorem str2_cells {w : World} {g : Nat} {a b : Value} (h : w.heap[g]? = some (.cells #[a, b] 9 (0, 0))) : w.cell? ⟨g, 0, none⟩ = some a ∧ w.cell? ⟨g, 1, none⟩ = some b := by
  constructor <;> simp [World.cell?, h]
section
variable {B : Nat} {w0 w : World} {p : Nat} {hs : List (Nat × Obj)} {R op : Int} {xs ys : List Int}
theorem h_append_a (h : Hd B w0 w p (two xs ys) (S2 R (sec xs.length + sec ys.length) op) hs) (hop : op ≤ 1000) (u : Value) (cs : List Int) (hu : IsB w u cs) (hcl : cs.length ≤ 60) (hux : cs ≠ [] → ∀ x ∈ Go.Proofs.Ytahhokhhgamelaa.own u, x < B) :
    Calls Try.prog 18 #[.pointer (some ⟨p, 0, none⟩), .string ⟨#[97]⟩, u] w fun e w' => (sec (xs.length + cs.length) + sec ys.length ≤ R → e = .returned (.int .i64 0) ∧ Hd B w0 w' p (two (xs ++ cs) ys) (S2 R (sec (xs ++ cs).length + sec ys.length) (op + 1)) hs) ∧ (¬ sec (xs.length + cs.length) + sec ys.length ≤ R → e = .returned (.int .i64 6) ∧ Hd B w0 w' p (two xs ys) (S2 R (sec xs.length + sec ys.length) (op + 1)) hs) := by
  have e := write_a xs ys cs R op
  by_cases hc : sec (xs.length + cs.length) + sec ys.length ≤ R
  · rw [if_pos hc] at e
    refine (h.append (by simp only [S2]; omega) ⟨#[97]⟩ (str1 97) u cs hu (by omega) hux e).mono ?_
    rintro e w' ⟨rfl, h'⟩
    exact ⟨fun _ => ⟨rfl, by rw [List.length_append]; exact h'⟩, fun hn => absurd hc hn⟩
  · rw [if_neg hc] at e
    refine (h.append (by simp only [S2]; omega) ⟨#[97]⟩ (str1 97) u cs hu (by omega) hux e).mono ?_
    rintro e w' ⟨rfl, h'⟩
    exact ⟨fun hp => absurd hp hc, fun _ => ⟨rfl, h'⟩⟩
theorem h_append_b (h : Hd B w0 w p (two xs ys) (S2 R (sec xs.length + sec ys.length) op) hs) (hop : op ≤ 1000) (u : Value) (cs : List Int) (hu : IsB w u cs) (hcl : cs.length ≤ 60) (hux : cs ≠ [] → ∀ x ∈ Go.Proofs.Ytahhokhhgamelaa.own u, x < B) :
    Calls Try.prog 18 #[.pointer (some ⟨p, 0, none⟩), .string ⟨#[98]⟩, u] w fun e w' => (sec (ys.length + cs.length) + sec xs.length ≤ R → e = .returned (.int .i64 0) ∧ Hd B w0 w' p (two xs (ys ++ cs)) (S2 R (sec xs.length + sec (ys ++ cs).length) (op + 1)) hs) ∧ (¬ sec (ys.length + cs.length) + sec xs.length ≤ R → e = .returned (.int .i64 6) ∧ Hd B w0 w' p (two xs ys) (S2 R (sec xs.length + sec ys.length) (op + 1)) hs) := by
  have e := write_b xs ys cs R op
  by_cases hc : sec (ys.length + cs.length) + sec xs.length ≤ R
  · rw [if_pos hc] at e
    refine (h.append (by simp only [S2]; omega) ⟨#[98]⟩ (str1 98) u cs hu (by omega) hux e).mono ?_
    rintro e w' ⟨rfl, h'⟩
    exact ⟨fun _ => ⟨rfl, by rw [List.length_append]; exact h'⟩, fun hn => absurd hc hn⟩
  · rw [if_neg hc] at e
    refine (h.append (by simp only [S2]; omega) ⟨#[98]⟩ (str1 98) u cs hu (by omega) hux e).mono ?_
    rintro e w' ⟨rfl, h'⟩
    exact ⟨fun hp => absurd hp hc, fun _ => ⟨rfl, h'⟩⟩
theorem h_size_a {u : Int} (h : Hd B w0 w p (two xs ys) (S2 R u op) hs) (hop : op ≤ 1000) : Calls Try.prog 24 #[.pointer (some ⟨p, 0, none⟩), .string ⟨#[97]⟩] w fun e w' => e = .returned (.tuple #[.int .i64 (xs.length : Int), .int .i64 0]) ∧ Hd B w0 w' p (two xs ys) (S2 R u (op + 1)) hs :=
  h.size (by simp only [S2]; omega) ⟨#[97]⟩ (str1 97) (by rfl) (by rfl)
theorem h_size_b {u : Int} (h : Hd B w0 w p (two xs ys) (S2 R u op) hs) (hop : op ≤ 1000) : Calls Try.prog 24 #[.pointer (some ⟨p, 0, none⟩), .string ⟨#[98]⟩] w fun e w' => e = .returned (.tuple #[.int .i64 (ys.length : Int), .int .i64 0]) ∧ Hd B w0 w' p (two xs ys) (S2 R u (op + 1)) hs :=
  h.size (by simp only [S2]; omega) ⟨#[98]⟩ (str1 98) (by rfl) (by rfl)
end
theorem i64_and65535 (n : Int) : bits .and .i64 n 65535 = n % 65536 := by
  have hm : (BitVec.ofInt 64 65535).toNat = 2 ^ 16 - 1 := by decide
  have key : (BitVec.ofInt 64 n &&& BitVec.ofInt 64 65535).toNat = (n % ((2 ^ 64 : Nat) : Int)).toNat % 2 ^ 16 := by
    rw [BitVec.toNat_and, BitVec.toNat_ofInt, hm, Nat.and_two_pow_sub_one_eq_mod]
  show IntKind.i64.wrap ((BitVec.ofInt 64 n &&& BitVec.ofInt 64 65535).toNat : Nat) = n % 65536
  rw [key, IntKind.wrap_i64]
  omega

/-! ### The walk -/
set_option maxRecDepth 100000 in
set_option maxHeartbeats 2000000 in
theorem walk (a0 : Int) (a1 : Option Addr) (len1 cap1 : Nat) (bs1 : List (List Int)) (w : World) (w0 : (Lit.int .i64 a0).wf = true) (i1 : IsBB w (.slice a1 len1 cap1) bs1) (l1 : bs1.length = len1) (c1 : len1 ≤ cap1) (m1 : cap1 ≤ maxLen) :
    Calls Try.prog 6 #[.int .i64 a0, .slice a1 len1 cap1] w fun e w' => e = .returned (.bool true) ∧ Below w.heap.size w w' := by
  subst l1
  have HI := hide i1
  have SH := hide (shown_any w)
  obtain ⟨R, hR⟩ : ∃ R : Nat, a0 % 65536 % 41 = (R : Int) := ⟨(a0 % 65536 % 41).toNat, by omega⟩
  have hR41 : R ≤ 40 := by omega
  have hand := i64_and65535 a0
  have hmk := make2
  clear i1 w0
  go_enter Try.func6, Try.ntmps6
  go_wp2_with (go_at_call 12; refine SH.out.mono ?_; rintro e w1 ⟨rfl, b1'⟩; have B1 := hide b1'; clear b1')
  have NW := hide (Sd.new (B := w.heap.size) (w0 := w) (R : Int) (by omega) w1 B1.out B1.out.size)
  refine NW.out.mono ?_
  rintro e w2 ⟨rfl, d2⟩
  have D2 : Hid (Sd w.heap.size w w2 (w1.heap.size + 1) [] (S2 R 0 0)) := by
    have e : max (R : Int) 0 = R := by omega
    rw [e] at d2
    exact d2
  clear d2 NW
  obtain ⟨p, hp⟩ : ∃ p, p = w1.heap.size + 1 := ⟨_, rfl⟩
  rw [← hp] at D2 ⊢
  clear hp
  go_wp2_with fail
  refine (D2.out.create (by simp only [S2]; omega) ⟨#[97]⟩ (str1 97) (t_a R)).mono ?_
  rintro e w3 ⟨rfl, d3⟩
  have D3 := hide d3
  clear d3
  go_wp2_with fail
  refine (D3.out.create (by simp only [S2]; omega) ⟨#[98]⟩ (str1 98) (t_b R)).mono ?_
  rintro e w4 ⟨rfl, d4⟩
  have H4 := hide (d4.hd.add (.cells #[.int .i64 0, .int .i64 0] 3))
  clear d4 D2 D3
  go_wp2
  go_loopw [8, 9, 10, 11, 12, 13, 14, 15] (fun i _ _ _ _ _ _ _ wr => ∃ (k : Nat) (xs ys : List Int), k ≤ bs1.length ∧ k ≤ 30 ∧ i = .int .i64 k ∧ xs.length ≤ 60 * k ∧ ys.length ≤ 60 * k ∧ Hid (Hd w.heap.size w wr p (two xs ys) (S2 R (sec xs.length + sec ys.length) (2 + 2 * (k : Int))) [(w4.heap.size, sz2 xs.length ys.length)])) (fun i _ _ _ _ _ _ _ _ => 30 - (intOf i).toNat)
  case atStart => exact ⟨0, [], [], Nat.zero_le _, Nat.zero_le _, rfl, by simp, by simp, H4⟩
  case round =>
    obtain ⟨k, xs, ys, hk, hk30, rfl, hxl, hyl, H⟩ := hrel
    by_cases hlt : k < bs1.length
    · by_cases hlt2 : k < 30
      · obtain ⟨b, off, cap', he, _, hc⟩ := HI.out.opened (by omega)
        simp only [Value.slice.injEq, true_and] at he
        obtain ⟨rfl, rfl⟩ := he
        obtain ⟨ta, n, tc, m, cs, hP, hm, hcl, hm60, hmn, hnc, hIs, hux⟩ := piece hc k hlt w.heap.size rfl
        have hcell := hP wr H.out.bel
        have HP := hide hP
        have HIs := hide hIs
        have HUX := hide hux
        have hmc : (m : Int) ≤ tc := by omega
        have hm0 : (0 : Int) ≤ (m : Int) := by omega
        clear hc hP hIs hux
        have hcd : wr.drew.cell? ⟨b, off + k, none⟩ = some (.slice ta n tc) := hcell
        have HD := hide (H.out.below (⟨rfl, rfl, rfl, Nat.le_refl _, fun _ _ => rfl⟩ : Below wr.heap.size wr wr.drew))
        clear hcell H
        go_wp2
        go_region_held (fun w' => w'.cell? ⟨b, off + k, none⟩ = some (.slice ta n tc)) (assumption) (fail)
        have hop : 2 + 2 * (k : Int) ≤ 1000 := by omega
        have hwl : w4.heap.size < wr.heap.size := (Array.getElem?_eq_some_iff.1 (HD.out.block (g := w4.heap.size) (List.mem_cons_self ..))).1
        have HA : Hid (Hd w.heap.size w (wr.alloc (.cells #[.string ⟨#[97]⟩, .string ⟨#[98]⟩] 9)).drew p (two xs ys) (S2 R (sec xs.length + sec ys.length) (2 + 2 * (k : Int))) [(wr.heap.size, .cells #[.string ⟨#[97]⟩, .string ⟨#[98]⟩] 9 (0, 0)), (w4.heap.size, sz2 xs.length ys.length)]) := HD.out.add _
        clear HD hcd hm
        rcases Nat.mod_two_eq_zero_or_one k with hk2 | hk2
        · have hki : (k : Int) % 2 = 0 := by omega
          clear hk2
          go_wp2_with fail
          refine (h_append_a HA.out hop _ cs (HIs.out _ HA.out.bel) (by omega) HUX.out).mono ?_
          rintro e w5 ⟨hya, hno⟩
          by_cases hfit : sec (xs.length + cs.length) + sec ys.length ≤ R
          · obtain ⟨rfl, h5⟩ := hya hfit
            clear hya hno
            obtain ⟨z0, z1, zf⟩ := sz2_cells (h5.block (g := w4.heap.size) (o := sz2 xs.length ys.length) (List.mem_cons_of_mem _ (List.mem_cons_self ..)))
            obtain ⟨q0, q1⟩ := str2_cells (h5.block (g := wr.heap.size) (List.mem_cons_self ..))
            have hneed : decide ((((xs.length : Int) + (m : Int) + 15) / 16) + (((ys.length : Int) + 15) / 16) ≤ (R : Int)) = true := by rw [sec_eq, sec_eq, hcl] at hfit; simp; push_cast at hfit; omega
            have H5 := hide h5
            clear h5 HA hfit
            obtain ⟨L, hL⟩ : ∃ L, (xs ++ cs).length = L := ⟨_, rfl⟩
            have hLm : ((xs.length : Int) + (m : Int)) = (L : Int) := by rw [← hL, List.length_append, hcl]; push_cast; rfl
            have HLM := hide hLm
            have HL := hide hL
            clear hLm hL
            go_wp2
            go_quiet (fail)
            have H6 : Hid (Hd w.heap.size w ((w5.drewN nq).setCell ⟨w4.heap.size, 0, none⟩ (.int .i64 ((xs.length : Int) + (m : Int)))) p (two (xs ++ cs) ys) (S2 R (sec (xs ++ cs).length + sec ys.length) (2 + 2 * (k : Int) + 1)) [(w4.heap.size, sz2 (xs ++ cs).length ys.length), (wr.heap.size, (.cells #[.string ⟨#[97]⟩, .string ⟨#[98]⟩] 9 (0, 0)))]) := by
              have h := ((H5.out.mono (hs' := [(w4.heap.size, sz2 xs.length ys.length), (wr.heap.size, (.cells #[.string ⟨#[97]⟩, .string ⟨#[98]⟩] 9 (0, 0)))]) (by simp)).below (⟨rfl, rfl, rfl, Nat.le_refl _, fun _ _ => rfl⟩ : Below w5.heap.size w5 (w5.drewN nq))).stored (by simp; omega) 0 (.int .i64 ((xs.length : Int) + (m : Int)))
              have e : (Obj.cells (#[Value.int .i64 xs.length, Value.int .i64 ys.length].setIfInBounds 0 (.int .i64 ((xs.length : Int) + (m : Int)))) 3 (0, 0)) = sz2 (xs ++ cs).length ys.length := by
                rw [HLM.out, ← HL.out]
                rfl
              rw [e] at h
              exact h
            have hL := HL.out
            go_wp2_with fail
            refine (h_size_a H6.out (by omega)).mono ?_
            rintro e w7 ⟨rfl, h7⟩
            obtain ⟨y0, y1, _⟩ := sz2_cells (h7.block (g := w4.heap.size) (o := sz2 (xs ++ cs).length ys.length) (List.mem_cons_self ..))
            have hft := h7.fits
            have h8 := (h7.mono (hs' := [(w4.heap.size, sz2 (xs ++ cs).length ys.length)]) (by simp)).below (⟨rfl, rfl, rfl, Nat.le_refl _, fun _ _ => rfl⟩ : Below w7.heap.size w7 w7.drew)
            have H8 := hide h8
            have hus := h8.used
            have hrm := h8.room
            have x0 : w7.drew.cell? ⟨w4.heap.size, 0, none⟩ = _ := y0
            have x1 : w7.drew.cell? ⟨w4.heap.size, 1, none⟩ = _ := y1
            dsimp only [S2] at hft hus hrm
            rw [sec_eq, sec_eq] at hft hus
            simp only [hL] at x0 x1 hft hus ⊢
            have hgt : ¬ (R : Int) < ((L : Int) + 15) / 16 + ((ys.length : Int) + 15) / 16 := by omega
            have hLb : L ≤ 2000 := by have := HLM.out; omega
            have hq1 : IntKind.i64.wrap ((L : Int) + 15) = (L : Int) + 15 := by rw [IntKind.wrap_i64]; omega
            have hq2 : IntKind.i64.wrap (((L : Int) + 15).tdiv 16) = ((L : Int) + 15) / 16 := by rw [Int.tdiv_eq_ediv_of_nonneg (by omega), IntKind.wrap_i64]; omega
            have hq3 : IntKind.i64.wrap ((ys.length : Int) + 15) = (ys.length : Int) + 15 := by rw [IntKind.wrap_i64]; omega
            have hq4 : IntKind.i64.wrap (((ys.length : Int) + 15).tdiv 16) = ((ys.length : Int) + 15) / 16 := by rw [Int.tdiv_eq_ediv_of_nonneg (by omega), IntKind.wrap_i64]; omega
            have hq5 : IntKind.i64.wrap (((L : Int) + 15) / 16 + ((ys.length : Int) + 15) / 16) = ((L : Int) + 15) / 16 + ((ys.length : Int) + 15) / 16 := by rw [IntKind.wrap_i64]; omega
            have HU := hide hus
            have HRM := hide hrm
            clear h7 h8 hus hrm hft H6 y0 y1 hL
            go_wp2
            go_region_held (fun w' => w'.cell? ⟨w4.heap.size, 0, none⟩ = some (.int .i64 (L : Int)) ∧ w'.cell? ⟨w4.heap.size, 1, none⟩ = some (.int .i64 (ys.length : Int))) (exact ⟨by assumption, by assumption⟩) (first | (go_at_call 42; refine HU.out.mono ?_; rintro e w8 ⟨rfl, rfl⟩) | (go_at_call 44; refine HRM.out.mono ?_; rintro e w8 ⟨rfl, rfl⟩))
            go_wp2
            go_roundw
            case rel =>
              refine ⟨k + 1, xs ++ cs, ys, by omega, by omega, by go_num, by rw [HL.out]; have := HLM.out; omega, by omega, ?_⟩
              have h := H8.out
              rw [show (2 + 2 * (k : Int) + 1 + 1) = 2 + 2 * ((k + 1 : Nat) : Int) by push_cast; omega] at h
              exact h
            case measure => simp [intOf]; omega
          · obtain ⟨rfl, h5⟩ := hno hfit
            clear hya hno
            obtain ⟨z0, z1, zf⟩ := sz2_cells (h5.block (g := w4.heap.size) (o := sz2 xs.length ys.length) (List.mem_cons_of_mem _ (List.mem_cons_self ..)))
            obtain ⟨q0, q1⟩ := str2_cells (h5.block (g := wr.heap.size) (List.mem_cons_self ..))
            have hneed : decide ((((xs.length : Int) + (m : Int) + 15) / 16) + (((ys.length : Int) + 15) / 16) ≤ (R : Int)) = false := by rw [sec_eq, sec_eq, hcl] at hfit; simp; push_cast at hfit; omega
            have H5 := hide h5
            clear h5 HA hfit
            go_wp2
            go_quiet (fail)
            have H6 : Hid (Hd w.heap.size w (w5.drewN nq) p (two xs ys) (S2 R (sec xs.length + sec ys.length) (2 + 2 * (k : Int) + 1)) [(w4.heap.size, sz2 xs.length ys.length), (wr.heap.size, (.cells #[.string ⟨#[97]⟩, .string ⟨#[98]⟩] 9 (0, 0)))]) :=
              (H5.out.mono (hs' := [(w4.heap.size, sz2 xs.length ys.length), (wr.heap.size, (.cells #[.string ⟨#[97]⟩, .string ⟨#[98]⟩] 9 (0, 0)))]) (by simp)).below (⟨rfl, rfl, rfl, Nat.le_refl _, fun _ _ => rfl⟩ : Below w5.heap.size w5 (w5.drewN nq))
            go_wp2_with fail
            refine (h_size_a H6.out (by omega)).mono ?_
            rintro e w7 ⟨rfl, h7⟩
            obtain ⟨y0, y1, _⟩ := sz2_cells (h7.block (g := w4.heap.size) (o := sz2 xs.length ys.length) (List.mem_cons_self ..))
            have hft := h7.fits
            have h8 := (h7.mono (hs' := [(w4.heap.size, sz2 xs.length ys.length)]) (by simp)).below (⟨rfl, rfl, rfl, Nat.le_refl _, fun _ _ => rfl⟩ : Below w7.heap.size w7 w7.drew)
            have H8 := hide h8
            have hus := h8.used
            have hrm := h8.room
            have x0 : w7.drew.cell? ⟨w4.heap.size, 0, none⟩ = _ := y0
            have x1 : w7.drew.cell? ⟨w4.heap.size, 1, none⟩ = _ := y1
            dsimp only [S2] at hft hus hrm
            rw [sec_eq, sec_eq] at hft hus
            
            have hgt : ¬ (R : Int) < ((xs.length : Int) + 15) / 16 + ((ys.length : Int) + 15) / 16 := by omega
            
            have hq1 : IntKind.i64.wrap ((xs.length : Int) + 15) = (xs.length : Int) + 15 := by rw [IntKind.wrap_i64]; omega
            have hq2 : IntKind.i64.wrap (((xs.length : Int) + 15).tdiv 16) = ((xs.length : Int) + 15) / 16 := by rw [Int.tdiv_eq_ediv_of_nonneg (by omega), IntKind.wrap_i64]; omega
            have hq3 : IntKind.i64.wrap ((ys.length : Int) + 15) = (ys.length : Int) + 15 := by rw [IntKind.wrap_i64]; omega
            have hq4 : IntKind.i64.wrap (((ys.length : Int) + 15).tdiv 16) = ((ys.length : Int) + 15) / 16 := by rw [Int.tdiv_eq_ediv_of_nonneg (by omega), IntKind.wrap_i64]; omega
            have hq5 : IntKind.i64.wrap (((xs.length : Int) + 15) / 16 + ((ys.length : Int) + 15) / 16) = ((xs.length : Int) + 15) / 16 + ((ys.length : Int) + 15) / 16 := by rw [IntKind.wrap_i64]; omega
            have HU := hide hus
            have HRM := hide hrm
            clear h7 h8 hus hrm hft H6 y0 y1
            go_wp2
            go_region_held (fun w' => w'.cell? ⟨w4.heap.size, 0, none⟩ = some (.int .i64 (xs.length : Int)) ∧ w'.cell? ⟨w4.heap.size, 1, none⟩ = some (.int .i64 (ys.length : Int))) (exact ⟨by assumption, by assumption⟩) (first | (go_at_call 42; refine HU.out.mono ?_; rintro e w8 ⟨rfl, rfl⟩) | (go_at_call 44; refine HRM.out.mono ?_; rintro e w8 ⟨rfl, rfl⟩))
            go_wp2
            go_roundw
            case rel =>
              refine ⟨k + 1, xs, ys, by omega, by omega, by go_num, by omega, by omega, ?_⟩
              have h := H8.out
              rw [show (2 + 2 * (k : Int) + 1 + 1) = 2 + 2 * ((k + 1 : Nat) : Int) by push_cast; omega] at h
              exact h
            case measure => simp [intOf]; omega
        · have hki : (k : Int) % 2 = 1 := by omega
          clear hk2
          go_wp2_with fail
          refine (h_append_b HA.out hop _ cs (HIs.out _ HA.out.bel) (by omega) HUX.out).mono ?_
          rintro e w5 ⟨hya, hno⟩
          by_cases hfit : sec (ys.length + cs.length) + sec xs.length ≤ R
          · obtain ⟨rfl, h5⟩ := hya hfit
            clear hya hno
            obtain ⟨z0, z1, zf⟩ := sz2_cells (h5.block (g := w4.heap.size) (o := sz2 xs.length ys.length) (List.mem_cons_of_mem _ (List.mem_cons_self ..)))
            obtain ⟨q0, q1⟩ := str2_cells (h5.block (g := wr.heap.size) (List.mem_cons_self ..))
            have hneed : decide ((((ys.length : Int) + (m : Int) + 15) / 16) + (((xs.length : Int) + 15) / 16) ≤ (R : Int)) = true := by rw [sec_eq, sec_eq, hcl] at hfit; simp; push_cast at hfit; omega
            have H5 := hide h5
            clear h5 HA hfit
            obtain ⟨L, hL⟩ : ∃ L, (ys ++ cs).length = L := ⟨_, rfl⟩
            have hLm : ((ys.length : Int) + (m : Int)) = (L : Int) := by rw [← hL, List.length_append, hcl]; push_cast; rfl
            have HLM := hide hLm
            have HL := hide hL
            clear hLm hL
            go_wp2
            go_quiet (fail)
            have H6 : Hid (Hd w.heap.size w ((w5.drewN nq).setCell ⟨w4.heap.size, 1, none⟩ (.int .i64 ((ys.length : Int) + (m : Int)))) p (two xs (ys ++ cs)) (S2 R (sec xs.length + sec (ys ++ cs).length) (2 + 2 * (k : Int) + 1)) [(w4.heap.size, sz2 xs.length (ys ++ cs).length), (wr.heap.size, (.cells #[.string ⟨#[97]⟩, .string ⟨#[98]⟩] 9 (0, 0)))]) := by
              have h := ((H5.out.mono (hs' := [(w4.heap.size, sz2 xs.length ys.length), (wr.heap.size, (.cells #[.string ⟨#[97]⟩, .string ⟨#[98]⟩] 9 (0, 0)))]) (by simp)).below (⟨rfl, rfl, rfl, Nat.le_refl _, fun _ _ => rfl⟩ : Below w5.heap.size w5 (w5.drewN nq))).stored (by simp; omega) 1 (.int .i64 ((ys.length : Int) + (m : Int)))
              have e : (Obj.cells (#[Value.int .i64 xs.length, Value.int .i64 ys.length].setIfInBounds 1 (.int .i64 ((ys.length : Int) + (m : Int)))) 3 (0, 0)) = sz2 xs.length (ys ++ cs).length := by
                rw [HLM.out, ← HL.out]
                rfl
              rw [e] at h
              exact h
            have hL := HL.out
            go_wp2_with fail
            refine (h_size_b H6.out (by omega)).mono ?_
            rintro e w7 ⟨rfl, h7⟩
            obtain ⟨y0, y1, _⟩ := sz2_cells (h7.block (g := w4.heap.size) (o := sz2 xs.length (ys ++ cs).length) (List.mem_cons_self ..))
            have hft := h7.fits
            have h8 := (h7.mono (hs' := [(w4.heap.size, sz2 xs.length (ys ++ cs).length)]) (by simp)).below (⟨rfl, rfl, rfl, Nat.le_refl _, fun _ _ => rfl⟩ : Below w7.heap.size w7 w7.drew)
            have H8 := hide h8
            have hus := h8.used
            have hrm := h8.room
            have x0 : w7.drew.cell? ⟨w4.heap.size, 0, none⟩ = _ := y0
            have x1 : w7.drew.cell? ⟨w4.heap.size, 1, none⟩ = _ := y1
            dsimp only [S2] at hft hus hrm
            rw [sec_eq, sec_eq] at hft hus
            simp only [hL] at x0 x1 hft hus ⊢
            have hgt : ¬ (R : Int) < ((xs.length : Int) + 15) / 16 + ((L : Int) + 15) / 16 := by omega
            have hLb : L ≤ 2000 := by have := HLM.out; omega
            have hq1 : IntKind.i64.wrap ((xs.length : Int) + 15) = (xs.length : Int) + 15 := by rw [IntKind.wrap_i64]; omega
            have hq2 : IntKind.i64.wrap (((xs.length : Int) + 15).tdiv 16) = ((xs.length : Int) + 15) / 16 := by rw [Int.tdiv_eq_ediv_of_nonneg (by omega), IntKind.wrap_i64]; omega
            have hq3 : IntKind.i64.wrap ((L : Int) + 15) = (L : Int) + 15 := by rw [IntKind.wrap_i64]; omega
            have hq4 : IntKind.i64.wrap (((L : Int) + 15).tdiv 16) = ((L : Int) + 15) / 16 := by rw [Int.tdiv_eq_ediv_of_nonneg (by omega), IntKind.wrap_i64]; omega
            have hq5 : IntKind.i64.wrap (((xs.length : Int) + 15) / 16 + ((L : Int) + 15) / 16) = ((xs.length : Int) + 15) / 16 + ((L : Int) + 15) / 16 := by rw [IntKind.wrap_i64]; omega
            have HU := hide hus
            have HRM := hide hrm
            clear h7 h8 hus hrm hft H6 y0 y1 hL
            go_wp2
            go_region_held (fun w' => w'.cell? ⟨w4.heap.size, 0, none⟩ = some (.int .i64 (xs.length : Int)) ∧ w'.cell? ⟨w4.heap.size, 1, none⟩ = some (.int .i64 (L : Int))) (exact ⟨by assumption, by assumption⟩) (first | (go_at_call 42; refine HU.out.mono ?_; rintro e w8 ⟨rfl, rfl⟩) | (go_at_call 44; refine HRM.out.mono ?_; rintro e w8 ⟨rfl, rfl⟩))
            go_wp2
            go_roundw
            case rel =>
              refine ⟨k + 1, xs, ys ++ cs, by omega, by omega, by go_num, by omega, by rw [HL.out]; have := HLM.out; omega, ?_⟩
              have h := H8.out
              rw [show (2 + 2 * (k : Int) + 1 + 1) = 2 + 2 * ((k + 1 : Nat) : Int) by push_cast; omega] at h
              exact h
            case measure => simp [intOf]; omega
          · obtain ⟨rfl, h5⟩ := hno hfit
            clear hya hno
            obtain ⟨z0, z1, zf⟩ := sz2_cells (h5.block (g := w4.heap.size) (o := sz2 xs.length ys.length) (List.mem_cons_of_mem _ (List.mem_cons_self ..)))
            obtain ⟨q0, q1⟩ := str2_cells (h5.block (g := wr.heap.size) (List.mem_cons_self ..))
            have hneed : decide ((((ys.length : Int) + (m : Int) + 15) / 16) + (((xs.length : Int) + 15) / 16) ≤ (R : Int)) = false := by rw [sec_eq, sec_eq, hcl] at hfit; simp; push_cast at hfit; omega
            have H5 := hide h5
            clear h5 HA hfit
            go_wp2
            go_quiet (fail)
            have H6 : Hid (Hd w.heap.size w (w5.drewN nq) p (two xs ys) (S2 R (sec xs.length + sec ys.length) (2 + 2 * (k : Int) + 1)) [(w4.heap.size, sz2 xs.length ys.length), (wr.heap.size, (.cells #[.string ⟨#[97]⟩, .string ⟨#[98]⟩] 9 (0, 0)))]) :=
              (H5.out.mono (hs' := [(w4.heap.size, sz2 xs.length ys.length), (wr.heap.size, (.cells #[.string ⟨#[97]⟩, .string ⟨#[98]⟩] 9 (0, 0)))]) (by simp)).below (⟨rfl, rfl, rfl, Nat.le_refl _, fun _ _ => rfl⟩ : Below w5.heap.size w5 (w5.drewN nq))
            go_wp2_with fail
            refine (h_size_b H6.out (by omega)).mono ?_
            rintro e w7 ⟨rfl, h7⟩
            obtain ⟨y0, y1, _⟩ := sz2_cells (h7.block (g := w4.heap.size) (o := sz2 xs.length ys.length) (List.mem_cons_self ..))
            have hft := h7.fits
            have h8 := (h7.mono (hs' := [(w4.heap.size, sz2 xs.length ys.length)]) (by simp)).below (⟨rfl, rfl, rfl, Nat.le_refl _, fun _ _ => rfl⟩ : Below w7.heap.size w7 w7.drew)
            have H8 := hide h8
            have hus := h8.used
            have hrm := h8.room
            have x0 : w7.drew.cell? ⟨w4.heap.size, 0, none⟩ = _ := y0
            have x1 : w7.drew.cell? ⟨w4.heap.size, 1, none⟩ = _ := y1
            dsimp only [S2] at hft hus hrm
            rw [sec_eq, sec_eq] at hft hus
            
            have hgt : ¬ (R : Int) < ((xs.length : Int) + 15) / 16 + ((ys.length : Int) + 15) / 16 := by omega
            
            have hq1 : IntKind.i64.wrap ((xs.length : Int) + 15) = (xs.length : Int) + 15 := by rw [IntKind.wrap_i64]; omega
            have hq2 : IntKind.i64.wrap (((xs.length : Int) + 15).tdiv 16) = ((xs.length : Int) + 15) / 16 := by rw [Int.tdiv_eq_ediv_of_nonneg (by omega), IntKind.wrap_i64]; omega
            have hq3 : IntKind.i64.wrap ((ys.length : Int) + 15) = (ys.length : Int) + 15 := by rw [IntKind.wrap_i64]; omega
            have hq4 : IntKind.i64.wrap (((ys.length : Int) + 15).tdiv 16) = ((ys.length : Int) + 15) / 16 := by rw [Int.tdiv_eq_ediv_of_nonneg (by omega), IntKind.wrap_i64]; omega
            have hq5 : IntKind.i64.wrap (((xs.length : Int) + 15) / 16 + ((ys.length : Int) + 15) / 16) = ((xs.length : Int) + 15) / 16 + ((ys.length : Int) + 15) / 16 := by rw [IntKind.wrap_i64]; omega
            have HU := hide hus
            have HRM := hide hrm
            clear h7 h8 hus hrm hft H6 y0 y1
            go_wp2
            go_region_held (fun w' => w'.cell? ⟨w4.heap.size, 0, none⟩ = some (.int .i64 (xs.length : Int)) ∧ w'.cell? ⟨w4.heap.size, 1, none⟩ = some (.int .i64 (ys.length : Int))) (exact ⟨by assumption, by assumption⟩) (first | (go_at_call 42; refine HU.out.mono ?_; rintro e w8 ⟨rfl, rfl⟩) | (go_at_call 44; refine HRM.out.mono ?_; rintro e w8 ⟨rfl, rfl⟩))
            go_wp2
            go_roundw
            case rel =>
              refine ⟨k + 1, xs, ys, by omega, by omega, by go_num, by omega, by omega, ?_⟩
              have h := H8.out
              rw [show (2 + 2 * (k : Int) + 1 + 1) = 2 + 2 * ((k + 1 : Nat) : Int) by push_cast; omega] at h
              exact h
            case measure => simp [intOf]; omega
      · go_wp2
        go_ret
        exact ⟨rfl, H.out.bel⟩
    · go_wp2
      go_ret
      exact ⟨rfl, H.out.bel⟩

/-! ### The row's step -/
set_option maxRecDepth 100000 in
theorem lifted (os : Os) (started : os.Started) (H : Type) (enc : TypeId × Value → H) :
    ReturnsInHanded {} Try.checked os 6 .any (Rows.diskRoomSpec.pre6 enc Try.prog Try.f6 Rows.diskRoomRow.domain false) (Rows.diskRoomSpec.post enc Try.prog Try.f6 false true false false) := by
  refine returnsInHanded_of_change (C := Try.checked) own started (by kernel_rfl) Try.func6
    (ChangeSpec.witness6 (enc := enc) (C := Try.checked) false ⟨#[], #[.int .i64 0, .slice none 0 0], []⟩ 8 (by kernel_rfl) (by kernel_rfl) (by kernel_rfl) (by kernel_rfl)) ?_
  intro W base args ds gs before hval0 hW hcnd _
  have hval : ∀ (j : Nat) t v, Try.f6.params[j]? = some t → args[j]? = some v → Value.okWide Try.prog W .any base t v := hval0
  have hW' := hW
  obtain ⟨p, q, hA0, hV, rfl, hfz, hnd⟩ := hW
  have hA : DataW.TrodAll enc Try.prog W 0 (fun _ => true) true Try.f6.params.toList args.toList ds p := hA0
  rw [Try.params6] at hA hval
  obtain ⟨v0, vs0, d0, ds0, p0, q0, hargs, rfl, rfl, h0, r0⟩ := trodAll_cons hA
  obtain ⟨v1, vs1, d1, ds1, p1, q1, rfl, rfl, rfl, h1, r1⟩ := trodAll_cons r0
  obtain ⟨rfl, rfl, rfl⟩ := trodAll_nil r1
  obtain rfl : args = #[v0, v1] := by cases args; simp_all
  obtain ⟨rfl, rfl⟩ := trodVars_none hV
  obtain ⟨a0, rfl, rfl, rfl, w0⟩ := open_int Try.underlying3 (hval 0 3 v0 rfl rfl) h0
  obtain ⟨a1, len1, cap1, rfl⟩ := okWide_slice Try.underlying55 (hval 1 55 v1 rfl rfl)
  have k1 := h1
  have lt1 : ∀ x ∈ p1, x.block < W.heap.size := by obtain ⟨m, hm⟩ := k1; exact DataW.trod_lt m _ _ _ hm
  obtain ⟨bs1, i1, l1, c1, m1⟩ : ∃ bs, IsBB W (.slice a1 len1 cap1) bs ∧ bs.length = len1 ∧ len1 ≤ cap1 ∧ cap1 ≤ maxLen := by
    obtain ⟨fuel, hf⟩ := h1
    rcases open_byterows hf with hcs | ⟨x, l, c, bs, hcs, e1, e2, e3, e4⟩
    · simp [Value.cells] at hcs
      obtain ⟨rfl, rfl, rfl⟩ := hcs
      exact ⟨[], IsBB.nil W, rfl, Nat.le_refl _, Nat.zero_le _⟩
    · simp [Value.cells] at hcs
      obtain ⟨rfl, rfl, rfl⟩ := hcs
      exact ⟨bs, e4, e1, e2, e3⟩
  clear hA0 hval0
  refine (walk a0 a1 len1 cap1 bs1 W w0 i1 l1 c1 m1).mono fun e W' ⟨he, bel⟩ => ?_
  subst he
  exact ⟨_, rfl, _, _, _, [], _, [], hW', trodAll_mk1 (shut_bool Try.underlying4 _), (trodAll_cons_mk (shut_int Try.underlying3 w0) (trodAll_cons_mk (Below.trod laidOut (by kernel_rfl) (of_decide_eq_true (by kernel_rfl)) k1 bel lt1) trodAll_mk0)), rfl, bel.frame _, fun h => by cases h⟩

theorem over : Rows.diskRoomRow.holds Try.pinned (OpenSpec.ofChange Rows.diskRoomSpec) :=
  OpenClaim.holds_of_wide 6 Try.f6 rfl rfl rfl rfl rfl rfl rfl ⟨rfl, rfl, rfl, rfl, rfl⟩ rfl rfl rfl rfl rfl (by kernel_rfl) Try.func6 (by kernel_rfl)
    (of_decide_eq_true (by kernel_rfl)) (by unfold Func.isWrapper; first | (rw [if_pos (by decide +kernel)]; kernel_rfl) | (rw [if_neg (by decide +kernel)]; exact ⟨rfl, rfl⟩))
    (fun os started H enc _ => lifted os started H enc)

/-- The statement. -/
theorem proved : Rows.DiskRoomSaid := over
#print axioms proved
end Go.Proofs.Ytahhokhhgamelaa.diskRoom
