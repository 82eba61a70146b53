/-
  Lemma texts, one behind the other: XName, XPasses, XFeed, XWrite. No statement of the seat is proved here.
-/
import Derived.Test.YtgpbanjammipiaaGreatDoorGAQ
import Derived.Test.YtgpbanjammipiaaGreatDoorItoa
import Derived.Lib.ItoaLen
import Derived.Laws.Concat
import Derived.Test.YtgpbanjammipiaaGreatDoorGAM
import Derived.Test.YtgpbanjammipiaaGreatDoorGAI
import Derived.Deep.LoopGhost
import Derived.BigQuiet
namespace Go.Proofs.YtgpbanjammipiaaGreatDoor
open Go.RowKit Go.Maps Go.Sort

/-! ### Numerals -/

/-- What digits tell. -/
def valD (l : List UInt8) : Nat := l.foldl (fun a d => 10 * a + (d.toNat - 48)) 0

theorem valD_snoc (l : List UInt8) (d : UInt8) : valD (l ++ [d]) = 10 * valD l + (d.toNat - 48) := by simp [valD]

theorem valD_dec (u : Nat) : valD (Lib.decDigits u) = u := by
  induction u using Nat.strongRecOn with
  | _ u ih =>
    by_cases h : u < 10
    · rw [Lib.decDigits, dif_pos h]
      have : (UInt8.ofNat (48 + u)).toNat = 48 + u := by simp; omega
      simp [valD]
      omega
    · rw [Lib.decDigits, dif_neg h, valD_snoc, ih (u / 10) (by omega)]
      have : (UInt8.ofNat (48 + u % 10)).toNat = 48 + u % 10 := by simp; omega
      rw [this]
      omega

theorem dec_inj {u v : Nat} (h : Lib.decDigits u = Lib.decDigits v) : u = v := by rw [← valD_dec u, h, valD_dec]

theorem dec_len6 {u : Nat} (h : u < 1000000) : 1 ≤ (Lib.decDigits u).length ∧ (Lib.decDigits u).length ≤ 6 := by
  rw [Lib.decDigits_length]
  refine ⟨Lib.nDigits_pos u, ?_⟩
  have step : ∀ u, Lib.nDigits u = if u < 10 then 1 else Lib.nDigits (u / 10) + 1 := fun u => by
    by_cases hu : u < 10
    · rw [if_pos hu, Lib.nDigits_small hu]
    · rw [if_neg hu, Lib.nDigits_big hu]
  rw [step u]
  split
  · omega
  rw [step (u / 10)]
  split
  · omega
  rw [step (u / 10 / 10)]
  split
  · omega
  rw [step (u / 10 / 10 / 10)]
  split
  · omega
  rw [step (u / 10 / 10 / 10 / 10)]
  split
  · omega
  rw [step (u / 10 / 10 / 10 / 10 / 10), if_pos (by omega)]
  omega

/-- The name of a row. -/
def rowN (temp : ByteArray) (n : Nat) : ByteArray := temp ++ ⟨#[46]⟩ ++ ⟨(Lib.decDigits n).toArray⟩

theorem rowN_list (temp : ByteArray) (n : Nat) : (rowN temp n).data.toList = temp.data.toList ++ 46 :: Lib.decDigits n := by
  simp [rowN, ByteArray.data_append]

theorem rowN_inj {temp : ByteArray} {n m : Nat} (h : (rowN temp n).data.toList = (rowN temp m).data.toList) : n = m := by
  rw [rowN_list, rowN_list] at h
  exact dec_inj (List.cons.inj (List.append_cancel_left h)).2

theorem rowN_may {temp : ByteArray} (ht : temp.size ≤ 17) {n : Nat} (hn : n < 1000000) : mayB (rowN temp n).data.toList = true ∧ (rowN temp n).size ≤ maxLen := by
  have h1 := dec_len6 hn
  have h2 : temp.data.toList.length = temp.size := by simp
  have h3 := congrArg List.length (rowN_list temp n)
  rw [List.length_append, List.length_cons, h2] at h3
  have h4 : (rowN temp n).data.toList.length = (rowN temp n).size := by simp
  unfold mayB maxLen
  simp only [Bool.and_eq_true, decide_eq_true_eq]
  omega

/-! ### The table of powers -/

/-- The table is as its text lays it. -/
def Tab (w : World) : Prop := Lib.TabIs Tryz.prog w "internal/strconv.uint64pow10" .u64 Lib.pow10Tab

/-- Its block. -/
noncomputable def gTab : Nat := (Tryz.prog.globalNamed "internal/strconv.uint64pow10").getD 0
theorem gTab_is : Tryz.prog.globalNamed "internal/strconv.uint64pow10" = some gTab := by kernel_rfl

theorem Tab.kept {fp : List Nat} {w w' : World} (h : Tab w) (hk : Kept fp w w') (hf : gTab ∉ fp) : Tab w' ∧ gTab < w.heap.size := by
  unfold Tab Lib.TabIs World.var? at h ⊢
  rw [gTab_is] at h ⊢
  simp only [Option.bind_some] at h ⊢
  cases e : w.heap[gTab]? with
  | none => rw [e] at h; simp at h
  | some o =>
    rw [e] at h
    have hlt := (Array.getElem?_eq_some_iff.1 e).1
    rw [hk.block gTab hlt hf, e]
    exact ⟨h, hlt⟩

theorem Tab.lt {w : World} (h : Tab w) : gTab < w.heap.size := (h.kept (Kept.refl [] w) (by simp)).2
theorem Tab.below {w w' : World} (h : Tab w) (hb : Below w.heap.size w w') : Tab w' := (h.kept (fp := []) (Kept.of_below hb) (by simp)).1

/-! ### name -/

theorem kept_grow (w : World) (k : Nat) (os : Array Obj) : Kept [] w (grow (w.drewN k) os) := by
  refine ⟨rfl, rfl, rfl, ?_, fun b hb _ => ?_⟩
  · simp [grow]
  · show (w.heap ++ os)[b]? = w.heap[b]?
    rw [Array.getElem?_append_left hb]

set_option maxRecDepth 100000 in
theorem itoa_any {w : World} (ht : Tab w) (n : Nat) (hn : n ≤ 1000000) : Calls Tryz.prog 89 #[.int .i64 (n : Int)] w fun e w' => e = .returned (.string ⟨(Lib.decDigits n).toArray⟩) ∧ Kept [] w w' := by
  have FI := hide (Any.internal_strconv_FormatInt_10 Tryz.formatInt (n : Int) (by omega) (by omega) w ht)
  have e1 : Lib.itoa (n : Int) = Lib.decDigits n := Lib.itoa_nonneg n
  rw [e1] at FI
  clear ht e1
  go_enter Tryz.func89, Tryz.ntmps89
  go_wp2_with fail
  have II : Calls Tryz.prog 114 #[.int .i64 (n : Int)] w fun e w' => e = .returned (.string ⟨(Lib.decDigits n).toArray⟩) ∧ Kept [] w w' := by
    go_enter Tryz.func114, Tryz.ntmps114
    go_wp2_with fail
    refine FI.out.mono ?_
    rintro e w1 ⟨rfl, k, os, rfl⟩
    go_wp2
    go_ret
    exact ⟨rfl, kept_grow w k os⟩
  refine II.mono ?_
  rintro e w1 ⟨rfl, k1⟩
  go_wp2
  go_ret
  exact ⟨rfl, k1⟩

theorem run_cat (a b : ByteArray) (ha : (a.size : Int) ≤ 8388608) (hb : (b.size : Int) ≤ 8388608) (t : TypeId) (w : World) : (binOp .add t (.string a) (.string b)).run Tryz.prog w = .ok (.string (a ++ b)) w := by simp [binOp, run_string_add, *]

set_option maxRecDepth 100000 in
set_option maxHeartbeats 2000000 in
theorem name_any {w : World} (ht : Tab w) {sp : Nat} {temp : ByteArray} (h1 : w.cell? ⟨sp, 1, none⟩ = some (.string temp)) (hts : temp.size ≤ 17) (n : Nat) (hn : n < 1000000) :
    Calls Tryz.prog 61 #[.pointer (some ⟨sp, 0, none⟩), .int .i64 (n : Int)] w fun e w' => e = .returned (.string (rowN temp n)) ∧ Kept [] w w' := by
  have hlt : sp < w.heap.size := World.block_lt_of_cell? w _ h1
  have IT := hide (fun (W : World) (k : Kept [] w W) => itoa_any (ht.kept k (by simp)).1 n (by omega))
  have KC : Hid (∀ W, Kept [] w W → W.cell? ⟨sp, 1, none⟩ = some (.string temp)) := fun W k => k.cell h1 (by simp)
  have h6 := (dec_len6 hn).2
  have s1 : ((⟨(Lib.decDigits n).toArray⟩ : ByteArray).size : Int) ≤ 8388608 := by
    have : (⟨(Lib.decDigits n).toArray⟩ : ByteArray).size = (Lib.decDigits n).length := by simp [ByteArray.size]
    omega
  have s2 : (temp.size : Int) ≤ 8388608 := by omega
  have s3 : ((temp ++ (⟨#[46]⟩ : ByteArray)).size : Int) ≤ 8388608 := by
    have : (temp ++ (⟨#[46]⟩ : ByteArray)).size = temp.size + 1 := by rw [ByteArray.size_append]; rfl
    omega
  have a1 : ∀ t w, (binOp .add t (.string temp) (.string ⟨#[46]⟩)).run Tryz.prog w = .ok (.string (temp ++ ⟨#[46]⟩)) w := fun t w => run_cat temp ⟨#[46]⟩ s2 (by decide) t w
  have a2 : ∀ t w, (binOp .add t (.string (temp ++ ⟨#[46]⟩)) (.string ⟨(Lib.decDigits n).toArray⟩)).run Tryz.prog w = .ok (.string (rowN temp n)) w := fun t w => run_cat _ _ s3 s1 t w
  have o1 : ∀ w, (Op.stringOp .add temp ⟨#[46]⟩).run Tryz.prog w = .ok (.string (temp ++ ⟨#[46]⟩)) w := fun w => run_string_add w temp ⟨#[46]⟩ s2 (by decide)
  have o2 : ∀ w, (Op.stringOp .add (temp ++ ⟨#[46]⟩) ⟨(Lib.decDigits n).toArray⟩).run Tryz.prog w = .ok (.string (rowN temp n)) w := fun w => run_string_add w _ _ s3 s1
  have HR : Hid (∀ {W W' : World}, Kept [] w W → Kept [] W W' → Kept [] w W') := fun a b => a.trans b (Newly.refl _ _)
  clear s1 s2 s3 h6 hts ht
  have h1' : w.drew.cell? ⟨sp, 1, none⟩ = some (.string temp) := h1
  go_enter Tryz.func61, Tryz.ntmps61
  go_wp2_with fail
  go_region_held (fun W => W.cell? ⟨sp, 1, none⟩ = some (.string temp)) (assumption)
    (first | (go_at_call 89; refine (IT.out _ ((Kept.refl _ w).drew)).mono ?_; rintro e w2 ⟨rfl, k2⟩; have c2 := KC.out w2 (HR.out ((Kept.refl _ w).drew) k2); have HK2 := hide k2; clear k2))
  all_goals
    go_wp2
    go_ret
    exact ⟨rfl, HR.out ((Kept.refl _ w).drew) HK2.out⟩

end Go.Proofs.YtgpbanjammipiaaGreatDoor

namespace Go.Proofs.YtgpbanjammipiaaGreatDoor
open Go.RowKit

/-- How many parts of so many things n things are. -/
def partsN (n size : Nat) : Nat := (n - 1) / size + 1
/-- How often rows are merged until there is one. -/
def passN (fan : Nat) : Nat → Nat → Nat
  | 0, _ => 0
  | f + 1, rows => if rows ≤ 1 then 0 else passN fan f (partsN rows fan) + 1
/-- .. of n records. -/
def passesN (n budget fan : Int) : Nat := if n < 1 ∨ budget < 1 ∨ fan < 2 then 0 else passN fan.toNat n.toNat (partsN n.toNat budget.toNat)

theorem partsN_lt {n fan : Nat} (hn : 1 < n) (hf : 2 ≤ fan) : partsN n fan < n := by
  unfold partsN
  have : (n - 1) / fan ≤ (n - 1) / 2 := Nat.div_le_div_left hf (by omega)
  omega

theorem passN_le (fan : Nat) (f rows : Nat) : passN fan f rows ≤ f := by
  induction f generalizing rows with
  | zero => simp [passN]
  | succ f ih =>
    rw [passN]
    split
    · omega
    · have := ih (partsN rows fan); omega

/-- Enough steps are enough. -/
theorem passN_more {fan : Nat} (hf : 2 ≤ fan) (f g rows : Nat) (h1 : rows ≤ f + 1) (h2 : rows ≤ g + 1) : passN fan f rows = passN fan g rows := by
  induction f generalizing g rows with
  | zero =>
    cases g with
    | zero => rfl
    | succ g => rw [passN, passN, if_pos (by omega)]
  | succ f ih =>
    cases g with
    | zero => rw [passN, passN, if_pos (by omega)]
    | succ g =>
      rw [passN, passN]
      by_cases h : rows ≤ 1
      · rw [if_pos h, if_pos h]
      · rw [if_neg h, if_neg h]
        have := partsN_lt (show 1 < rows by omega) hf
        rw [ih g (partsN rows fan) (by omega) (by omega)]

theorem tdiv_nat (a b : Nat) : Int.tdiv (a : Int) (b : Int) = ((a / b : Nat) : Int) := by
  rw [Int.ofNat_tdiv]

set_option maxRecDepth 100000 in
set_option maxHeartbeats 2000000 in
theorem parts_any (w : World) (n size : Nat) (hn : 1 ≤ n) (hn2 : n ≤ 1000000) (hs : 1 ≤ size) (hs2 : size < 9223372036854775808) :
    Calls Tryz.prog 39 #[.int .i64 (n : Int), .int .i64 (size : Int)] w fun e w' => e = .returned (.int .i64 (partsN n size : Nat)) ∧ w' = w := by
  have h1 : IntKind.i64.wrap ((n : Int) - 1) = ((n - 1 : Nat) : Int) := by rw [i64_small _ (by omega) (by omega)]; omega
  have hq : (n - 1) / size ≤ n - 1 := Nat.div_le_self _ _
  obtain ⟨d, hd⟩ : ∃ d, d = (n - 1) / size := ⟨_, rfl⟩
  have hdi : ((n - 1 : Nat) : Int) / (size : Int) = (d : Int) := by rw [hd]; exact (Int.natCast_ediv _ _).symm
  have hpd : partsN n size = d + 1 := by rw [hd]; rfl
  rw [hpd]
  rw [← hd] at hq
  have h3 : IntKind.i64.wrap (d : Int) = (d : Int) := i64_small _ (by omega) (by omega)
  have h4 : IntKind.i64.wrap ((d : Int) + 1) = (d : Int) + 1 := i64_small _ (by omega) (by omega)
  have h5 : ((d + 1 : Nat) : Int) = (d : Int) + 1 := by omega
  rw [h5]
  have hz : ¬ (size : Int) = 0 := by omega
  clear hd hpd
  go_enter Tryz.func39, Tryz.ntmps39
  go_wp2
  go_ret
  exact ⟨rfl, rfl⟩

set_option maxRecDepth 100000 in
set_option maxHeartbeats 4000000 in
theorem passes_any (w : World) (n budget fan : Int) (hn : n ≤ 1000000) (hb : budget < 9223372036854775808) (hf : fan < 9223372036854775808) :
    Calls Tryz.prog 20 #[.int .i64 n, .int .i64 budget, .int .i64 fan] w fun e w' => e = .returned (.int .i64 (passesN n budget fan : Nat)) ∧ Below w.heap.size w w' := by
  by_cases h0 : n < 1 ∨ budget < 1 ∨ fan < 2
  · have hp : passesN n budget fan = 0 := by unfold passesN; rw [if_pos h0]
    rw [hp]
    clear hp
    by_cases hn1 : n < 1
    · clear h0
      go_enter Tryz.func20, Tryz.ntmps20
      go_wp2
      go_ret
      exact ⟨rfl, Below.refl _ _⟩
    · by_cases hb1 : budget < 1
      · clear h0
        go_enter Tryz.func20, Tryz.ntmps20
        go_wp2
        go_ret
        exact ⟨rfl, Below.refl _ _⟩
      · have hf2 : fan < 2 := by rcases h0 with h | h | h <;> first | exact absurd h hn1 | exact absurd h hb1 | exact h
        clear h0
        go_enter Tryz.func20, Tryz.ntmps20
        go_wp2
        go_ret
        exact ⟨rfl, Below.refl _ _⟩
  · obtain ⟨hn1, hb1, hf2⟩ : ¬ n < 1 ∧ ¬ budget < 1 ∧ ¬ fan < 2 := by
      refine ⟨fun h => h0 (.inl h), fun h => h0 (.inr (.inl h)), fun h => h0 (.inr (.inr h))⟩
    have hp : passesN n budget fan = passN fan.toNat n.toNat (partsN n.toNat budget.toNat) := by unfold passesN; rw [if_neg h0]
    rw [hp]
    clear hp h0
    obtain ⟨N, rfl⟩ : ∃ N : Nat, n = (N : Int) := ⟨n.toNat, by omega⟩
    obtain ⟨D, rfl⟩ : ∃ D : Nat, budget = (D : Int) := ⟨budget.toNat, by omega⟩
    obtain ⟨F, rfl⟩ : ∃ F : Nat, fan = (F : Int) := ⟨fan.toNat, by omega⟩
    simp only [Int.toNat_natCast]
    have hR0 : partsN N D ≤ N := by
      unfold partsN
      have : (N - 1) / D ≤ N - 1 := Nat.div_le_self _ _
      omega
    have hR1 : 1 ≤ partsN N D := Nat.le_add_left 1 _
    obtain ⟨tot, htot⟩ : ∃ t, t = passN F N (partsN N D) := ⟨_, rfl⟩
    have htl : tot ≤ N := by rw [htot]; exact passN_le _ _ _
    rw [← htot]
    have hst : 0 + passN F (partsN N D) (partsN N D) = tot := by rw [htot, Nat.zero_add]; exact passN_more (by omega) _ _ _ (by omega) (by omega)
    obtain ⟨R0, hR⟩ : ∃ r, r = partsN N D := ⟨_, rfl⟩
    have P1 := hide (parts_any w N D (by omega) (by omega) (by omega) (by omega))
    rw [← hR] at hR0 hR1 hst P1
    have HP : Hid (∀ r : Nat, 1 ≤ r → r ≤ 1000000 → Calls Tryz.prog 39 #[.int .i64 (r : Int), .int .i64 (F : Int)] w fun e w' => e = .returned (.int .i64 (partsN r F : Nat)) ∧ w' = w) := fun r h1 h2 => parts_any w r F h1 h2 (by omega) (by omega)
    have HST := hide hst
    clear htot hR hst
    go_enter Tryz.func20, Tryz.ntmps20
    go_wp2_with (go_at_call 39; refine P1.out.mono ?_; rintro e w1 ⟨rfl, hw⟩; rw [hw]; clear hw w1)
    go_loopg [7, 8] (R0) (fun gk pv rv wr => ∃ p r : Nat, pv = .int .i64 (p : Int) ∧ rv = .int .i64 (r : Int) ∧ gk = r ∧ 1 ≤ r ∧ r ≤ 1000000 ∧ p ≤ 1000000 ∧ wr = w ∧ Hid (p + passN F r r = tot))
    case atStart => exact ⟨0, R0, rfl, rfl, rfl, hR1, by omega, by omega, rfl, HST.out⟩
    case round =>
      obtain ⟨p, r, rfl, rfl, hgr, hr1, hr2, hp2, hwr, hpt⟩ := hrel
      have HGR := hide hgr
      clear hgr
      rw [hwr]
      clear hwr
      by_cases hgt : 1 < r
      · have hgt' : (1 : Int) < (r : Int) := by omega
        have PR := hide (HP.out r hr1 hr2)
        have hlt := partsN_lt hgt (show 2 ≤ F by omega)
        have hge : 1 ≤ partsN r F := Nat.le_add_left 1 _
        have hnx : p + 1 + passN F (partsN r F) (partsN r F) = tot := by
          have h1 := hpt.out
          obtain ⟨r1, rfl⟩ : ∃ r1, r = r1 + 1 := ⟨r - 1, by omega⟩
          rw [passN, if_neg (by omega)] at h1
          rw [passN_more (show 2 ≤ F by omega) (partsN (r1 + 1) F) r1 (partsN (r1 + 1) F) (by omega) (by omega)]
          omega
        obtain ⟨r', hr'⟩ : ∃ r', r' = partsN r F := ⟨_, rfl⟩
        rw [← hr'] at PR hlt hge hnx
        have HN := hide hnx
        clear hr'
        have hp3 : p + 1 ≤ 1000000 := by omega
        clear hnx
        go_wp2_with (go_at_call 39; refine PR.out.mono ?_; rintro e w1 ⟨rfl, hw⟩; rw [hw]; clear hw w1)
        go_roundg r'
        case measure =>
          have := HGR.out
          omega
        case rel => exact ⟨p + 1, r', by go_num, rfl, rfl, hge, by omega, hp3, rfl, HN.out⟩
      · have hgt' : ¬ (1 : Int) < (r : Int) := by omega
        have hr0 : r = 1 := by omega
        have hpe : p = tot := by
          have h1 := hpt.out
          rw [hr0, passN, if_pos (by omega)] at h1
          omega
        have HPE := hide hpe
        clear hr0 hpe
        go_wp2
        go_ret
        exact ⟨by rw [HPE.out]; rfl, Below.refl _ _⟩

/-- The numbers on the way. -/
theorem parts_num (n size : Nat) (hn : 1 ≤ n) (hn2 : n ≤ 1000000) (hs : 1 ≤ size) :
    IntKind.i64.wrap ((n : Int) - 1) = (n : Int) - 1 ∧ ¬ (size : Int) = 0 ∧ IntKind.i64.wrap (((n : Int) - 1) / (size : Int)) = ((n : Int) - 1) / (size : Int) ∧ IntKind.i64.wrap (((n : Int) - 1) / (size : Int) + 1) = (partsN n size : Int) := by
  have hq : (n - 1) / size ≤ n - 1 := Nat.div_le_self _ _
  have hdi : ((n : Int) - 1) / (size : Int) = (((n - 1) / size : Nat) : Int) := by
    rw [show (n : Int) - 1 = ((n - 1 : Nat) : Int) by omega]
    exact (Int.natCast_ediv _ _).symm
  have hp : (partsN n size : Int) = (((n - 1) / size : Nat) : Int) + 1 := rfl
  obtain ⟨d, hd⟩ : ∃ d, d = (n - 1) / size := ⟨_, rfl⟩
  rw [hp, hdi, ← hd]
  rw [← hd] at hq
  exact ⟨i64_small _ (by omega) (by omega), by omega, i64_small _ (by omega) (by omega), i64_small _ (by omega) (by omega)⟩

set_option maxRecDepth 100000 in
set_option maxHeartbeats 4000000 in
theorem refPasses_any (w : World) (n budget fan : Int) (hn : n ≤ 1000000) (hb : budget < 9223372036854775808) (hf : fan < 9223372036854775808) :
    Calls Tryz.prog 17 #[.int .i64 n, .int .i64 budget, .int .i64 fan] w fun e w' => e = .returned (.int .i64 (passesN n budget fan : Nat)) ∧ Below w.heap.size w w' := by
  by_cases h0 : n < 1 ∨ budget < 1 ∨ fan < 2
  · have hp : passesN n budget fan = 0 := by unfold passesN; rw [if_pos h0]
    rw [hp]
    clear hp
    by_cases hn1 : n < 1
    · clear h0
      go_enter Tryz.func17, Tryz.ntmps17
      go_wp2
      go_ret
      exact ⟨rfl, Below.refl _ _⟩
    · by_cases hb1 : budget < 1
      · clear h0
        go_enter Tryz.func17, Tryz.ntmps17
        go_wp2
        go_ret
        exact ⟨rfl, Below.refl _ _⟩
      · have hf2 : fan < 2 := by rcases h0 with h | h | h <;> first | exact absurd h hn1 | exact absurd h hb1 | exact h
        clear h0
        go_enter Tryz.func17, Tryz.ntmps17
        go_wp2
        go_ret
        exact ⟨rfl, Below.refl _ _⟩
  · obtain ⟨hn1, hb1, hf2⟩ : ¬ n < 1 ∧ ¬ budget < 1 ∧ ¬ fan < 2 := by
      refine ⟨fun h => h0 (.inl h), fun h => h0 (.inr (.inl h)), fun h => h0 (.inr (.inr h))⟩
    have hp : passesN n budget fan = passN fan.toNat n.toNat (partsN n.toNat budget.toNat) := by unfold passesN; rw [if_neg h0]
    rw [hp]
    clear hp h0
    obtain ⟨N, rfl⟩ : ∃ N : Nat, n = (N : Int) := ⟨n.toNat, by omega⟩
    obtain ⟨D, rfl⟩ : ∃ D : Nat, budget = (D : Int) := ⟨budget.toNat, by omega⟩
    obtain ⟨F, rfl⟩ : ∃ F : Nat, fan = (F : Int) := ⟨fan.toNat, by omega⟩
    simp only [Int.toNat_natCast]
    have hR0 : partsN N D ≤ N := by
      unfold partsN
      have : (N - 1) / D ≤ N - 1 := Nat.div_le_self _ _
      omega
    have hR1 : 1 ≤ partsN N D := Nat.le_add_left 1 _
    obtain ⟨tot, htot⟩ : ∃ t, t = passN F N (partsN N D) := ⟨_, rfl⟩
    have htl : tot ≤ N := by rw [htot]; exact passN_le _ _ _
    rw [← htot]
    have hst : 0 + passN F (partsN N D) (partsN N D) = tot := by rw [htot, Nat.zero_add]; exact passN_more (by omega) _ _ _ (by omega) (by omega)
    obtain ⟨R0, hR⟩ : ∃ r, r = partsN N D := ⟨_, rfl⟩
    obtain ⟨q1, q2, q3, q4⟩ := parts_num N D (by omega) (by omega) (by omega)
    rw [← hR] at hR0 hR1 hst q4
    have HP : Hid (∀ r : Nat, 1 ≤ r → r ≤ 1000000 → _) := fun r h1 h2 => parts_num r F h1 h2 (by omega)
    have HST := hide hst
    clear htot hR hst
    go_enter Tryz.func17, Tryz.ntmps17
    go_wp2
    go_loopg [7, 8] (R0) (fun gk rv pv wr => ∃ p r : Nat, pv = .int .i64 (p : Int) ∧ rv = .int .i64 (r : Int) ∧ gk = r ∧ 1 ≤ r ∧ r ≤ 1000000 ∧ p ≤ 1000000 ∧ wr = w ∧ Hid (p + passN F r r = tot))
    case atStart => exact ⟨0, R0, rfl, rfl, rfl, hR1, by omega, by omega, rfl, HST.out⟩
    case round =>
      obtain ⟨p, r, rfl, rfl, hgr, hr1, hr2, hp2, hwr, hpt⟩ := hrel
      have HGR := hide hgr
      clear hgr
      rw [hwr]
      clear hwr
      by_cases hgt : 1 < r
      · have hgt' : (1 : Int) < (r : Int) := by omega
        obtain ⟨v1, v2, v3, v4⟩ := HP.out r hr1 hr2
        have hlt := partsN_lt hgt (show 2 ≤ F by omega)
        have hge : 1 ≤ partsN r F := Nat.le_add_left 1 _
        have hnx : p + 1 + passN F (partsN r F) (partsN r F) = tot := by
          have h1 := hpt.out
          obtain ⟨r1, rfl⟩ : ∃ r1, r = r1 + 1 := ⟨r - 1, by omega⟩
          rw [passN, if_neg (by omega)] at h1
          rw [passN_more (show 2 ≤ F by omega) (partsN (r1 + 1) F) r1 (partsN (r1 + 1) F) (by omega) (by omega)]
          omega
        obtain ⟨r', hr'⟩ : ∃ r', r' = partsN r F := ⟨_, rfl⟩
        rw [← hr'] at v4 hlt hge hnx
        have HN := hide hnx
        clear hr'
        have hp3 : p + 1 ≤ 1000000 := by omega
        clear hnx
        go_wp2
        go_roundg r'
        case measure =>
          have := HGR.out
          omega
        case rel => exact ⟨p + 1, r', by go_num, rfl, rfl, hge, by omega, hp3, rfl, HN.out⟩
      · have hgt' : ¬ (1 : Int) < (r : Int) := by omega
        have hr0 : r = 1 := by omega
        have hpe : p = tot := by
          have h1 := hpt.out
          rw [hr0, passN, if_pos (by omega)] at h1
          omega
        have HPE := hide hpe
        clear hr0 hpe
        go_wp2
        go_ret
        exact ⟨by rw [HPE.out]; rfl, Below.refl _ _⟩

end Go.Proofs.YtgpbanjammipiaaGreatDoor

namespace Go.Proofs.YtgpbanjammipiaaGreatDoor
open Go.RowKit Go.Maps

/-! ### Records combined, one behind the other -/

/-- What records become behind x, which is held. -/
def wrL (how : Int) : Rc → List Rc → List Rc
  | x, [] => [x]
  | x, y :: S => if y.1 = x.1 ∧ how ≠ 0 then wrL how (x.1, combV how x.2 y.2) S else x :: wrL how y S
def outL (how : Int) : List Rc → List Rc
  | [] => []
  | x :: S => wrL how x S

theorem wrL_fold (how : Int) (S : List Rc) : ∀ (x : Rc) (ps : List Rc), S.foldl (addR how) (ps ++ [x]) = ps ++ wrL how x S := by
  induction S with
  | nil => intro x ps; rfl
  | cons y S ih =>
    intro x ps
    rw [List.foldl_cons]
    have hl : (ps ++ [x])[(ps ++ [x]).length - 1]! = x := by
      rw [List.length_append, List.length_singleton, Nat.add_sub_cancel, getElem!_pos (ps ++ [x]) ps.length (by simp)]
      simp
    by_cases h : y.1 = x.1 ∧ how ≠ 0
    · rw [addR_comb (by rw [hl]; simp only [not_or]; exact ⟨h.2, by simp, by simp [h.1]⟩), hl]
      have e : (ps ++ [x]).set ((ps ++ [x]).length - 1) (y.1, combV how x.2 y.2) = ps ++ [(x.1, combV how x.2 y.2)] := by
        rw [List.length_append, List.length_singleton, Nat.add_sub_cancel, List.set_append_right _ _ (Nat.le_refl _)]
        simp [h.1]
      rw [e, ih, wrL, if_pos h]
    · rw [addR_push (by
        rw [hl]
        by_cases h0 : how = 0
        · exact .inl h0
        · exact .inr (.inr (fun e => h ⟨e.symm, h0⟩))), ih, wrL, if_neg h]
      simp

theorem outL_fold (how : Int) (S : List Rc) : outL how S = foldR how S := by
  cases S with
  | nil => rfl
  | cons x S =>
    have := wrL_fold how S x []
    simp only [List.nil_append] at this
    show wrL how x S = foldR how (x :: S)
    unfold foldR
    rw [List.foldl_cons, ← this, show addR how [] x = [x] from addR_push (.inr (.inl rfl))]

/-- .. of all records in order. -/
theorem outL_can (how : Int) (l : List Rc) : outL how (sortR [] l) = canR how l := outL_fold how _

/-! ### What feeds -/

/-- What a feed tells, and leaves. FI: its memory, by what it will tell; FE: what is left of it behind an error. -/
def FeedP (p : Nat) (FI : World → List Nat → List Rc → Prop) (FE : World → List Nat → Prop) (w : World) (fd ff : List Nat) (A : Dsk) (S : List Rc) (e : Ending) (w' : World) : Prop :=
  ∃ B fd' y b e', e = .returned (.tuple #[valR y, .bool b, .int .i64 e']) ∧ Dk w' fd' p B.1 B.2 ∧ Kept (fd ++ ff) w w' ∧ Newly w (fd ++ ff) fd' ∧ Red 2 A B ∧ ∃ ff', (∀ z ∈ ff', z ∉ fd') ∧ Newly w (fd ++ ff) ff' ∧
    ((B.2.down = false ∧ e' = 0 ∧ ∃ S', FI w' ff' S' ∧ ((S = y :: S' ∧ b = true) ∨ (S = [] ∧ S' = [] ∧ b = false))) ∨ (B.2.down = true ∧ e' = 7 ∧ FE w' ff'))

/-- A closure f, of the values args, that feeds what is written to the file n; E: the files that were made ahead of it; sp: the sorter's block. -/
structure IsFeed (p f : Nat) (args : Array Value) (sp : Nat) (how : Int) (A0 : Dsk) (E : List Ab) (n : List UInt8) (FI : World → List Nat → List Rc → Prop) (FE : World → List Nat → Prop) : Prop where
  ent : ∀ a w, (callFunc f a).run Tryz.prog w = .ok (.enter f a) w
  lt : ∀ {w ff S}, FI w ff S → ∀ x ∈ ff, x < w.heap.size
  kept : ∀ {w w' ff fq S}, FI w ff S → Kept fq w w' → (∀ x ∈ ff, x ∉ fq) → FI w' ff S
  how : ∀ {w ff S}, FI w ff S → w.cell? ⟨sp, 4, none⟩ = some (.int .i64 how)
  ok : ∀ {w ff S}, FI w ff S → ∀ e ∈ S, okR e
  fe : ∀ {w ff S}, FI w ff S → FE w ff
  feb : ∀ {w w' ff}, FE w ff → Below w.heap.size w w' → FE w' ff
  call : ∀ {w fd ff A S x}, Dk w fd p A.1 A.2 → FI w ff S → (∀ y ∈ ff, y ∉ fd) → Ext A0 A (x :: E) → x.1 = n → A.2.ops ≤ 999990 → Calls Tryz.prog f args w (FeedP p FI FE w fd ff A S)

/-! ### The state of write -/

section
variable {p f q sp : Nat} {args : Array Value} {how : Int} {A0 A B : Dsk} {E : List Ab} {nm : ByteArray} {FI : World → List Nat → List Rc → Prop} {FE : World → List Nat → Prop}
variable {w0 w w' : World} {fp0 fd fd' ff ff' : List Nat} {tv : Value} {t : List Int} {S : List Rc}

/-- A writer beside a disk that was read. -/
theorem WkE.fed (h : WkE w fd tv p q A nm t) (d : Dk w' fd' p B.1 B.2) (hk : Kept (fd ++ ff) w w') (hn : Newly w (fd ++ ff) fd') (hf : ∀ z ∈ ff, z ∉ wfp fd q tv) : WkE w' fd' tv p q B nm t := by
  have hq : q ∉ fd ++ ff := fun e => by
    rcases List.mem_append.1 e with e | e
    · exact h.qfd e
    · exact hf q e (wfp_mem.2 (.inr (.inl rfl)))
  have ht : ∀ x ∈ own tv, x ∉ fd ++ ff := fun x hx e => by
    rcases List.mem_append.1 e with e | e
    · exact h.tfd x hx e
    · exact hf x e (wfp_mem.2 (.inr (.inr hx)))
  refine ⟨d, hk.heap9 h.cells hq, h.row.kept hk ht, fun e => ?_, fun x hx e => ?_, h.qt⟩
  · rcases hn q e with e | e
    · exact hq e
    · have := heap_lt h.cells; omega
  · rcases hn x e with e | e
    · exact ht x hx e
    · have := h.row.lt x hx; omega

/-- The disk, the writer, what feeds, and the record that is held in the box b. -/
structure WrSt (FI : World → List Nat → List Rc → Prop) (p q : Nat) (nm : ByteArray) (w0 : World) (fp0 : List Nat) (w : World) (fd ff : List Nat) (tv : Value) (A : Dsk) (t : List Int) (S : List Rc) : Prop where
  wk : WkE w fd tv p q A nm t
  feed : FI w ff S
  dis : ∀ z ∈ ff, z ∉ wfp fd q tv
  kept : Kept fp0 w0 w
  new : Newly w0 fp0 (wfp fd q tv ++ ff)

/-- A box of a record beside them. -/
structure BxR (w0 : World) (w : World) (fa : List Nat) (b : Nat) (x : Rc) : Prop where
  box : w.heap[b]? = some (.cells #[.int .u64 x.1, .int .u64 x.2] 52 (0, 0))
  new : w0.heap.size ≤ b
  out : b ∉ fa

theorem BxR.kept {fa fa' fq : List Nat} {b : Nat} {x : Rc} (h : BxR w0 w fa b x) (hk : Kept fq w w') (hq : ∀ z ∈ fq, z ∈ fa ∨ w.heap.size ≤ z) (hn : Newly w fa fa') : BxR w0 w' fa' b x := by
  have hb := heap_lt h.box
  refine ⟨hk.heap9 h.box (fun e => ?_), h.new, fun e => ?_⟩
  · rcases hq b e with e | e
    · exact h.out e
    · omega
  · rcases hn b e with e | e
    · exact h.out e
    · omega

theorem BxR.cells {fa : List Nat} {b : Nat} {x : Rc} (h : BxR w0 w fa b x) : w.cell? ⟨b, 0, none⟩ = some (.int .u64 x.1) ∧ w.cell? ⟨b, 1, none⟩ = some (.int .u64 x.2) ∧ ∀ o, w.frozen? ⟨b, o, none⟩ = false :=
  ⟨(cell_of_heap h.box 0).trans rfl, (cell_of_heap h.box 1).trans rfl, fun o => frozen_of_heap h.box o⟩

theorem BxR.fresh {fa : List Nat} (hw : w0.heap.size ≤ w.heap.size) (hl : ∀ z ∈ fa, z < w.heap.size) (x1 x2 : Int) : BxR w0 (w.alloc (.cells #[.int .u64 x1, .int .u64 x2] 52)) fa w.heap.size (x1, x2) :=
  ⟨heap_alloc_new w _, hw, fun e => by have := hl _ e; omega⟩

theorem WrSt.lt (IF : IsFeed p f args sp how A0 E nm.data.toList FI FE) (h : WrSt FI p q nm w0 fp0 w fd ff tv A t S) : ∀ z ∈ wfp fd q tv ++ ff, z < w.heap.size := fun z hz => by
  rcases List.mem_append.1 hz with hz | hz
  · exact h.wk.lt z hz
  · exact IF.lt h.feed z hz

/-- Nothing of it was touched. -/
theorem WrSt.stay (IF : IsFeed p f args sp how A0 E nm.data.toList FI FE) (h : WrSt FI p q nm w0 fp0 w fd ff tv A t S) {fq : List Nat} (hk : Kept fq w w') (hq : ∀ z ∈ fq, z ∉ wfp fd q tv ++ ff) (hn : ∀ z ∈ fq, w0.heap.size ≤ z) : WrSt FI p q nm w0 fp0 w' fd ff tv A t S :=
  ⟨h.wk.kept hk (fun x hx e => hq x e (List.mem_append.2 (.inl hx))), IF.kept h.feed hk (fun x hx e => hq x e (List.mem_append.2 (.inr hx))), h.dis, h.kept.trans hk (fun x hx => .inr (hn x hx)), h.new⟩

theorem WrSt.below (IF : IsFeed p f args sp how A0 E nm.data.toList FI FE) (h : WrSt FI p q nm w0 fp0 w fd ff tv A t S) (hb : Below w.heap.size w w') : WrSt FI p q nm w0 fp0 w' fd ff tv A t S :=
  h.stay IF (fq := []) (Kept.of_below hb) (by simp) (by simp)

/-- It was fed. -/
theorem WrSt.fed (h : WrSt FI p q nm w0 fp0 w fd ff tv A t S) {S' : List Rc} (d : Dk w' fd' p B.1 B.2) (hk : Kept (fd ++ ff) w w') (hn : Newly w (fd ++ ff) fd') (hi : FI w' ff' S') (hd : ∀ z ∈ ff', z ∉ fd') (hn2 : Newly w (fd ++ ff) ff') :
    WrSt FI p q nm w0 fp0 w' fd' ff' tv B t S' ∧ Newly w (wfp fd q tv ++ ff) (wfp fd' q tv ++ ff') ∧ ∀ z ∈ fd ++ ff, z ∈ wfp fd q tv ++ ff := by
  have sub : ∀ z ∈ fd ++ ff, z ∈ wfp fd q tv ++ ff := fun z hz => by
    rcases List.mem_append.1 hz with hz | hz
    · exact List.mem_append.2 (.inl (wfp_mem.2 (.inl hz)))
    · exact List.mem_append.2 (.inr hz)
  have nn : Newly w (wfp fd q tv ++ ff) (wfp fd' q tv ++ ff') := fun z hz => by
    rcases List.mem_append.1 hz with hz | hz
    · rcases wfp_mem.1 hz with hz | hz
      · exact (hn z hz).imp (sub z) id
      · exact .inl (List.mem_append.2 (.inl (wfp_mem.2 (.inr hz))))
    · exact (hn2 z hz).imp (sub z) id
  refine ⟨⟨h.wk.fed d hk hn h.dis, hi, fun z hz e => ?_, h.kept.trans (hk.mono sub) h.new, h.new.trans nn h.kept.size⟩, nn, sub⟩
  have hout : ∀ z, (z = q ∨ z ∈ own tv) → z ∉ fd ++ ff ∧ z < w.heap.size := fun z hz => by
    refine ⟨fun e => ?_, h.wk.lt z (wfp_mem.2 (.inr hz))⟩
    rcases List.mem_append.1 e with e | e
    · rcases hz with hz | hz
      · exact h.wk.qfd (hz ▸ e)
      · exact h.wk.tfd z hz e
    · exact h.dis z e (wfp_mem.2 (.inr hz))
  rcases wfp_mem.1 e with e | e
  · exact hd z hz e
  · obtain ⟨o1, o2⟩ := hout z e
    rcases hn2 z hz with e | e
    · exact o1 e
    · omega

/-- A record was put. -/
theorem WrSt.wrote (IF : IsFeed p f args sp how A0 E nm.data.toList FI FE) (h : WrSt FI p q nm w0 fp0 w fd ff tv A t S) {t' : List Int} (o : WkO w w' (wfp fd q tv) p q B nm t') : ∃ fd' tv', WrSt FI p q nm w0 fp0 w' fd' ff tv' B t' S ∧ Newly w (wfp fd q tv ++ ff) (wfp fd' q tv' ++ ff) ∧ Kept (wfp fd q tv) w w' := by
  obtain ⟨fp', ⟨fd', tv', e', rfl⟩, k, n⟩ := o
  have nn : Newly w (wfp fd q tv ++ ff) (wfp fd' q tv' ++ ff) := fun z hz => by
    rcases List.mem_append.1 hz with hz | hz
    · exact (n z hz).imp (fun e => List.mem_append.2 (.inl e)) id
    · exact .inl (List.mem_append.2 (.inr hz))
  refine ⟨fd', tv', ⟨e', IF.kept h.feed k h.dis, fun z hz e => ?_, h.kept.trans k (fun z hz => h.new z (List.mem_append.2 (.inl hz))), h.new.trans nn h.kept.size⟩, nn, k⟩
  rcases n z e with e | e
  · exact h.dis z hz e
  · have := IF.lt h.feed z hz; omega

/-- The writer was closed. -/
theorem WrSt.shut (IF : IsFeed p f args sp how A0 E nm.data.toList FI FE) (h : WrSt FI p q nm w0 fp0 w fd ff tv A t S) (o : WxO w w' (wfp fd q tv) p q B) : ∃ fd', Dk w' fd' p B.1 B.2 ∧ FI w' ff S ∧ (∀ z ∈ ff, z ∉ fd') ∧ Kept fp0 w0 w' ∧ Newly w0 fp0 (fd' ++ ff) := by
  obtain ⟨fp', ⟨fd', d, _, _, rfl⟩, k, n⟩ := o
  have n2 : Newly w (wfp fd q tv ++ ff) (fd' ++ ff) := fun z hz => by
    rcases List.mem_append.1 hz with hz | hz
    · exact (n z (List.mem_append.2 (.inl hz))).imp (fun e => List.mem_append.2 (.inl e)) id
    · exact .inl (List.mem_append.2 (.inr hz))
  refine ⟨fd', d, IF.kept h.feed k h.dis, fun z hz e => ?_, h.kept.trans k (fun z hz => h.new z (List.mem_append.2 (.inl hz))), h.new.trans n2 h.kept.size⟩
  rcases n z (List.mem_append.2 (.inl e)) with e | e
  · exact h.dis z hz e
  · have := IF.lt h.feed z hz; omega

end

/-- What write leaves: T what was to be written. -/
def WriteP (p : Nat) (nm : ByteArray) (A0 : Dsk) (E : List Ab) (M : List UInt8 → Prop) (FI : World → List Nat → List Rc → Prop) (FE : World → List Nat → Prop) (w : World) (fp0 : List Nat) (A : Dsk) (c : Int) (T : List Rc) (e : Ending) (w' : World) : Prop :=
  ∃ B k fd ff, e = .returned (.int .i64 k) ∧ Dk w' fd p B.1 B.2 ∧ (∀ z ∈ ff, z ∉ fd) ∧ Kept fp0 w w' ∧ Newly w fp0 (fd ++ ff) ∧ A.2.ops ≤ B.2.ops ∧ B.2.ops ≤ A.2.ops + c ∧
    ((k = 0 ∧ FI w' ff [] ∧ Ext A0 B ((nm.data.toList, fileB T, fileB T) :: E)) ∨
     (k = 6 ∧ FE w' ff ∧ (∃ F, Ext A0 B ((nm.data.toList, F, []) :: E)) ∧ A0.2.room - A0.2.used < sec (fileB T).length + usedB E) ∨
     (k = 7 ∧ FE w' ff ∧ Cr A0 B M (sec (fileB T).length + usedB E)))

end Go.Proofs.YtgpbanjammipiaaGreatDoor

namespace Go.Proofs.YtgpbanjammipiaaGreatDoor
open Go.RowKit Go.Maps

theorem sec_prefix (F G : List Int) {H : List Int} (h : F ++ G = H) : sec F.length ≤ sec H.length := by
  rw [← h]; exact sec_le_append F G

theorem fileB_front (F : List Int) (ts : List Rc) (x : Rc) (l : List Rc) {H : List Int} (h : F ++ fileB (ts ++ x :: l) = H) : sec (F ++ fileB (ts ++ [x])).length ≤ sec H.length := by
  rw [← h]
  refine sec_mono ?_
  rw [List.length_append, List.length_append, fileB_length, fileB_length, List.length_append, List.length_append]
  simp only [List.length_cons, List.length_nil]
  omega

section
variable {p f q sp : Nat} {fa ca : Array Value} {how : Int} {A0 A : Dsk} {E : List Ab} {M : List UInt8 → Prop} {nm : ByteArray} {FI : World → List Nat → List Rc → Prop} {FE : World → List Nat → Prop}
variable {w : World} {fd ff : List Nat} {tv : Value} {S : List Rc}

/-- The state at the head of the loop: k rounds are left. -/
def WrLoop (p q : Nat) (how : Int) (A0 : Dsk) (E : List Ab) (nm : ByteArray) (FI : World → List Nat → List Rc → Prop) (w : World) (fp0 : List Nat) (o0 c : Int) (T : List Rc) (k : Nat) (is : Bool) (lb : Nat) (wr : World) : Prop :=
  ∃ A fd ff tv F ts x S, WrSt FI p q nm w fp0 wr fd ff tv A (textB ts) S ∧ BxR w wr (wfp fd q tv ++ ff) lb x ∧ Ext A0 A ((nm.data.toList, F, []) :: E) ∧ ts.length < 50 ∧ o0 ≤ A.2.ops ∧ A.2.ops + 3 * k ≤ c ∧
    ((is = true ∧ okR x ∧ F ++ fileB (ts ++ wrL how x S) = fileB T ∧ k = S.length + 1) ∨ (is = false ∧ S = [] ∧ F ++ fileB ts = fileB T ∧ k = 0))

set_option maxRecDepth 100000 in
set_option maxHeartbeats 8000000 in
theorem soWrite_any (IF : IsFeed p f (fa ++ ca) sp how A0 E nm.data.toList FI FE) (hwk : WkE w fd tv p q A nm []) (hff : FI w ff S) (hdis : ∀ z ∈ ff, z ∉ wfp fd q tv) (hext : Ext A0 A ((nm.data.toList, [], []) :: E)) (hMn : M nm.data.toList) (hM : ∀ x ∈ E, M x.1) (hnm : nm.size ≤ maxLen) (hops : A.2.ops + 3 * S.length + 20 ≤ 999990) :
    Calls Tryz.prog 55 #[.pointer (some ⟨sp, 0, none⟩), .pointer (some ⟨q, 0, none⟩), .func (.func f) fa ca] w (WriteP p nm A0 E M FI FE w (wfp fd q tv ++ ff) A (3 * S.length + 8) (outL how S)) := by
  obtain ⟨T, hT⟩ : ∃ T, T = outL how S := ⟨_, rfl⟩
  have W0 : WrSt FI p q nm w (wfp fd q tv ++ ff) w fd ff tv A (textB []) S := ⟨hwk, hff, hdis, Kept.refl _ _, Newly.refl _ _⟩
  have FC := hide (IF.call hwk.disk hff (fun y hy e => hdis y hy (wfp_mem.2 (.inl e))) hext rfl (by omega))
  have ent := IF.ent
  have HM9 : Hid (∀ F G, ∀ x ∈ (nm.data.toList, F, G) :: E, M x.1) := fun F G x hx => by
    rcases List.mem_cons.1 hx with rfl | hx
    · exact hMn
    · exact hM x hx
  obtain ⟨c0, hc0⟩ : ∃ c : Int, c = A.2.ops + 3 * S.length + 4 := ⟨_, rfl⟩
  have HW0 := hide (And.intro W0 (And.intro hext (And.intro hT (And.intro hops hc0))))
  have HIF := hide IF
  have HNM := hide hnm
  rw [← hT]
  obtain ⟨fp0, hfp0⟩ : ∃ fp, fp = wfp fd q tv ++ ff := ⟨_, rfl⟩
  rw [← hfp0] at HW0 ⊢
  have HFP := hide hfp0
  clear IF hwk hff hdis hext hMn hM W0 hT hc0 hops hfp0 hnm
  go_enter Tryz.func55, Tryz.ntmps55
  go_wp2_with fail
  refine FC.out.mono ?_
  rintro e w1 ⟨B1, fd1, y, b, e1, rfl, d1, k1, n1, r1, ff1, x1, n2, CS⟩
  obtain ⟨y1, y2⟩ := y
  rw [show valR (y1, y2) = .agg #[.int .u64 y1, .int .u64 y2] from rfl]
  rcases CS with ⟨up, rfl, S1, hi, hS⟩ | ⟨dn, rfl, fe1⟩
  · obtain ⟨W0, hext, hT, hops, hc0⟩ := HW0.out
    obtain ⟨W1, nn1, sub1⟩ := W0.fed d1 k1 n1 hi x1 n2
    have E1 := (r1.up up).2 _ _ hext
    have W2 := W1.below HIF.out ((Below.refl _ w1).alloc (Nat.le_refl _) (.cells #[.int .u64 y1, .int .u64 y2] 52))
    have bx := BxR.fresh (w0 := w) (w := w1) W1.kept.size (W1.lt HIF.out) y1 y2
    have r1o := r1.ops
    have L0 : Hid (∃ k, WrLoop p q how A0 E nm FI w fp0 A.2.ops c0 T k b w1.heap.size (w1.alloc (.cells #[.int .u64 y1, .int .u64 y2] 52))) := by
      rcases hS with ⟨rfl, rfl⟩ | ⟨rfl, rfl, rfl⟩
      · refine ⟨S1.length + 1, B1, fd1, ff1, tv, [], [], (y1, y2), S1, W2, bx, E1, by simp, by omega, ?_, .inl ⟨rfl, HIF.out.ok W0.feed (y1, y2) (by simp), ?_, rfl⟩⟩
        · simp only [List.length_cons] at hc0; omega
        · rw [hT]; rfl
      · refine ⟨0, B1, fd1, ff1, tv, [], [], (y1, y2), [], W2, bx, E1, by simp, by omega, ?_, .inr ⟨rfl, rfl, ?_, rfl⟩⟩
        · simp only [List.length_nil] at hc0; omega
        · rw [hT]; rfl
    obtain ⟨gk0, L0'⟩ := L0.out
    have HL0 := hide L0'
    have HOC : Hid (c0 ≤ A.2.ops + 3 * S.length + 4 ∧ A.2.ops + 3 * S.length + 20 ≤ 999990) := ⟨by omega, hops⟩
    clear W0 hext hT hops hc0 W1 nn1 sub1 E1 W2 bx r1o L0 L0' d1 k1 n1 hi x1 n2 r1 hS up HW0 FC
    go_wp2
    obtain ⟨lb, hlb⟩ : ∃ lb, lb = w1.heap.size := ⟨_, rfl⟩
    rw [← hlb] at HL0 ⊢
    clear hlb
    go_loopg [8] (gk0) (fun k v wr => ∃ is : Bool, v = .bool is ∧ Hid (WrLoop p q how A0 E nm FI w fp0 A.2.ops c0 T k is lb wr))
    case atStart => exact ⟨b, rfl, HL0.out⟩
    case round =>
      obtain ⟨is, rfl, HL⟩ := hrel
      clear HL0
      obtain ⟨A2, fd2, ff2, tv2, F2, ts2, x2, S2, W2, bx2, E2, hts2, ho1, ho2, CS2⟩ := HL.out
      cases is with
      | false =>
        have hcs : S2 = [] ∧ F2 ++ fileB ts2 = fileB T ∧ gk = 0 := by
          rcases CS2 with ⟨h, _⟩ | ⟨_, h1, h2, h3⟩
          · cases h
          · exact ⟨h1, h2, h3⟩
        obtain ⟨rfl, hF2, rfl⟩ := hcs
        obtain ⟨⟨k3, B3⟩, hB3⟩ : ∃ z, closeW A2 nm.data.toList (textB ts2) = z := ⟨_, rfl⟩
        have hts3 : (textB ts2).length ≤ 1000 := by rw [textB_length]; omega
        have CL := hide (close_any ⟨fd2, tv2, W2.wk, rfl⟩ hts3 (by have := HOC.out; omega) HNM.out hB3)
        have EC := E2.close W2.wk.disk.ok W2.wk.disk.sorted (HM9.out F2 []) hts2 hB3
        rw [hF2] at EC
        have HW2 := hide (And.intro W2 (And.intro E2 (And.intro ho1 (And.intro ho2 EC))))
        clear W2 bx2 E2 ho1 ho2 CS2 EC HL hF2
        go_wp2_with fail
        refine CL.out.mono ?_
        rintro e w3 ⟨rfl, o3⟩
        go_wp2
        go_ret
        obtain ⟨W2, E2, ho1, ho2, q1, q2, q3⟩ := HW2.out
        obtain ⟨fd3, D3, I3, dis3, K3, N3⟩ := W2.shut HIF.out o3
        refine ⟨B3, k3, fd3, ff2, rfl, D3, dis3, K3, N3, by omega, by have := HOC.out; omega, ?_⟩
        rcases q3 with ⟨z1, z2⟩ | ⟨z1, z2, z3⟩ | ⟨z1, z2⟩
        · exact .inl ⟨z1, I3, z2⟩
        · exact .inr (.inl ⟨z1, HIF.out.fe I3, ⟨F2, z2⟩, z3⟩)
        · exact .inr (.inr ⟨z1, HIF.out.fe I3, z2⟩)
      | true =>
        have hcs : okR x2 ∧ F2 ++ fileB (ts2 ++ wrL how x2 S2) = fileB T ∧ gk = S2.length + 1 := by
          rcases CS2 with ⟨_, h1, h2, h3⟩ | ⟨h, _⟩
          · exact ⟨h1, h2, h3⟩
          · cases h
        obtain ⟨okx, hF2, hgk⟩ := hcs
        have FC2 := hide (HIF.out.call W2.wk.disk W2.feed (fun y hy e => W2.dis y hy (wfp_mem.2 (.inl e))) E2 rfl (by have := HOC.out; omega))
        have HW2 := hide (And.intro W2 (And.intro bx2 (And.intro E2 (And.intro ho1 (And.intro ho2 (And.intro okx (And.intro hF2 hgk)))))))
        have HTS := hide hts2
        clear W2 bx2 E2 ho1 ho2 CS2 HL okx hF2 hgk hts2
        go_wp2_with fail
        refine FC2.out.mono ?_
        rintro e w2 ⟨B3, fd3, y, b3, e3, rfl, d3, k3, n3, r3, ff3, x3, m3, CS⟩
        obtain ⟨y1, y2⟩ := y
        obtain ⟨x1, xv⟩ := x2
        rw [show valR (y1, y2) = .agg #[.int .u64 y1, .int .u64 y2] from rfl]
        rcases CS with ⟨up, rfl, S3, hi, hS⟩ | ⟨dn, rfl, fe3⟩
        · obtain ⟨W2, bx2, E2, ho1, ho2, okx, hF2, hgk⟩ := HW2.out
          obtain ⟨W3, nn3, sub3⟩ := W2.fed d3 k3 n3 hi x3 m3
          have bx3 := bx2.kept k3 (fun z hz => .inl (sub3 z hz)) nn3
          have E3 := (r3.up up).2 _ _ E2
          obtain ⟨w3, hw3⟩ : ∃ w3, w3 = w2.alloc (.cells #[.int .u64 y1, .int .u64 y2] 52) := ⟨_, rfl⟩
          have bb : Below w2.heap.size w2 w3 := by rw [hw3]; exact (Below.refl _ w2).alloc (Nat.le_refl _) _
          have W4 := W3.below HIF.out bb
          have bx4 := bx3.kept (Kept.of_below (fp := []) bb) (by simp) (Newly.refl _ _)
          have by4 : BxR w w3 (wfp fd3 q tv2 ++ ff3) w2.heap.size (y1, y2) := by rw [hw3]; exact BxR.fresh W3.kept.size (W3.lt HIF.out) y1 y2
          have hne : lb ≠ w2.heap.size := by have := heap_lt bx3.box; omega
          have hhow := HIF.out.how W4.feed
          have oky : b3 = true → okR (y1, y2) := fun hb => by
            rcases hS with ⟨h1, _⟩ | ⟨_, _, h1⟩
            · exact HIF.out.ok W2.feed _ (by rw [h1]; simp)
            · rw [h1] at hb; cases hb
          have r3o := r3.ops
          obtain ⟨l0, l1, lf⟩ := bx4.cells
          obtain ⟨g0, g1, gf⟩ := by4.cells
          dsimp only at l0 l1 g0 g1
          by_cases hcomb : b3 = true ∧ y1 = x1 ∧ how ≠ 0
          · obtain ⟨rfl, rfl, hh⟩ := hcomb
            have hS' : S2 = (y1, y2) :: S3 := by
              rcases hS with ⟨h1, _⟩ | ⟨_, _, h1⟩
              · exact h1
              · cases h1
            have CB := hide (fun W => combine_any how xv y2 okx.2 (oky rfl).2 W)
            have hhb : (how == 0) = false := by simpa using hh
            have HOKV := hide (combV_ok how xv y2 okx.2 (oky rfl).2)
            have HW4 := hide (And.intro W4 (And.intro bx4 (And.intro E3 (And.intro ho1 (And.intro ho2 (And.intro okx (And.intro hF2 (And.intro hgk (And.intro hS' r3o)))))))))
            have h9 : w3.drew.cell? ⟨sp, 4, none⟩ = some (.int .i64 how) := hhow
            have l9 : w3.drew.cell? ⟨lb, 1, none⟩ = some (.int .u64 xv) := l1
            have g9 : w3.drew.cell? ⟨w2.heap.size, 1, none⟩ = some (.int .u64 y2) := g1
            have lf9 : w3.drew.frozen? ⟨lb, 1, none⟩ = false := lf 1
            rw [hw3] at l0 l1 lf g0 g1 gf hhow
            clear W2 bx2 E2 ho1 ho2 okx hF2 hgk W3 nn3 sub3 bx3 E3 bb W4 bx4 by4 oky r3o d3 k3 n3 hi x3 m3 r3 hS up HW2 hS'
            go_wp2
            rw [← hw3]
            clear hw3
            go_region_law (go_simp; go_at_call 79; refine (CB.out _).mono ?_; rintro e w9 ⟨rfl, rfl⟩)
            all_goals
              go_wp2
              go_roundg (gk - 1)
              case measure => have := HW4.out.2.2.2.2.2.2.2.1; omega
              case rel =>
                obtain ⟨W4, bx4, E3, ho1, ho2, okx, hF2, hgk, hS', r3o⟩ := HW4.out
                have kl : Kept [lb] w3 (w3.setCell ⟨lb, 1, none⟩ (.int .u64 (combV how xv y2))).drew := ((Kept.refl _ w3).setCell (.inl (by simp)) _).drew
                have W5 := W4.stay HIF.out kl (fun z hz => by simp only [List.mem_singleton] at hz; subst hz; exact bx4.out) (fun z hz => by simp only [List.mem_singleton] at hz; subst hz; exact bx4.new)
                have bx5 : BxR w (w3.setCell ⟨lb, 1, none⟩ (.int .u64 (combV how xv y2))).drew (wfp fd3 q tv2 ++ ff3) lb (y1, combV how xv y2) := ⟨by have h := heap_setCell bx4.box 1 (.int .u64 (combV how xv y2)); simp at h; exact h, bx4.new, bx4.out⟩
                refine ⟨true, rfl, B3, fd3, ff3, tv2, F2, ts2, (y1, combV how xv y2), S3, W5, ?_, E3, HTS.out, by omega, ?_, .inl ⟨rfl, ⟨okx.1, HOKV.out⟩, ?_, ?_⟩⟩
                · exact bx5
                · have := congrArg List.length hS'
                  simp only [List.length_cons] at this
                  omega
                · rw [hS', wrL, if_pos ⟨rfl, hh⟩] at hF2
                  exact hF2
                · rw [hgk, hS']; rfl
          · have hrest : ∃ rest, F2 ++ fileB (ts2 ++ (x1, xv) :: rest) = fileB T ∧ ((b3 = true ∧ rest = wrL how (y1, y2) S3 ∧ S2.length = S3.length + 1) ∨ (b3 = false ∧ rest = [] ∧ S3 = [] ∧ S2.length = 0)) := by
              rcases hS with ⟨h1, h2⟩ | ⟨h1, h2, h3⟩
              · refine ⟨wrL how (y1, y2) S3, ?_, .inl ⟨h2, rfl, by rw [h1]; rfl⟩⟩
                rw [h1, wrL, if_neg (fun e => hcomb ⟨h2, e⟩)] at hF2
                exact hF2
              · refine ⟨[], ?_, .inr ⟨h3, rfl, h2, by rw [h1]; rfl⟩⟩
                rw [h1, wrL] at hF2
                exact hF2
            obtain ⟨rest, hF3, hrs⟩ := hrest
            obtain ⟨⟨k5, B5, t5⟩, hB5⟩ : ∃ z, putW B3 nm.data.toList (textB ts2) (x1, xv) = z := ⟨_, rfl⟩
            have PT := hide (put_step ⟨fd3, tv2, W4.wk, rfl⟩ HNM.out (by have := HOC.out; omega) (x1, xv) okx (by rw [textB_length]; have := HTS.out; omega) hB5)
            have EP := E3.put W4.wk.disk.ok (HM9.out F2 []) HTS.out (x1, xv) hB5
            have hvx : valR (x1, xv) = .agg #[.int .u64 x1, .int .u64 xv] := rfl
            rw [hvx] at PT
            have HW4 := hide (And.intro W4 (And.intro bx4 (And.intro by4 (And.intro E3 (And.intro ho1 (And.intro ho2 (And.intro hF3 (And.intro hrs (And.intro hgk (And.intro r3o (And.intro EP oky)))))))))))
            have hcc : b3 = false ∨ (b3 = true ∧ ¬ y1 = x1) ∨ (b3 = true ∧ y1 = x1 ∧ how = 0) := by
              cases b3 with
              | false => exact .inl rfl
              | true =>
                by_cases e1 : y1 = x1
                · by_cases e2 : how = 0
                  · exact .inr (.inr ⟨rfl, e1, e2⟩)
                  · exact absurd ⟨rfl, e1, e2⟩ hcomb
                · exact .inr (.inl ⟨rfl, e1⟩)
            clear W2 bx2 E2 ho1 ho2 okx hF2 hgk W3 nn3 sub3 bx3 E3 bb W4 bx4 by4 oky r3o d3 k3 n3 hi x3 m3 r3 hS up HW2 hF3 hrs EP hB5 hcomb
            subst hw3
            rcases hcc with rfl | ⟨rfl, hy⟩ | ⟨rfl, rfl, rfl⟩
            all_goals go_wp2_with fail
            all_goals
              refine PT.out.mono ?_
              rintro e w5 ⟨rfl, o1, o2⟩
              obtain ⟨W4, bx4, by4, E3, ho1, ho2, hF3, hrs, hgk, r3o, ⟨q1, q2, q3⟩, oky⟩ := HW4.out
              clear HW4 PT l0 l1 lf g0 g1 gf hhow
              rcases q3 with ⟨rfl, F5, ts5, E5, rfl, hts5, hF5⟩ | ⟨rfl, E5, hroom⟩ | ⟨rfl, C5⟩
              · obtain ⟨fd5, tv5, W5, nn5, k5'⟩ := W4.wrote HIF.out (o1 rfl)
                have bx5 := bx4.kept k5' (fun z hz => .inl (List.mem_append.2 (.inl hz))) nn5
                have by5 := by4.kept k5' (fun z hz => .inl (List.mem_append.2 (.inl hz))) nn5
                obtain ⟨l0, l1, lf⟩ := bx5.cells
                obtain ⟨g0, g1, gf⟩ := by5.cells
                dsimp only at l0 l1 g0 g1
                have HW5 := hide (And.intro W5 (And.intro bx5 (And.intro E5 (And.intro hts5 (And.intro hF5 (And.intro ho1 (And.intro ho2 (And.intro hF3 (And.intro hrs (And.intro hgk (And.intro r3o (And.intro q1 (And.intro q2 oky)))))))))))))
                clear W4 bx4 by4 E3 ho1 ho2 hF3 hrs hgk r3o q1 q2 oky o1 o2 W5 nn5 k5' bx5 by5 E5 hts5 hF5
                go_wp2
                go_roundg (gk - 1)
                case measure => have := HW5.out.2.2.2.2.2.2.2.2.2.1; omega
                case rel =>
                  obtain ⟨W5, bx5, E5, hts5, hF5, ho1, ho2, hF3, hrs, hgk, r3o, q1, q2, oky⟩ := HW5.out
                  have kl : Kept [lb] w5 ((w5.setCell ⟨lb, 0, none⟩ (.int .u64 y1)).setCell ⟨lb, 1, none⟩ (.int .u64 y2)) := ((Kept.refl _ w5).setCell (.inl (by simp)) _).setCell (.inl (by simp)) _
                  have W6 := W5.stay HIF.out kl (fun z hz => by simp only [List.mem_singleton] at hz; subst hz; exact bx5.out) (fun z hz => by simp only [List.mem_singleton] at hz; subst hz; exact bx5.new)
                  have bx6 : BxR w ((w5.setCell ⟨lb, 0, none⟩ (.int .u64 y1)).setCell ⟨lb, 1, none⟩ (.int .u64 y2)) (wfp fd5 q tv5 ++ ff3) lb (y1, y2) := ⟨by have h := heap_setCell (heap_setCell bx5.box 0 (.int .u64 y1)) 1 (.int .u64 y2); simp at h; exact h, bx5.new, bx5.out⟩
                  rw [← hF5] at hF3
                  rcases hrs with ⟨hb, hr, hl⟩ | ⟨hb, hr, hs3, hl⟩
                  · first
                    | (cases hb; done)
                    | exact ⟨true, rfl, B5, fd5, ff3, tv5, F5, ts5, (y1, y2), S3, W6, bx6, E5, hts5, by omega, by omega, .inl ⟨rfl, oky (by simp), by rw [← hr]; exact hF3, by omega⟩⟩
                  · first
                    | (cases hb; done)
                    | exact ⟨false, rfl, B5, fd5, ff3, tv5, F5, ts5, (y1, y2), S3, W6, bx6, E5, hts5, by omega, by omega, .inr ⟨rfl, hs3, by rw [hr, List.append_nil] at hF3; exact hF3, by omega⟩⟩
              · have hb := HOC.out
                obtain ⟨fd5, D5, I5, x5, K5, N5⟩ := W4.shut HIF.out (o2 (by simp))
                have HF := hide (And.intro D5 (And.intro I5 (And.intro x5 (And.intro K5 (And.intro N5 (And.intro E5 (And.intro hroom (And.intro hF3 (And.intro q1 (And.intro q2 (And.intro ho1 (And.intro ho2 (And.intro hgk (And.intro r3o hb))))))))))))))
                clear W4 bx4 by4 E3 ho1 ho2 hF3 hrs hgk r3o q1 q2 oky o1 o2 D5 I5 x5 K5 N5 E5 hroom hb
                go_wp2
                go_ret
                obtain ⟨D5, I5, x5, K5, N5, E5, hroom, hF3, q1, q2, ho1, ho2, hgk, r3o, hb⟩ := HF.out
                have := fileB_front _ _ _ _ hF3
                exact ⟨B5, 6, fd5, ff3, rfl, D5, x5, K5, N5, by omega, by omega, .inr (.inl ⟨rfl, HIF.out.fe I5, ⟨F2, E5⟩, by omega⟩)⟩
              · have hb := HOC.out
                obtain ⟨fd5, D5, I5, x5, K5, N5⟩ := W4.shut HIF.out (o2 (by simp))
                have HF := hide (And.intro D5 (And.intro I5 (And.intro x5 (And.intro K5 (And.intro N5 (And.intro C5 (And.intro hF3 (And.intro q1 (And.intro q2 (And.intro ho1 (And.intro ho2 (And.intro hgk (And.intro r3o hb)))))))))))))
                clear W4 bx4 by4 E3 ho1 ho2 hF3 hrs hgk r3o q1 q2 oky o1 o2 D5 I5 x5 K5 N5 C5 hb
                go_wp2
                go_ret
                obtain ⟨D5, I5, x5, K5, N5, C5, hF3, q1, q2, ho1, ho2, hgk, r3o, hb⟩ := HF.out
                have := sec_prefix _ _ hF3
                exact ⟨B5, 7, fd5, ff3, rfl, D5, x5, K5, N5, by omega, by omega, .inr (.inr ⟨rfl, HIF.out.fe I5, C5.mono (fun _ h => h) (by omega)⟩)⟩
        · have HF := hide (And.intro dn (And.intro d3 (And.intro k3 (And.intro n3 (And.intro r3 (And.intro x3 (And.intro m3 fe3)))))))
          clear d3 k3 n3 r3 x3 m3 fe3 dn FC2
          go_wp2
          go_ret
          obtain ⟨dn, d3, k3, n3, r3, x3, m3, fe3⟩ := HF.out
          obtain ⟨W2, bx2, E2, ho1, ho2, okx, hF2, hgk⟩ := HW2.out
          have CR := r3.down dn _ _ _ E2 (HM9.out F2 [])
          have sub : ∀ z ∈ fd2 ++ ff2, z ∈ wfp fd2 q tv2 ++ ff2 := fun z hz => by
            rcases List.mem_append.1 hz with hz | hz
            · exact List.mem_append.2 (.inl (wfp_mem.2 (.inl hz)))
            · exact List.mem_append.2 (.inr hz)
          have nw : Newly w fp0 (fd2 ++ ff2) := fun z hz => W2.new z (sub z hz)
          have bb : Below w2.heap.size w2 (w2.alloc (.cells #[.int .u64 y1, .int .u64 y2] 52)) := (Below.refl _ w2).alloc (Nat.le_refl _) _
          have hs := sec_prefix _ _ hF2
          rw [usedB_cons] at CR
          have hb := HOC.out
          have r3o := r3.ops
          refine ⟨B3, 7, fd3, ff3, rfl, d3.below bb, x3, (W2.kept.trans k3 nw).alloc _, fun z hz => ?_, by omega, by omega, .inr (.inr ⟨rfl, HIF.out.feb fe3 bb, CR.mono (fun _ h => h) (by dsimp only; omega)⟩)⟩
          have : z ∈ fp0 ∨ w.heap.size ≤ z := by
            rcases List.mem_append.1 hz with hz | hz
            · rcases n3 z hz with e | e
              · exact nw z e
              · exact .inr (Nat.le_trans W2.kept.size e)
            · rcases m3 z hz with e | e
              · exact nw z e
              · exact .inr (Nat.le_trans W2.kept.size e)
          exact this
  · obtain ⟨W0, hext, hT, hops, hc0⟩ := HW0.out
    have CR := r1.down dn _ _ _ hext (HM9.out [] [])
    have sub : ∀ z ∈ fd ++ ff, z ∈ fp0 := fun z hz => by
      rw [HFP.out]
      rcases List.mem_append.1 hz with hz | hz
      · exact List.mem_append.2 (.inl (wfp_mem.2 (.inl hz)))
      · exact List.mem_append.2 (.inr hz)
    have r1o := r1.ops
    have bb : Below w1.heap.size w1 (w1.alloc (.cells #[.int .u64 y1, .int .u64 y2] 52)) := (Below.refl _ w1).alloc (Nat.le_refl _) _
    have nw : Newly w fp0 (fd ++ ff) := fun z hz => .inl (sub z hz)
    have FEB := HIF.out.feb fe1 bb
    have D9 := d1.below bb
    have K9 : Kept fp0 w (w1.alloc (.cells #[.int .u64 y1, .int .u64 y2] 52)) := (k1.mono sub).alloc _
    have N9 : Newly w fp0 (fd1 ++ ff1) := fun z hz => by
      rcases List.mem_append.1 hz with hz | hz
      · exact (n1 z hz).imp (sub z) id
      · exact (n2 z hz).imp (sub z) id
    have HF := hide (And.intro D9 (And.intro x1 (And.intro K9 (And.intro N9 (And.intro FEB (And.intro CR r1o))))))
    clear W0 hext hT hops hc0 CR sub r1o bb nw FEB D9 K9 N9 d1 k1 n1 r1 x1 n2 fe1 dn
    go_wp2
    go_ret
    obtain ⟨D9, x1, K9, N9, FEB, CR, r1o⟩ := HF.out
    rw [usedB_cons] at CR
    have h0 := sec_nonneg (fileB T).length
    exact ⟨B1, 7, fd1, ff1, rfl, D9, x1, K9, N9, by omega, by omega, .inr (.inr ⟨rfl, FEB, CR.mono (fun _ h => h) (by dsimp only; have : sec ([] : List Int).length = 0 := rfl; omega)⟩)⟩
end

end Go.Proofs.YtgpbanjammipiaaGreatDoor
