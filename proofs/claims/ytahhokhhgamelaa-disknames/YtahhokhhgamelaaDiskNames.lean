/-
  Proved: for all bytes, twice, DiskNames returns true and leaves them as they were (a file that is renamed has its bytes, also those that were not synced; what had the name is gone). No condition.
-/
import Derived.Test.YtahhokhhgamelaaDTexts
import Derived.WalkKit
import Derived.ProofKit
import Derived.OpenShut
import Derived.ShutString
import Derived.ChangeOld
import Derived.Below
namespace Go.Proofs.Ytahhokhhgamelaa.diskNames
open Go.ChangeShapes Go.WideShapes Go.ChangeAt Go.RowKit
open Go.ChangeMaps (open_string shut_string)
set_option linter.unusedVariables false

theorem own : ownKnob Try.prog.godebug = none := by kernel_rfl
theorem laidOut : laidOutB Try.prog = true := by kernel_rfl

/-- WHAT THE WALK IS TOLD OF A SLICE OF INTEGERS THAT CAME IN: it is nil; or it leads to a row of 'cap' cells, the numbers 'zs' (the first 'len' are its elements, the rest its spare room), each fitting its kind. -/
def IsRow (k : IntKind) (w : World) (a : Option Addr) (len cap : Nat) (zs : List Int) : Prop :=
  (a = none ∧ len = 0 ∧ cap = 0 ∧ zs = []) ∨
  ∃ x, a = some x ∧ len ≤ cap ∧ cap ≤ maxLen ∧ zs.length = cap ∧ (∀ i, i < zs.length → w.cell? (x.add i) = some (.int k (zs.getD i 0))) ∧ ∀ n ∈ zs, (Lit.int k n).wf = true

theorem isB_of {w : World} {a : Option Addr} {len cap : Nat} {zs : List Int} (h : IsRow .u8 w a len cap zs) : IsB w (.slice a len cap) (zs.take len) ∧ (zs.take len).length = len ∧ len ≤ cap := by
  rcases h with ⟨rfl, rfl, rfl, rfl⟩ | ⟨x, rfl, hl, hm, hz, hc, hw⟩
  · exact ⟨IsB.nil w, rfl, Nat.le_refl _⟩
  · have e : (zs.take len).length = len := by simp; omega
    refine ⟨⟨_, cap, by rw [e], by omega, by simp, fun y hy j hj => ?_, fun z hz => ?_⟩, e, hl⟩
    · simp only [Option.some.injEq] at hy
      subst hy
      rw [hc j (by omega), List.getElem?_take_of_lt (by omega)]
      rfl
    · have := hw z (List.mem_of_mem_take hz)
      exact bounds_u8 this

/-- What is left of a slice that is cut to at most m bytes. -/
theorem cut_to {w : World} {a : Option Addr} {len cap : Nat} {zs : List Int} (h : IsRow .u8 w a len cap zs) (m : Nat) (hm : m ≤ len) : ∃ bs, IsB w (.slice a m cap) bs ∧ bs.length = m := by
  obtain ⟨h1, h2, h3⟩ := isB_of h
  exact ⟨_, h1.take m hm, by simp only [List.length_take, h2]; omega⟩

/-- The same, the length named: as the walk reckons it. -/
theorem cut_min {w : World} {a : Option Addr} {len cap : Nat} {zs : List Int} (h : IsRow .u8 w a len cap zs) (k : Nat) (K : Int) (hK : K = (k : Int)) :
    ∃ (m : Nat) (bs : List Int), (∀ (ts : Array TypeId) (t : TypeId) (w : World), (Builtin.min_ ts t #[.int .i64 (len : Int), .int .i64 K]).run Try.prog w = .ok (.int .i64 (m : Int)) w) ∧ IsB w (.slice a m cap) bs ∧ bs.length = m ∧ m ≤ len ∧ m ≤ k ∧ m ≤ cap := by
  obtain ⟨h1, h2, h3⟩ := isB_of h
  refine ⟨min len k, _, fun ts t w => ?_, h1.take (min len k) (by omega), by simp only [List.length_take, h2]; omega, by omega, by omega, by omega⟩
  rw [run_min_int2, hK]
  congr 2
  split <;> omega

def St (used ops : Int) (down : Bool) : Ds := { room := 100, used := used, ops := ops, down := down, left := 0, keep := [] }
theorem St_begin (l : List Ab) (u k : Int) (d : Bool) : beginA l (St u k d) = (l, St u (k + 1) d) := rfl
theorem more0 (bs : List Int) : moreA [] 0 bs = sec bs.length := by simp [moreA, sec]
theorem sec60 {n : Nat} (h : n ≤ 60) : 0 ≤ sec n ∧ sec n ≤ 4 := by unfold sec; omega
theorem t1 : createA (beginA [] (St 0 0 false)) [120] = (0, ([([120], [], [])], St 0 1 false)) := by kernel_rfl
theorem t2 : createA (beginA [([120], [], [])] (St 0 1 false)) [121] = (0, ([([120], [], []), ([121], [], [])], St 0 2 false)) := by kernel_rfl
theorem t3 (xs : List Int) (h : xs.length ≤ 60) : appendA (beginA [([120], [], []), ([121], [], [])] (St 0 2 false)) [120] xs = (0, ([([120], xs, []), ([121], [], [])], St (sec xs.length) 3 false)) := by
  show writeA [([120], [], []), ([121], [], [])] (St 0 3 false) ([120], [], []) 0 xs = _
  have h1 := sec60 h
  unfold writeA
  rw [if_neg (by simp), if_neg (by simp only [St]; show ¬ 100 - 0 < moreA [] 0 xs; rw [more0]; omega)]
  show ((0 : Int), (setA [([120], [], []), ([121], [], [])] ([120], putA [] 0 xs, []), { St 0 3 false with used := 0 + moreA [] 0 xs })) = _
  rw [more0]
  simp [setA, putA, St]
theorem t4 (xs cs : List Int) (u : Int) (hu : 0 ≤ u ∧ u ≤ 4) (h : cs.length ≤ 60) : appendA (beginA [([120], xs, []), ([121], [], [])] (St u 3 false)) [121] cs = (0, ([([120], xs, []), ([121], cs, [])], St (u + sec cs.length) 4 false)) := by
  show writeA [([120], xs, []), ([121], [], [])] (St u 4 false) ([121], [], []) 0 cs = _
  have h1 := sec60 h
  unfold writeA
  rw [if_neg (by simp), if_neg (by simp only [St]; show ¬ 100 - u < moreA [] 0 cs; rw [more0]; omega)]
  show ((0 : Int), (setA [([120], xs, []), ([121], [], [])] ([121], putA [] 0 cs, []), { St u 4 false with used := u + moreA [] 0 cs })) = _
  rw [more0]
  simp [setA, putA, St]
theorem t5 (xs cs : List Int) : setA [([120], xs, []), ([121], cs, [])] ([120], xs, xs) = [([120], xs, xs), ([121], cs, [])] := by simp [setA]
theorem t6 (xs cs : List Int) (u : Int) : renameA ([([120], xs, xs), ([121], cs, [])], St u 6 false) ([120], xs, xs) ([121], cs, []) = ([([121], xs, xs)], St (u - sec cs.length) 6 false) := by
  simp [renameA, delA, insA, St]
theorem tear_same (T : List Int) (k j : Nat) (hj : 16 * j < T.length + 16) : tearTo [] T T k j = (T, k) := by
  induction j with
  | zero => rfl
  | succ j ih =>
    unfold tearTo
    rw [if_pos (by simp [sameB]; omega)]
    exact ih (by omega)
theorem t10 (xs : List Int) (k : Int) : crashA [] [([121], xs, xs)] (St (sec xs.length) k false) = ([([121], xs, xs)], St (sec xs.length) k true) := by
  unfold crashA
  rw [if_neg (by simp [St])]
  have e : tearB [] xs xs 0 = (xs, 0) := tear_same xs 0 _ (by omega)
  simp [torn, usedB, St, e]

section
variable {B : Nat} {w0 w w1 : World} {fp : List Nat} {p : Nat} {l l' : List Ab} {s s' : Ds} {A C : List Ab × Ds} {f : Nat} {args : Array Value} {r : Ending} {xs cs : List Int} {u : Int}
theorem sd_of (h : Sd B w0 w p l s) (k : ∀ fp, Dk w fp p l s → Calls Try.prog f args w fun e w' => e = r ∧ Outc w w' fp p (l', s')) : Calls Try.prog f args w fun e w' => e = r ∧ Sd B w0 w' p l' s' := by
  obtain ⟨fp, d, b, ff, hB⟩ := h
  refine (k fp d).mono ?_
  rintro e w' ⟨rfl, o⟩
  exact ⟨rfl, o.sd b ff hB⟩
theorem outc_run (h : Outc w1 w fp p A) (k : ∀ fp1, Dk w fp1 p A.1 A.2 → Calls Try.prog f args w fun e w3 => e = r ∧ Outc w w3 fp1 p C) : Calls Try.prog f args w fun e w3 => e = r ∧ Outc w1 w3 fp p C := by
  obtain ⟨fp1, d, k1, n1⟩ := h
  refine (k fp1 d).mono ?_
  rintro e w3 ⟨rfl, fp2, d2, k2, n2⟩
  exact ⟨rfl, fp2, d2, k1.trans k2 n1, n1.trans n2 k1.size⟩
theorem c1 (h : Sd B w0 w p [] (St 0 0 false)) : Calls Try.prog 16 #[.pointer (some ⟨p, 0, none⟩), .string ⟨#[120]⟩] w fun e w' => e = .returned (.int .i64 0) ∧ Sd B w0 w' p [([120], [], [])] (St 0 1 false) := h.create (by decide) ⟨#[120]⟩ (str1 120) t1
theorem c2 (h : Sd B w0 w p [([120], [], [])] (St 0 1 false)) : Calls Try.prog 16 #[.pointer (some ⟨p, 0, none⟩), .string ⟨#[121]⟩] w fun e w' => e = .returned (.int .i64 0) ∧ Sd B w0 w' p [([120], [], []), ([121], [], [])] (St 0 2 false) := h.create (by decide) ⟨#[121]⟩ (str1 121) t2
theorem c3 (h : Sd B w0 w p [([120], [], []), ([121], [], [])] (St 0 2 false)) (v : Value) (hv : IsB w v xs) (hl : xs.length ≤ 60) (hx : xs ≠ [] → ∀ x ∈ Go.Proofs.Ytahhokhhgamelaa.own v, x < B) : Calls Try.prog 18 #[.pointer (some ⟨p, 0, none⟩), .string ⟨#[120]⟩, v] w fun e w' => e = .returned (.int .i64 0) ∧ Sd B w0 w' p [([120], xs, []), ([121], [], [])] (St (sec xs.length) 3 false) :=
  h.append (by decide) ⟨#[120]⟩ (str1 120) v xs hv (by omega) hx (t3 xs hl)
theorem c4 (h : Sd B w0 w p [([120], xs, []), ([121], [], [])] (St (sec xs.length) 3 false)) (ha : xs.length ≤ 60) (v : Value) (hv : IsB w v cs) (hl : cs.length ≤ 60) (hx : cs ≠ [] → ∀ x ∈ Go.Proofs.Ytahhokhhgamelaa.own v, x < B) : Calls Try.prog 18 #[.pointer (some ⟨p, 0, none⟩), .string ⟨#[121]⟩, v] w fun e w' => e = .returned (.int .i64 0) ∧ Sd B w0 w' p [([120], xs, []), ([121], cs, [])] (St (sec xs.length + sec cs.length) 4 false) :=
  h.append (by simp only [St]; omega) ⟨#[121]⟩ (str1 121) v cs hv (by omega) hx (t4 xs cs _ (sec60 ha) hl)
theorem c5 (h : Sd B w0 w p [([120], xs, []), ([121], cs, [])] (St u 4 false)) : Calls Try.prog 26 #[.pointer (some ⟨p, 0, none⟩), .string ⟨#[120]⟩] w fun e w' => e = .returned (.int .i64 0) ∧ Sd B w0 w' p [([120], xs, xs), ([121], cs, [])] (St u 5 false) :=
  sd_of h fun fp d => by
    have q := d.sync_ok (by simp only [St]; omega) ⟨#[120]⟩ (str1 120) (x := ([120], xs, [])) (by rfl) (by rfl)
    rw [St_begin, t5] at q
    exact q
theorem c6 (h : Sd B w0 w p [([120], xs, xs), ([121], cs, [])] (St (sec xs.length + sec cs.length) 5 false)) : Calls Try.prog 28 #[.pointer (some ⟨p, 0, none⟩), .string ⟨#[120]⟩, .string ⟨#[121]⟩] w fun e w' => e = .returned (.int .i64 0) ∧ Sd B w0 w' p [([121], xs, xs)] (St (sec xs.length) 6 false) :=
  sd_of h fun fp d => by
    have q := d.rename_over (by simp only [St]; omega) ⟨#[120]⟩ (str1 120) ⟨#[121]⟩ (str1 121) (by rfl) (x := ([120], xs, xs)) (y := ([121], cs, [])) (by rfl) (by rfl) (by decide) (by rfl)
    rw [St_begin, show (5 : Int) + 1 = 6 from rfl, t6] at q
    have e : sec xs.length + sec cs.length - sec cs.length = sec xs.length := by omega
    rw [e] at q
    exact q
theorem c7 (h : Sd B w0 w p [([121], xs, xs)] (St u 6 false)) : Calls Try.prog 24 #[.pointer (some ⟨p, 0, none⟩), .string ⟨#[120]⟩] w fun e w' => e = .returned (.tuple #[.int .i64 0, .int .i64 4]) ∧ Sd B w0 w' p [([121], xs, xs)] (St u 7 false) :=
  h.size (by simp only [St]; omega) ⟨#[120]⟩ (str1 120) (by rfl) (by rfl)
theorem c8 (h : Sd B w0 w p [([121], xs, xs)] (St u 7 false)) : Calls Try.prog 32 #[.pointer (some ⟨p, 0, none⟩)] w fun e w' => ∃ v, e = .returned (.tuple #[v, .int .i64 0]) ∧ IsS1 w' v ⟨#[121]⟩ ∧
    ∃ fp, Dk w' fp p [([121], xs, xs)] (St u 8 false) ∧ Below B w0 w' ∧ (∀ y ∈ fp, B ≤ y) ∧ B ≤ w'.heap.size ∧ ∀ y ∈ Go.Proofs.Ytahhokhhgamelaa.own v, y ∉ fp := by
  obtain ⟨fp, d, b, ff, hB⟩ := h
  refine (d.list (by simp only [St]; omega) (by rfl)).mono ?_
  rintro e w' ⟨v, rfl, r, fp', d', k', n', o'⟩
  refine ⟨v, rfl, ?_, fp', d', b.trans (k'.below hB ff), fun y hy => ?_, Nat.le_trans hB k'.size, o'⟩
  · have r2 : w'.ownsRow w.heap.size 9 1 v 1 [encStr [121]] := r
    rcases r2.2 with ⟨_, h0⟩ | ⟨g, cap, cur, rfl, _, hg, hn, _⟩
    · omega
    · refine ⟨g, 0, cap, rfl, hn, ?_⟩
      have e := World.ownsRow.cells r2 (g := g) rfl 0 (encStr [121]) rfl
      simpa [Addr.add, encStr] using e
  · rcases n' y hy with h1 | h1
    · exact ff y h1
    · omega
theorem c9 (h : Dk w fp p [([121], xs, xs)] (St u 8 false)) : Calls Try.prog 22 #[.pointer (some ⟨p, 0, none⟩), .string ⟨#[121]⟩, .int .i64 0, .int .i64 (xs.length : Int)] w fun e w' => ∃ x, e = .returned (.tuple #[x, .int .i64 0]) ∧ RowB w' x xs ∧
    Kept fp w w' ∧ ∃ fp', Outc w' w' fp' p ([([121], xs, xs)], St u 9 false) ∧ Newly w fp fp' ∧ ∀ y ∈ Go.Proofs.Ytahhokhhgamelaa.own x, y ∉ fp' := by
  refine (h.read (by simp only [St]; omega) ⟨#[121]⟩ (str1 121) (x := ([121], xs, xs)) (by rfl) (by rfl) 0 xs.length (by simp)).mono ?_
  rintro e w' ⟨x, rfl, r, fp', d', k', n', o'⟩
  exact ⟨x, rfl, by simpa using r, k', fp', ⟨fp', d', Kept.refl _ _, Newly.refl _ _⟩, n', fun y hy => (o' y hy).2⟩
theorem c10 (h : Outc w1 w fp p ([([121], xs, xs)], St (sec xs.length) 9 false)) : Calls Try.prog 35 #[.pointer (some ⟨p, 0, none⟩), .slice none 0 0] w fun e w' => e = .returned (.tuple #[]) ∧ Outc w1 w' fp p ([([121], xs, xs)], St (sec xs.length) 9 true) :=
  outc_run h fun fp1 d => by
    have q := d.crash (by simp only [St]; omega) (.slice none 0 0) [] (IsK.nil _) (fun h => absurd rfl h) (Nat.zero_le _)
    rw [t10] at q
    exact q
theorem c11 (h : Outc w1 w fp p ([([121], xs, xs)], St u 9 true)) : Calls Try.prog 37 #[.pointer (some ⟨p, 0, none⟩)] w fun e w' => e = .returned (.tuple #[]) ∧ Outc w1 w' fp p ([([121], xs, xs)], St u 9 false) := outc_run h fun fp1 d => d.restart
theorem c12 (h : Outc w1 w fp p ([([121], xs, xs)], St u 9 false)) : Calls Try.prog 24 #[.pointer (some ⟨p, 0, none⟩), .string ⟨#[121]⟩] w fun e w' => e = .returned (.tuple #[.int .i64 (xs.length : Int), .int .i64 0]) ∧ Outc w1 w' fp p ([([121], xs, xs)], St u 10 false) :=
  outc_run h fun fp1 d => d.size (by simp only [St]; omega) ⟨#[121]⟩ (str1 121)
theorem c13 (h : Outc w1 w fp p ([([121], xs, xs)], St u 10 false)) (W : World) (hb : Below w.heap.size w W) : Calls Try.prog 42 #[.pointer (some ⟨p, 0, none⟩)] W fun e w' => e = .returned (.int .i64 u) ∧ w' = W := by
  obtain ⟨fp1, d, _⟩ := h
  exact (d.below hb).used
end

/-! ### The walk -/
set_option maxRecDepth 100000 in
set_option maxHeartbeats 8000000 in
theorem walk (a0 : Option Addr) (len0 cap0 : Nat) (z0 : List Int) (a1 : Option Addr) (len1 cap1 : Nat) (z1 : List Int) (w : World) (w0 : IsRow .u8 w a0 len0 cap0 z0) (w1 : IsRow .u8 w a1 len1 cap1 z1) :
    Calls Try.prog 7 #[.slice a0 len0 cap0, .slice a1 len1 cap1] w fun e w' => e = .returned (.bool true) ∧ Below w.heap.size w w' := by
  obtain ⟨m0, xs, hm0, hI, hL, hp1, hp2, hlc0⟩ := cut_min w0 60 60 rfl
  obtain ⟨m1, cs, hm1, hJ, hM, hq1, hq2, hlc1⟩ := cut_min w1 60 60 rfl
  subst hL
  have hal : xs.length ≤ 60 := by omega
  have hcl : cs.length ≤ 60 := by omega
  have HI := hide hI
  have HJ := hide hJ
  have HAL := hide hal
  have HCL := hide hcl
  have HXA : Hid (xs ≠ [] → ∀ x ∈ Go.Proofs.Ytahhokhhgamelaa.own (.slice a0 xs.length cap0), x < w.heap.size) := fun hne => hI.lt hne
  have HXC : Hid (cs ≠ [] → ∀ x ∈ Go.Proofs.Ytahhokhhgamelaa.own (.slice a1 m1 cap1), x < w.heap.size) := fun hne => hJ.lt hne
  have SH := hide (shown_any w)
  clear w0 w1 hI hJ hM hal hcl
  go_enter Try.func7, Try.ntmps7
  go_wp2_with (go_at_call 12; refine SH.out.mono ?_; rintro e w1 ⟨rfl, b1'⟩; have B1 := hide b1'; clear b1')
  have NW := hide (Sd.new (B := w.heap.size) (w0 := w) 100 (by omega) w1 B1.out B1.out.size)
  refine NW.out.mono ?_
  rintro e w2 ⟨rfl, d2⟩
  have D2 : Hid (Sd w.heap.size w w2 (w1.heap.size + 1) [] (St 0 0 false)) := d2
  clear d2 NW
  obtain ⟨p, hp⟩ : ∃ p, p = w1.heap.size + 1 := ⟨_, rfl⟩
  rw [← hp] at D2 ⊢
  clear hp
  go_wp2_with (fail)
  refine (c1 D2.out).mono ?_
  rintro e w3 ⟨rfl, d3⟩
  have D3 := hide d3
  clear d3
  go_wp2_with (fail)
  refine (c2 D3.out).mono ?_
  rintro e w4 ⟨rfl, d4⟩
  have D4 := hide d4
  clear d4
  go_wp2_with (fail)
  refine (c3 D4.out (.slice a0 xs.length cap0) (HI.out.below D4.out.bel) HAL.out HXA.out).mono ?_
  rintro e w5 ⟨rfl, d5⟩
  have D5 := hide d5
  clear d5
  go_wp2_with (fail)
  refine (c4 D5.out HAL.out (.slice a1 m1 cap1) (HJ.out.below D5.out.bel) HCL.out HXC.out).mono ?_
  rintro e w6 ⟨rfl, d6⟩
  have D6 := hide d6
  clear d6
  go_wp2_with (go_at_call 26; refine (c5 D6.out).mono ?_; rintro e w7 ⟨rfl, d7⟩; have D7 := hide d7; clear d7)
  go_wp2_with (go_at_call 28; refine (c6 D7.out).mono ?_; rintro e w8 ⟨rfl, d8⟩; have D8 := hide d8; clear d8)
  go_wp2_with (go_at_call 24; refine (c7 D8.out).mono ?_; rintro e w9 ⟨rfl, d9⟩; have D9 := hide d9; clear d9)
  go_wp2_with (go_at_call 32; refine (c8 D9.out).mono ?_; rintro e w10 ⟨v, rfl, s10, fp, d10, b10, f10, z10, x10⟩; obtain ⟨lb, lo, lc, rfl, _, s10b⟩ := id s10; have S10 := hide s10; have D10 := hide d10; have B10 := hide b10; have F10 := hide f10; have Z10 := hide z10; have X10 := hide x10; clear s10 d10 b10 f10 z10 x10 s10b)
  have C9 := c9 D10.out
  refine C9.mono ?_
  clear C9
  rintro e w11 ⟨x, rfl, r11, k11, fp', o11, n11, x11⟩
  obtain ⟨xa, xc, rfl, _⟩ := r11.isB.form
  have R11 := hide r11
  have K11 := hide k11
  have O11 := hide o11
  have N11 := hide n11
  have X11 := hide x11
  clear r11 k11 o11 n11 x11
  go_wp2_with (go_at_call 35; refine (c10 O11.out).mono ?_; rintro e w12 ⟨rfl, o12⟩; have O12 := hide o12; clear o12)
  go_wp2_with (go_at_call 37; refine (c11 O12.out).mono ?_; rintro e w13 ⟨rfl, o13⟩; have O13 := hide o13; clear o13)
  have C12 := c12 O13.out
  refine C12.mono ?_
  clear C12
  rintro e w14 ⟨rfl, o14⟩
  have O14 := hide o14
  obtain ⟨fpE, dE, kE, nE⟩ := o14
  have K8 : Kept fp w10 w14 := K11.out.trans kE N11.out
  have bE : Below w.heap.size w w14 := B10.out.trans (K8.below Z10.out F10.out)
  have HBE := hide bE
  have IX := hide ((R11.out.kept kE X11.out).isB)
  have IA := hide (HI.out.below bE)
  have hsS : IsS1 w14 (.slice (some ⟨lb, lo, none⟩) 1 lc) ⟨#[121]⟩ := by
    obtain ⟨b', o', c', e1, e2, e3⟩ := S10.out
    simp only [Value.slice.injEq, Option.some.injEq, Addr.mk.injEq, and_true, true_and] at e1
    obtain ⟨⟨rfl, rfl⟩, rfl⟩ := e1
    exact ⟨_, _, _, rfl, e2, K8.cell e3 (X10.out _ (by simp [Go.Proofs.Ytahhokhhgamelaa.own, Value.ownBlock]))⟩
  have HSS := hide hsS
  have esec : sec xs.length = ((xs.length : Int) + 15) / 16 := sec_eq _
  clear dE kE nE K8 bE hsS
  go_wp2_with (fail)
  have ba : Below w14.heap.size w14 (w14.alloc (.cells #[.string ⟨#[121]⟩] 9)) := (Below.refl _ w14).alloc (Nat.le_refl _) _
  have s1 : IsS1 (w14.alloc (.cells #[.string ⟨#[121]⟩] 9)) (.slice (some ⟨lb, lo, none⟩) 1 lc) ⟨#[121]⟩ := by
    obtain ⟨b', o', c', e1, e2, e3⟩ := HSS.out
    exact ⟨b', o', c', e1, e2, (ba.cell (p := ⟨b', o', none⟩) (World.block_lt_of_cell? w14 _ e3)).trans e3⟩
  have s2 : IsS1 (w14.alloc (.cells #[.string ⟨#[121]⟩] 9)) (.slice (some ⟨w14.heap.size, 0, none⟩) 1 1) ⟨#[121]⟩ := ⟨_, _, _, rfl, Nat.le_refl _, by simp⟩
  refine (texts_one _ _ ⟨#[121]⟩ _ s1 s2).mono ?_
  rintro e w15 ⟨rfl, b15⟩
  have bb : Below w14.heap.size w14 w15 := ba.trans (b15.mono (by simp))
  have cx := conv_isB (IX.out.below bb)
  have ca := conv_isB (IA.out.below bb)
  have U := hide (c13 O14.out w15 bb)
  have HBB := hide bb
  clear ba s1 s2 b15 bb
  go_wp2_with (go_at_call 42; refine U.out.mono ?_; rintro e w16 ⟨rfl, rfl⟩)
  go_ret
  exact ⟨by simp, HBE.out.trans (HBB.out.mono HBE.out.size)⟩

/-! ### THE ROW's STEP: WRITTEN OUT: LEAVE IT -/
set_option maxRecDepth 100000 in
theorem lifted (os : Os) (started : os.Started) (H : Type) (enc : TypeId × Value → H) :
    ReturnsInHanded {} Try.checked os 7 .any (Rows.diskNamesSpec.pre6 enc Try.prog Try.f7 Rows.diskNamesRow.domain false) (Rows.diskNamesSpec.post enc Try.prog Try.f7 false true false false) := by
  refine returnsInHanded_of_change (C := Try.checked) own started (by kernel_rfl) Try.func7
    (ChangeSpec.witness6 (enc := enc) (C := Try.checked) false ⟨#[], #[.slice none 0 0, .slice none 0 0], []⟩ 8 (by kernel_rfl) (by kernel_rfl) (by kernel_rfl) (by kernel_rfl)) ?_
  intro W base args ds gs before hval0 hW hcnd _
  have hval : ∀ (j : Nat) t v, Try.f7.params[j]? = some t → args[j]? = some v → Value.okWide Try.prog W .any base t v := hval0
  have hW' := hW
  obtain ⟨p, q, hA0, hV, rfl, hfz, hnd⟩ := hW
  have hA : DataW.TrodAll enc Try.prog W 0 (fun _ => true) true Try.f7.params.toList args.toList ds p := hA0
  rw [Try.params7] at hA hval
  obtain ⟨v0, vs0, d0, ds0, p0, q0, hargs, rfl, rfl, h0, r0⟩ := trodAll_cons hA
  obtain ⟨v1, vs1, d1, ds1, p1, q1, rfl, rfl, rfl, h1, r1⟩ := trodAll_cons r0
  obtain ⟨rfl, rfl, rfl⟩ := trodAll_nil r1
  obtain rfl : args = #[v0, v1] := by cases args; simp_all
  obtain ⟨rfl, rfl⟩ := trodVars_none hV
  obtain ⟨a0, len0, cap0, rfl⟩ := okWide_slice Try.underlying28 (hval 0 28 v0 rfl rfl)
  have k0 := h0
  have lt0 : ∀ x ∈ p0, x.block < W.heap.size := by obtain ⟨m, hm⟩ := k0; exact DataW.trod_lt m _ _ _ hm
  obtain ⟨z0, w0⟩ : ∃ zs, IsRow .u8 W a0 len0 cap0 zs := by
    obtain ⟨fuel, hf⟩ := h0
    rcases open_ints Try.underlying28 Try.underlying5 (by kernel_rfl) hf with ⟨hcs, _⟩ | ⟨x, l, c, zs, hcs, _, hl, hm, hz, _, hcell, hwz⟩
    · simp [Value.cells] at hcs
      obtain ⟨rfl, rfl, rfl⟩ := hcs
      exact ⟨[], .inl ⟨rfl, rfl, rfl, rfl⟩⟩
    · simp [Value.cells] at hcs
      obtain ⟨rfl, rfl, rfl⟩ := hcs
      exact ⟨zs, .inr ⟨_, rfl, hl, hm, by simpa using hz, hcell, hwz⟩⟩
  obtain ⟨a1, len1, cap1, rfl⟩ := okWide_slice Try.underlying28 (hval 1 28 v1 rfl rfl)
  have k1 := h1
  have lt1 : ∀ x ∈ p1, x.block < W.heap.size := by obtain ⟨m, hm⟩ := k1; exact DataW.trod_lt m _ _ _ hm
  obtain ⟨z1, w1⟩ : ∃ zs, IsRow .u8 W a1 len1 cap1 zs := by
    obtain ⟨fuel, hf⟩ := h1
    rcases open_ints Try.underlying28 Try.underlying5 (by kernel_rfl) hf with ⟨hcs, _⟩ | ⟨x, l, c, zs, hcs, _, hl, hm, hz, _, hcell, hwz⟩
    · simp [Value.cells] at hcs
      obtain ⟨rfl, rfl, rfl⟩ := hcs
      exact ⟨[], .inl ⟨rfl, rfl, rfl, rfl⟩⟩
    · simp [Value.cells] at hcs
      obtain ⟨rfl, rfl, rfl⟩ := hcs
      exact ⟨zs, .inr ⟨_, rfl, hl, hm, by simpa using hz, hcell, hwz⟩⟩
  clear hA0 hval0
  refine (walk a0 len0 cap0 z0 a1 len1 cap1 z1 W w0 w1).mono fun e W' ⟨he, bel⟩ => ?_
  subst he
  exact ⟨_, rfl, _, _, _, [], _, [], hW', trodAll_mk1 (shut_bool Try.underlying4 _), (trodAll_cons_mk (Below.trod laidOut (by kernel_rfl) (of_decide_eq_true (by kernel_rfl)) k0 bel lt0) (trodAll_cons_mk (Below.trod laidOut (by kernel_rfl) (of_decide_eq_true (by kernel_rfl)) k1 bel lt1) trodAll_mk0)), rfl, bel.frame _, fun h => by cases h⟩

theorem over : Rows.diskNamesRow.holds Try.pinned (OpenSpec.ofChange Rows.diskNamesSpec) :=
  OpenClaim.holds_of_wide 7 Try.f7 rfl rfl rfl rfl rfl rfl rfl ⟨rfl, rfl, rfl, rfl, rfl⟩ rfl rfl rfl rfl rfl (by kernel_rfl) Try.func7 (by kernel_rfl)
    (of_decide_eq_true (by kernel_rfl)) (by unfold Func.isWrapper; first | (rw [if_pos (by decide +kernel)]; kernel_rfl) | (rw [if_neg (by decide +kernel)]; exact ⟨rfl, rfl⟩))
    (fun os started H enc _ => lifted os started H enc)

/-- ████ THE STATEMENT ████ -/
theorem proved : Rows.DiskNamesSaid := over
#print axioms proved
end Go.Proofs.Ytahhokhhgamelaa.diskNames
