/-
  Proved: for all bytes and all truths, twice, DiskTwice returns true and leaves them as they were (a second crash, with nothing done between, changes nothing). No condition.
-/
import Derived.WalkKit
import Derived.ProofKit
import Derived.OpenShut
import Derived.ShutString
import Derived.Deep.Grids
import Derived.Deep.RegionHeld
import Derived.Test.YtahhokhhgamelaaDSync
namespace Go.Proofs.Ytahhokhhgamelaa.diskTwice
open Go.ChangeShapes Go.WideShapes Go.ChangeAt Go.RowKit
open Go.ChangeMaps (open_string shut_string)
set_option linter.unusedVariables false

theorem own : ownKnob Try.prog.godebug = none := by kernel_rfl
theorem laidOut : laidOutB Try.prog = true := by kernel_rfl

/-- WHAT THE WALK IS TOLD OF A SLICE OF INTEGERS THAT CAME IN. -/
def IsRow (k : IntKind) (w : World) (a : Option Addr) (len cap : Nat) (zs : List Int) : Prop :=
  (a = none ∧ len = 0 ∧ cap = 0 ∧ zs = []) ∨
  ∃ x, a = some x ∧ len ≤ cap ∧ cap ≤ maxLen ∧ zs.length = cap ∧ (∀ i, i < zs.length → w.cell? (x.add i) = some (.int k (zs.getD i 0))) ∧ ∀ n ∈ zs, (Lit.int k n).wf = true

theorem isB_of {w : World} {a : Option Addr} {len cap : Nat} {zs : List Int} (h : IsRow .u8 w a len cap zs) : IsB w (.slice a len cap) (zs.take len) ∧ (zs.take len).length = len ∧ len ≤ cap := by
  rcases h with ⟨rfl, rfl, rfl, rfl⟩ | ⟨x, rfl, hl, hm, hz, hc, hw⟩
  · exact ⟨IsB.nil w, rfl, Nat.le_refl _⟩
  · have e : (zs.take len).length = len := by simp; omega
    refine ⟨⟨_, cap, by rw [e], by omega, by simp, fun y hy j hj => ?_, fun z hz => ?_⟩, e, hl⟩
    · simp only [Option.some.injEq] at hy
      subst hy
      rw [hc j (by omega), List.getElem?_take_of_lt (by omega)]
      rfl
    · have := hw z (List.mem_of_mem_take hz)
      exact bounds_u8 this

/-- What is left of a slice that is cut to at most m bytes. -/
theorem cut_to {w : World} {a : Option Addr} {len cap : Nat} {zs : List Int} (h : IsRow .u8 w a len cap zs) (m : Nat) (hm : m ≤ len) : ∃ bs, IsB w (.slice a m cap) bs ∧ bs.length = m := by
  obtain ⟨h1, h2, h3⟩ := isB_of h
  exact ⟨_, h1.take m hm, by simp only [List.length_take, h2]; omega⟩

/-- The same, the length named: as the walk reckons it. -/
theorem cut_min {w : World} {a : Option Addr} {len cap : Nat} {zs : List Int} (h : IsRow .u8 w a len cap zs) (k : Nat) (K : Int) (hK : K = (k : Int)) :
    ∃ (m : Nat) (bs : List Int), (∀ (ts : Array TypeId) (t : TypeId) (w : World), (Builtin.min_ ts t #[.int .i64 (len : Int), .int .i64 K]).run Try.prog w = .ok (.int .i64 (m : Int)) w) ∧ IsB w (.slice a m cap) bs ∧ bs.length = m ∧ m ≤ len ∧ m ≤ k ∧ m ≤ cap := by
  obtain ⟨h1, h2, h3⟩ := isB_of h
  refine ⟨min len k, _, fun ts t w => ?_, h1.take (min len k) (by omega), by simp only [List.length_take, h2]; omega, by omega, by omega, by omega⟩
  rw [run_min_int2, hK]
  congr 2
  split <;> omega

theorem cutK {w : World} {a : Option Addr} {len cap : Nat} {ks : List Bool} (h : IsK w (.slice a len cap) ks) (hl : ks.length = len) (hc : len ≤ cap) :
    ∃ (m : Nat) (js : List Bool), (∀ (ts : Array TypeId) (t : TypeId) (w : World), (Builtin.min_ ts t #[.int .i64 (len : Int), .int .i64 60]).run Try.prog w = .ok (.int .i64 (m : Int)) w) ∧ IsK w (.slice a m cap) js ∧ js.length ≤ 60 ∧ m ≤ len ∧ m ≤ cap := by
  refine ⟨min len 60, ks.take (min len 60), fun ts t w => ?_, ?_, by rw [List.length_take]; omega, by omega, by omega⟩
  · rw [run_min_int2]
    congr 2
    split <;> omega
  · obtain ⟨a', c', he, h1, h2, h3⟩ := h
    simp only [Value.slice.injEq] at he
    obtain ⟨rfl, rfl, rfl⟩ := he
    have e : (ks.take (min ks.length 60)).length = min ks.length 60 := by rw [List.length_take]; omega
    refine ⟨a, cap, by rw [e], by rw [e]; omega, fun hn => ?_, fun x hx j hj => ?_⟩
    · rw [(h2 hn).1]
      exact ⟨by simp, (h2 hn).2⟩
    · rw [e] at hj
      rw [h3 x hx j (by omega), List.getElem?_take_of_lt hj]

def St (used ops : Int) (down : Bool) : Ds := { room := 100, used := used, ops := ops, down := down, left := 0, keep := [] }
theorem t_create : createA (beginA [] (St 0 0 false)) [102] = (0, ([([102], [], [])], St 0 1 false)) := by rfl
theorem t_append (bs : List Int) (h : bs.length ≤ 200) : appendA (beginA [([102], [], [])] (St 0 1 false)) [102] bs = (0, ([([102], bs, [])], St (sec bs.length) 2 false)) := by
  show writeA [([102], [], [])] (St 0 2 false) ([102], [], []) 0 bs = _
  unfold writeA
  have h0 : moreA [] 0 bs = sec bs.length := by simp [moreA, sec]
  have h1 : sec bs.length ≤ 13 := by unfold sec; omega
  rw [if_neg (by simp), if_neg (by simp only [St]; show ¬ 100 - 0 < moreA [] 0 bs; rw [h0]; omega)]
  show ((0 : Int), (setA [([102], [], [])] ([102], putA [] 0 bs, []), { St 0 2 false with used := 0 + moreA [] 0 bs })) = _
  rw [h0]
  simp [setA, putA, St]
/-- What one crash leaves of bytes that were not synced. -/
def TT (js : List Bool) (bs : List Int) : List Int := (tearB js bs [] 0).1
theorem t_crash (js : List Bool) (bs : List Int) (u k : Int) : crashA js [([102], bs, [])] (St u k false) = ([([102], TT js bs, TT js bs)], St (sec (TT js bs).length) k true) := by
  unfold crashA
  rw [if_neg (by simp [St])]
  simp [torn, usedB, St, TT]
theorem t_crash2 (js : List Bool) (l : List Ab) (u k : Int) : crashA js l (St u k true) = (l, St u k true) := by rfl
theorem tear_same (js : List Bool) (T : List Int) (k j : Nat) (hj : 16 * j < T.length + 16) : tearTo js T T k j = (T, k) := by
  induction j with
  | zero => rfl
  | succ j ih =>
    unfold tearTo
    rw [if_pos (by simp [sameB]; omega)]
    exact ih (by omega)
theorem t_crash3 (js : List Bool) (T : List Int) (k : Int) : crashA js [([102], T, T)] (St (sec T.length) k false) = ([([102], T, T)], St (sec T.length) k true) := by
  unfold crashA
  rw [if_neg (by simp [St])]
  have e : tearB js T T 0 = (T, 0) := tear_same js T 0 _ (by omega)
  simp [torn, usedB, St, e]

section
variable {B : Nat} {w0 w w1 : World} {fp : List Nat} {p : Nat} {l l' : List Ab} {s s' : Ds} {A C : List Ab × Ds} {f : Nat} {args : Array Value} {r : Ending}
theorem outc_run (h : Outc w1 w fp p A) (k : ∀ fp1, Dk w fp1 p A.1 A.2 → Newly w1 fp fp1 → Calls Try.prog f args w fun e w3 => e = r ∧ Outc w w3 fp1 p C) : Calls Try.prog f args w fun e w3 => e = r ∧ Outc w1 w3 fp p C := by
  obtain ⟨fp1, d, k1, n1⟩ := h
  refine (k fp1 d n1).mono ?_
  rintro e w3 ⟨rfl, fp2, d2, k2, n2⟩
  exact ⟨rfl, fp2, d2, k1.trans k2 n1, n1.trans n2 k1.size⟩
theorem s_create (h : Sd B w0 w p [] (St 0 0 false)) : Calls Try.prog 16 #[.pointer (some ⟨p, 0, none⟩), .string ⟨#[102]⟩] w fun e w' => e = .returned (.int .i64 0) ∧ Sd B w0 w' p [([102], [], [])] (St 0 1 false) :=
  h.create (by decide) ⟨#[102]⟩ (str1 102) t_create
theorem s_append (h : Sd B w0 w p [([102], [], [])] (St 0 1 false)) (u : Value) (bs : List Int) (hu : IsB w u bs) (hl : bs.length ≤ 200) (hux : bs ≠ [] → ∀ x ∈ Go.Proofs.Ytahhokhhgamelaa.own u, x < B) : Calls Try.prog 18 #[.pointer (some ⟨p, 0, none⟩), .string ⟨#[102]⟩, u] w fun e w' => e = .returned (.int .i64 0) ∧ Sd B w0 w' p [([102], bs, [])] (St (sec bs.length) 2 false) :=
  h.append (by decide) ⟨#[102]⟩ (str1 102) u bs hu (by omega) hux (t_append bs hl)
theorem s_crash {bs : List Int} {v : Int} (h : Sd B w0 w p [([102], bs, [])] (St v 2 false)) (u : Value) (js : List Bool) (hu : IsK w u js) (hl : js.length ≤ 60) (hux : js ≠ [] → ∀ x ∈ Go.Proofs.Ytahhokhhgamelaa.own u, x < B) : Calls Try.prog 35 #[.pointer (some ⟨p, 0, none⟩), u] w fun e w' => e = .returned (.tuple #[]) ∧ Sd B w0 w' p [([102], TT js bs, TT js bs)] (St (sec (TT js bs).length) 2 true) :=
  h.crash (by simp only [St]; omega) u js hu hux (by omega) (t_crash js bs v 2)
theorem s_crash2 {T : List Int} {v : Int} (h : Sd B w0 w p [([102], T, T)] (St v 2 true)) (u : Value) (js : List Bool) (hu : IsK w u js) (hl : js.length ≤ 60) (hux : js ≠ [] → ∀ x ∈ Go.Proofs.Ytahhokhhgamelaa.own u, x < B) : Calls Try.prog 35 #[.pointer (some ⟨p, 0, none⟩), u] w fun e w' => e = .returned (.tuple #[]) ∧ Sd B w0 w' p [([102], T, T)] (St v 2 true) :=
  h.crash (by simp only [St]; omega) u js hu hux (by omega) (t_crash2 js _ v 2)
theorem s_restart {T : List Int} {v : Int} (h : Sd B w0 w p [([102], T, T)] (St v 2 true)) : Calls Try.prog 37 #[.pointer (some ⟨p, 0, none⟩)] w fun e w' => e = .returned (.tuple #[]) ∧ Sd B w0 w' p [([102], T, T)] (St v 2 false) := h.restart
theorem s_size {T : List Int} {v : Int} (h : Sd B w0 w p [([102], T, T)] (St v 2 false)) : Calls Try.prog 24 #[.pointer (some ⟨p, 0, none⟩), .string ⟨#[102]⟩] w fun e w' => e = .returned (.tuple #[.int .i64 (T.length : Int), .int .i64 0]) ∧ Sd B w0 w' p [([102], T, T)] (St v 3 false) :=
  h.size (by simp only [St]; omega) ⟨#[102]⟩ (str1 102) (by rfl) (by rfl)
/-- All of the file is read; what was read is held beside the disk. -/
theorem s_read {T : List Int} {v : Int} (h : Sd B w0 w p [([102], T, T)] (St v 3 false)) : Calls Try.prog 22 #[.pointer (some ⟨p, 0, none⟩), .string ⟨#[102]⟩, .int .i64 0, .int .i64 (T.length : Int)] w fun e w' => ∃ x, e = .returned (.tuple #[x, .int .i64 0]) ∧ RowB w' x T ∧
    ∃ fp, Outc w' w' fp p ([([102], T, T)], St v 4 false) ∧ Below B w0 w' ∧ (∀ y ∈ fp, B ≤ y) ∧ B ≤ w'.heap.size ∧ ∀ y ∈ Go.Proofs.Ytahhokhhgamelaa.own x, y ∉ fp := by
  obtain ⟨fp, d, b, ff, hB⟩ := h
  refine (d.read (by simp only [St]; omega) ⟨#[102]⟩ (str1 102) (x := ([102], T, T)) (by rfl) (by rfl) 0 T.length (by simp)).mono ?_
  rintro e w' ⟨x, rfl, r, fp', d', k', n', o'⟩
  refine ⟨x, rfl, by simpa using r, fp', ⟨fp', d', Kept.refl _ _, Newly.refl _ _⟩, b.trans (k'.below hB ff), fun y hy => ?_, Nat.le_trans hB k'.size, fun y hy => (o' y hy).2⟩
  rcases n' y hy with h1 | h1
  · exact ff y h1
  · omega
theorem o_crash {T : List Int} (h : Outc w1 w fp p ([([102], T, T)], St (sec T.length) 4 false)) (hf : ∀ y ∈ fp, B ≤ y) (hB : B ≤ w1.heap.size) (u : Value) (js : List Bool) (hu : IsK w u js) (hl : js.length ≤ 60) (hux : js ≠ [] → ∀ x ∈ Go.Proofs.Ytahhokhhgamelaa.own u, x < B) : Calls Try.prog 35 #[.pointer (some ⟨p, 0, none⟩), u] w fun e w' => e = .returned (.tuple #[]) ∧ Outc w1 w' fp p ([([102], T, T)], St (sec T.length) 4 true) :=
  outc_run h fun fp1 d n1 => by
    have q := d.crash (by simp only [St]; omega) u js hu (fun hne x hx e => by
      have h1 := hux hne x hx
      rcases n1 x e with h2 | h2
      · have := hf x h2
        omega
      · omega) (by omega)
    rw [t_crash3] at q
    exact q
theorem o_restart {T : List Int} {v : Int} (h : Outc w1 w fp p ([([102], T, T)], St v 4 true)) : Calls Try.prog 37 #[.pointer (some ⟨p, 0, none⟩)] w fun e w' => e = .returned (.tuple #[]) ∧ Outc w1 w' fp p ([([102], T, T)], St v 4 false) :=
  outc_run h fun fp1 d n1 => d.restart
theorem o_size {T : List Int} {v : Int} (h : Outc w1 w fp p ([([102], T, T)], St v 4 false)) : Calls Try.prog 24 #[.pointer (some ⟨p, 0, none⟩), .string ⟨#[102]⟩] w fun e w' => e = .returned (.tuple #[.int .i64 (T.length : Int), .int .i64 0]) ∧ Outc w1 w' fp p ([([102], T, T)], St v 5 false) :=
  outc_run h fun fp1 d n1 => d.size (by simp only [St]; omega) ⟨#[102]⟩ (str1 102)
theorem o_read {T : List Int} {v : Int} (h : Outc w1 w fp p ([([102], T, T)], St v 5 false)) : Calls Try.prog 22 #[.pointer (some ⟨p, 0, none⟩), .string ⟨#[102]⟩, .int .i64 0, .int .i64 (T.length : Int)] w fun e w' => ∃ x, e = .returned (.tuple #[x, .int .i64 0]) ∧ RowB w' x T ∧ Kept fp w1 w' := by
  obtain ⟨fp1, d, k1, n1⟩ := h
  refine (d.read (by simp only [St]; omega) ⟨#[102]⟩ (str1 102) (x := ([102], T, T)) (by rfl) (by rfl) 0 T.length (by simp)).mono ?_
  rintro e w' ⟨x, rfl, r, fp', d', k', n', o'⟩
  exact ⟨x, rfl, by simpa using r, k1.trans k' n1⟩
end

/-! ### The walk -/
set_option maxRecDepth 100000 in
set_option maxHeartbeats 8000000 in
theorem walk (a0 : Option Addr) (len0 cap0 : Nat) (z0 : List Int) (a1 : Option Addr) (len1 cap1 : Nat) (ks1 : List Bool) (a2 : Option Addr) (len2 cap2 : Nat) (ks2 : List Bool) (w : World) (w0 : IsRow .u8 w a0 len0 cap0 z0) (i1 : IsK w (.slice a1 len1 cap1) ks1) (l1 : ks1.length = len1) (c1 : len1 ≤ cap1) (i2 : IsK w (.slice a2 len2 cap2) ks2) (l2 : ks2.length = len2) (c2 : len2 ≤ cap2) :
    Calls Try.prog 11 #[.slice a0 len0 cap0, .slice a1 len1 cap1, .slice a2 len2 cap2] w fun e w' => e = .returned (.bool true) ∧ Below w.heap.size w w' := by
  obtain ⟨m, bs, hm0, hI, hL, hp1, hp2, hlc0⟩ := cut_min w0 200 200 rfl
  obtain ⟨m1, js1, hm1, hK1, hl1, hq1, hc1⟩ := cutK i1 l1 c1
  obtain ⟨m2, js2, hm2, hK2, hl2, hq2, hc2⟩ := cutK i2 l2 c2
  have hbl : bs.length ≤ 200 := by omega
  have HI := hide hI
  have HBL := hide hbl
  have HK1 := hide hK1
  have HK2 := hide hK2
  have HL1 := hide hl1
  have HL2 := hide hl2
  have HUX : Hid (bs ≠ [] → ∀ x ∈ Go.Proofs.Ytahhokhhgamelaa.own (.slice a0 m cap0), x < w.heap.size) := fun hne => hI.lt hne
  have HU1 : Hid (js1 ≠ [] → ∀ x ∈ Go.Proofs.Ytahhokhhgamelaa.own (.slice a1 m1 cap1), x < w.heap.size) := fun hne => hK1.lt hne
  have HU2 : Hid (js2 ≠ [] → ∀ x ∈ Go.Proofs.Ytahhokhhgamelaa.own (.slice a2 m2 cap2), x < w.heap.size) := fun hne => hK2.lt hne
  have SH := hide (shown_any w)
  clear w0 i1 i2 l1 l2 hI hL hbl hK1 hK2 hl1 hl2
  go_enter Try.func11, Try.ntmps11
  go_wp2_with (go_at_call 12; refine SH.out.mono ?_; rintro e w1 ⟨rfl, b1'⟩; have B1 := hide b1'; clear b1')
  have NW := hide (Sd.new (B := w.heap.size) (w0 := w) 100 (by omega) w1 B1.out B1.out.size)
  refine NW.out.mono ?_
  rintro e w2 ⟨rfl, d2⟩
  have D2 : Hid (Sd w.heap.size w w2 (w1.heap.size + 1) [] (St 0 0 false)) := d2
  clear d2 NW
  obtain ⟨p, hp⟩ : ∃ p, p = w1.heap.size + 1 := ⟨_, rfl⟩
  rw [← hp] at D2 ⊢
  clear hp
  go_wp2_with (go_at_call 16; refine (s_create D2.out).mono ?_; rintro e w3 ⟨rfl, d3⟩; have D3 := hide d3; clear d3)
  go_wp2_with (go_at_call 18; refine (s_append D3.out (.slice a0 m cap0) bs (HI.out.below D3.out.bel) HBL.out HUX.out).mono ?_; rintro e w4 ⟨rfl, d4⟩; have D4 := hide d4; clear d4)
  refine (s_crash D4.out (.slice a1 m1 cap1) js1 (HK1.out.below D4.out.bel) HL1.out HU1.out).mono ?_
  rintro e w5 ⟨rfl, d5⟩
  obtain ⟨T, hT⟩ : ∃ T, T = TT js1 bs := ⟨_, rfl⟩
  rw [← hT] at d5
  have D5 := hide d5
  clear d5 hT
  go_wp2_with (fail)
  refine (s_crash2 D5.out (.slice a2 m2 cap2) js2 (HK2.out.below D5.out.bel) HL2.out HU2.out).mono ?_
  rintro e w6 ⟨rfl, d6⟩
  have D6 := hide d6
  clear d6
  go_wp2_with (go_at_call 37; refine (s_restart D6.out).mono ?_; rintro e w7 ⟨rfl, d7⟩; have D7 := hide d7; clear d7)
  go_wp2_with (go_at_call 24; refine (s_size D7.out).mono ?_; rintro e w8 ⟨rfl, d8⟩; have D8 := hide d8; clear d8)
  go_wp2_with (go_at_call 22; refine (s_read D8.out).mono ?_; rintro e w9 ⟨x, rfl, r9, fp, o9, b9, f9, z9, x9⟩; obtain ⟨xa, xc, rfl, _⟩ := r9.isB.form; have R9 := hide r9; have O9 := hide o9; have B9 := hide b9; have F9 := hide f9; have Z9 := hide z9; have X9 := hide x9; clear r9 o9 b9 f9 z9 x9)
  refine (o_crash O9.out F9.out Z9.out (.slice a2 m2 cap2) js2 (HK2.out.below B9.out) HL2.out HU2.out).mono ?_
  rintro e w10 ⟨rfl, o10⟩
  have O10 := hide o10
  clear o10
  go_wp2_with (go_at_call 37; refine (o_restart O10.out).mono ?_; rintro e w11 ⟨rfl, o11⟩; have O11 := hide o11; clear o11)
  go_wp2_with (go_at_call 24; refine (o_size O11.out).mono ?_; rintro e w12 ⟨rfl, o12⟩; have O12 := hide o12; clear o12)
  go_wp2_with (go_at_call 22; refine (o_read O12.out).mono ?_; rintro e w13 ⟨y, rfl, r13, k13⟩; obtain ⟨ya, yc, rfl, _⟩ := r13.isB.form; have cx := conv_isB ((R9.out.kept k13 X9.out).isB); have cy := conv_isB r13.isB; have K13 := hide k13; clear r13 k13)
  go_ret
  exact ⟨rfl, B9.out.trans (K13.out.below Z9.out F9.out)⟩

/-! ### The row's step -/
set_option maxRecDepth 100000 in
theorem lifted (os : Os) (started : os.Started) (H : Type) (enc : TypeId × Value → H) :
    ReturnsInHanded {} Try.checked os 11 .any (Rows.diskTwiceSpec.pre6 enc Try.prog Try.f11 Rows.diskTwiceRow.domain false) (Rows.diskTwiceSpec.post enc Try.prog Try.f11 false true false false) := by
  refine returnsInHanded_of_change (C := Try.checked) own started (by kernel_rfl) Try.func11
    (ChangeSpec.witness6 (enc := enc) (C := Try.checked) false ⟨#[], #[.slice none 0 0, .slice none 0 0, .slice none 0 0], []⟩ 8 (by kernel_rfl) (by kernel_rfl) (by kernel_rfl) (by kernel_rfl)) ?_
  intro W base args ds gs before hval0 hW hcnd _
  have hval : ∀ (j : Nat) t v, Try.f11.params[j]? = some t → args[j]? = some v → Value.okWide Try.prog W .any base t v := hval0
  have hW' := hW
  obtain ⟨p, q, hA0, hV, rfl, hfz, hnd⟩ := hW
  have hA : DataW.TrodAll enc Try.prog W 0 (fun _ => true) true Try.f11.params.toList args.toList ds p := hA0
  rw [Try.params11] at hA hval
  obtain ⟨v0, vs0, d0, ds0, p0, q0, hargs, rfl, rfl, h0, r0⟩ := trodAll_cons hA
  obtain ⟨v1, vs1, d1, ds1, p1, q1, rfl, rfl, rfl, h1, r1⟩ := trodAll_cons r0
  obtain ⟨v2, vs2, d2, ds2, p2, q2, rfl, rfl, rfl, h2, r2⟩ := trodAll_cons r1
  obtain ⟨rfl, rfl, rfl⟩ := trodAll_nil r2
  obtain rfl : args = #[v0, v1, v2] := by cases args; simp_all
  obtain ⟨rfl, rfl⟩ := trodVars_none hV
  obtain ⟨a0, len0, cap0, rfl⟩ := okWide_slice Try.underlying28 (hval 0 28 v0 rfl rfl)
  have k0 := h0
  have lt0 : ∀ x ∈ p0, x.block < W.heap.size := by obtain ⟨m, hm⟩ := k0; exact DataW.trod_lt m _ _ _ hm
  obtain ⟨z0, w0⟩ : ∃ zs, IsRow .u8 W a0 len0 cap0 zs := by
    obtain ⟨fuel, hf⟩ := h0
    rcases open_ints Try.underlying28 Try.underlying5 (by kernel_rfl) hf with ⟨hcs, _⟩ | ⟨x, l, c, zs, hcs, _, hl, hm, hz, _, hcell, hwz⟩
    · simp [Value.cells] at hcs
      obtain ⟨rfl, rfl, rfl⟩ := hcs
      exact ⟨[], .inl ⟨rfl, rfl, rfl, rfl⟩⟩
    · simp [Value.cells] at hcs
      obtain ⟨rfl, rfl, rfl⟩ := hcs
      exact ⟨zs, .inr ⟨_, rfl, hl, hm, by simpa using hz, hcell, hwz⟩⟩
  obtain ⟨a1, len1, cap1, rfl⟩ := okWide_slice Try.underlying29 (hval 1 29 v1 rfl rfl)
  have k1 := h1
  have lt1 : ∀ x ∈ p1, x.block < W.heap.size := by obtain ⟨m, hm⟩ := k1; exact DataW.trod_lt m _ _ _ hm
  obtain ⟨ks1, i1, l1, c1⟩ : ∃ ks, IsK W (.slice a1 len1 cap1) ks ∧ ks.length = len1 ∧ len1 ≤ cap1 := by
    obtain ⟨fuel, hf⟩ := h1
    rcases Go.Deep.open_bools Try.underlying29 Try.underlying4 (by kernel_rfl) hf with ⟨hcs, _⟩ | ⟨x, l, c, B, hcs, _, hl, hm, _, hcell⟩
    · simp [Value.cells] at hcs
      obtain ⟨rfl, rfl, rfl⟩ := hcs
      exact ⟨[], IsK.nil W, rfl, Nat.le_refl _⟩
    · simp [Value.cells] at hcs
      obtain ⟨rfl, rfl, rfl⟩ := hcs
      refine ⟨(List.range len1).map B, ⟨some x, cap1, by simp, by simp; exact hl, by simp, fun y hy i hi => ?_⟩, by simp, hl⟩
      simp at hy hi
      subst hy
      rw [hcell i (by omega)]
      simp [hi]
  obtain ⟨a2, len2, cap2, rfl⟩ := okWide_slice Try.underlying29 (hval 2 29 v2 rfl rfl)
  have k2 := h2
  have lt2 : ∀ x ∈ p2, x.block < W.heap.size := by obtain ⟨m, hm⟩ := k2; exact DataW.trod_lt m _ _ _ hm
  obtain ⟨ks2, i2, l2, c2⟩ : ∃ ks, IsK W (.slice a2 len2 cap2) ks ∧ ks.length = len2 ∧ len2 ≤ cap2 := by
    obtain ⟨fuel, hf⟩ := h2
    rcases Go.Deep.open_bools Try.underlying29 Try.underlying4 (by kernel_rfl) hf with ⟨hcs, _⟩ | ⟨x, l, c, B, hcs, _, hl, hm, _, hcell⟩
    · simp [Value.cells] at hcs
      obtain ⟨rfl, rfl, rfl⟩ := hcs
      exact ⟨[], IsK.nil W, rfl, Nat.le_refl _⟩
    · simp [Value.cells] at hcs
      obtain ⟨rfl, rfl, rfl⟩ := hcs
      refine ⟨(List.range len2).map B, ⟨some x, cap2, by simp, by simp; exact hl, by simp, fun y hy i hi => ?_⟩, by simp, hl⟩
      simp at hy hi
      subst hy
      rw [hcell i (by omega)]
      simp [hi]
  clear hA0 hval0
  refine (walk a0 len0 cap0 z0 a1 len1 cap1 ks1 a2 len2 cap2 ks2 W w0 i1 l1 c1 i2 l2 c2).mono fun e W' ⟨he, bel⟩ => ?_
  subst he
  exact ⟨_, rfl, _, _, _, [], _, [], hW', trodAll_mk1 (shut_bool Try.underlying4 _), (trodAll_cons_mk (Below.trod laidOut (by kernel_rfl) (of_decide_eq_true (by kernel_rfl)) k0 bel lt0) (trodAll_cons_mk (Below.trod laidOut (by kernel_rfl) (of_decide_eq_true (by kernel_rfl)) k1 bel lt1) (trodAll_cons_mk (Below.trod laidOut (by kernel_rfl) (of_decide_eq_true (by kernel_rfl)) k2 bel lt2) trodAll_mk0))), rfl, bel.frame _, fun h => by cases h⟩

theorem over : Rows.diskTwiceRow.holds Try.pinned (OpenSpec.ofChange Rows.diskTwiceSpec) :=
  OpenClaim.holds_of_wide 11 Try.f11 rfl rfl rfl rfl rfl rfl rfl ⟨rfl, rfl, rfl, rfl, rfl⟩ rfl rfl rfl rfl rfl (by kernel_rfl) Try.func11 (by kernel_rfl)
    (of_decide_eq_true (by kernel_rfl)) (by unfold Func.isWrapper; first | (rw [if_pos (by decide +kernel)]; kernel_rfl) | (rw [if_neg (by decide +kernel)]; exact ⟨rfl, rfl⟩))
    (fun os started H enc _ => lifted os started H enc)

/-- The statement. -/
theorem proved : Rows.DiskTwiceSaid := over
#print axioms proved
end Go.Proofs.Ytahhokhhgamelaa.diskTwice
