/-
  Proved: for all bytes and all truths, DiskTorn returns true and leaves them as they were (of what was not synced each sector of sixteen bytes stays, or goes, by itself). No condition.
-/
import Derived.WalkKit
import Derived.ProofKit
import Derived.OpenShut
import Derived.ShutString
import Derived.Deep.Grids
import Derived.Deep.RegionHeld
import Derived.Test.YtahhokhhgamelaaDSync
namespace Go.Proofs.Ytahhokhhgamelaa.diskTorn
open Go.ChangeShapes Go.WideShapes Go.ChangeAt Go.RowKit
open Go.ChangeMaps (open_string shut_string)
set_option linter.unusedVariables false

theorem own : ownKnob Try.prog.godebug = none := by kernel_rfl
theorem laidOut : laidOutB Try.prog = true := by kernel_rfl

/-- WHAT THE WALK IS TOLD OF A SLICE OF INTEGERS THAT CAME IN. -/
def IsRow (k : IntKind) (w : World) (a : Option Addr) (len cap : Nat) (zs : List Int) : Prop :=
  (a = none ∧ len = 0 ∧ cap = 0 ∧ zs = []) ∨
  ∃ x, a = some x ∧ len ≤ cap ∧ cap ≤ maxLen ∧ zs.length = cap ∧ (∀ i, i < zs.length → w.cell? (x.add i) = some (.int k (zs.getD i 0))) ∧ ∀ n ∈ zs, (Lit.int k n).wf = true

theorem isB_of {w : World} {a : Option Addr} {len cap : Nat} {zs : List Int} (h : IsRow .u8 w a len cap zs) : IsB w (.slice a len cap) (zs.take len) ∧ (zs.take len).length = len ∧ len ≤ cap := by
  rcases h with ⟨rfl, rfl, rfl, rfl⟩ | ⟨x, rfl, hl, hm, hz, hc, hw⟩
  · exact ⟨IsB.nil w, rfl, Nat.le_refl _⟩
  · have e : (zs.take len).length = len := by simp; omega
    refine ⟨⟨_, cap, by rw [e], by omega, by simp, fun y hy j hj => ?_, fun z hz => ?_⟩, e, hl⟩
    · simp only [Option.some.injEq] at hy
      subst hy
      rw [hc j (by omega), List.getElem?_take_of_lt (by omega)]
      rfl
    · have := hw z (List.mem_of_mem_take hz)
      exact bounds_u8 this

/-- What is left of a slice that is cut to at most m bytes. -/
theorem cut_to {w : World} {a : Option Addr} {len cap : Nat} {zs : List Int} (h : IsRow .u8 w a len cap zs) (m : Nat) (hm : m ≤ len) : ∃ bs, IsB w (.slice a m cap) bs ∧ bs.length = m := by
  obtain ⟨h1, h2, h3⟩ := isB_of h
  exact ⟨_, h1.take m hm, by simp only [List.length_take, h2]; omega⟩

/-- The same, the length named: as the walk reckons it. -/
theorem cut_min {w : World} {a : Option Addr} {len cap : Nat} {zs : List Int} (h : IsRow .u8 w a len cap zs) (k : Nat) (K : Int) (hK : K = (k : Int)) :
    ∃ (m : Nat) (bs : List Int), (∀ (ts : Array TypeId) (t : TypeId) (w : World), (Builtin.min_ ts t #[.int .i64 (len : Int), .int .i64 K]).run Try.prog w = .ok (.int .i64 (m : Int)) w) ∧ IsB w (.slice a m cap) bs ∧ bs.length = m ∧ m ≤ len ∧ m ≤ k ∧ m ≤ cap := by
  obtain ⟨h1, h2, h3⟩ := isB_of h
  refine ⟨min len k, _, fun ts t w => ?_, h1.take (min len k) (by omega), by simp only [List.length_take, h2]; omega, by omega, by omega, by omega⟩
  rw [run_min_int2, hK]
  congr 2
  split <;> omega

theorem cutK {w : World} {a : Option Addr} {len cap : Nat} {ks : List Bool} (h : IsK w (.slice a len cap) ks) (hl : ks.length = len) (hc : len ≤ cap) :
    ∃ (m : Nat) (js : List Bool), (∀ (ts : Array TypeId) (t : TypeId) (w : World), (Builtin.min_ ts t #[.int .i64 (len : Int), .int .i64 60]).run Try.prog w = .ok (.int .i64 (m : Int)) w) ∧ IsK w (.slice a m cap) js ∧ js.length = m ∧ m ≤ 60 ∧ m ≤ len ∧ m ≤ cap := by
  refine ⟨min len 60, ks.take (min len 60), fun ts t w => ?_, ?_, by rw [List.length_take]; omega, by omega, by omega, by omega⟩
  · rw [run_min_int2]
    congr 2
    split <;> omega
  · obtain ⟨a', c', he, h1, h2, h3⟩ := h
    simp only [Value.slice.injEq] at he
    obtain ⟨rfl, rfl, rfl⟩ := he
    have e : (ks.take (min ks.length 60)).length = min ks.length 60 := by rw [List.length_take]; omega
    refine ⟨a, cap, by rw [e], by rw [e]; omega, fun hn => ?_, fun x hx j hj => ?_⟩
    · rw [(h2 hn).1]
      exact ⟨by simp, (h2 hn).2⟩
    · rw [e] at hj
      rw [h3 x hx j (by omega), List.getElem?_take_of_lt hj]

def St (used ops : Int) (down : Bool) : Ds := { room := 100, used := used, ops := ops, down := down, left := 0, keep := [] }
theorem t_create : createA (beginA [] (St 0 0 false)) [102] = (0, ([([102], [], [])], St 0 1 false)) := by rfl
theorem t_append (bs : List Int) (h : bs.length ≤ 200) : appendA (beginA [([102], [], [])] (St 0 1 false)) [102] bs = (0, ([([102], bs, [])], St (sec bs.length) 2 false)) := by
  show writeA [([102], [], [])] (St 0 2 false) ([102], [], []) 0 bs = _
  unfold writeA
  have h0 : moreA [] 0 bs = sec bs.length := by simp [moreA, sec]
  have h1 : sec bs.length ≤ 13 := by unfold sec; omega
  rw [if_neg (by simp), if_neg (by simp only [St]; show ¬ 100 - 0 < moreA [] 0 bs; rw [h0]; omega)]
  show ((0 : Int), (setA [([102], [], [])] ([102], putA [] 0 bs, []), { St 0 2 false with used := 0 + moreA [] 0 bs })) = _
  rw [h0]
  simp [setA, putA, St]
/-- What one crash leaves of bytes that were not synced. -/
def TT (js : List Bool) (bs : List Int) : List Int := (tearB js bs [] 0).1
theorem t_crash (js : List Bool) (bs : List Int) (u k : Int) : crashA js [([102], bs, [])] (St u k false) = ([([102], TT js bs, TT js bs)], St (sec (TT js bs).length) k true) := by
  unfold crashA
  rw [if_neg (by simp [St])]
  simp [torn, usedB, St, TT]
section
variable {B : Nat} {w0 w w1 : World} {fp : List Nat} {p : Nat} {l l' : List Ab} {s s' : Ds} {A C : List Ab × Ds} {f : Nat} {args : Array Value} {r : Ending}
theorem s_create (h : Sd B w0 w p [] (St 0 0 false)) : Calls Try.prog 16 #[.pointer (some ⟨p, 0, none⟩), .string ⟨#[102]⟩] w fun e w' => e = .returned (.int .i64 0) ∧ Sd B w0 w' p [([102], [], [])] (St 0 1 false) :=
  h.create (by decide) ⟨#[102]⟩ (str1 102) t_create
theorem s_append (h : Sd B w0 w p [([102], [], [])] (St 0 1 false)) (u : Value) (bs : List Int) (hu : IsB w u bs) (hl : bs.length ≤ 200) (hux : bs ≠ [] → ∀ x ∈ Go.Proofs.Ytahhokhhgamelaa.own u, x < B) : Calls Try.prog 18 #[.pointer (some ⟨p, 0, none⟩), .string ⟨#[102]⟩, u] w fun e w' => e = .returned (.int .i64 0) ∧ Sd B w0 w' p [([102], bs, [])] (St (sec bs.length) 2 false) :=
  h.append (by decide) ⟨#[102]⟩ (str1 102) u bs hu (by omega) hux (t_append bs hl)
theorem s_crash {bs : List Int} {v : Int} (h : Sd B w0 w p [([102], bs, [])] (St v 2 false)) (u : Value) (js : List Bool) (hu : IsK w u js) (hl : js.length ≤ 60) (hux : js ≠ [] → ∀ x ∈ Go.Proofs.Ytahhokhhgamelaa.own u, x < B) : Calls Try.prog 35 #[.pointer (some ⟨p, 0, none⟩), u] w fun e w' => e = .returned (.tuple #[]) ∧ Sd B w0 w' p [([102], TT js bs, TT js bs)] (St (sec (TT js bs).length) 2 true) :=
  h.crash (by simp only [St]; omega) u js hu hux (by omega) (t_crash js bs v 2)
theorem s_restart {T : List Int} {v : Int} (h : Sd B w0 w p [([102], T, T)] (St v 2 true)) : Calls Try.prog 37 #[.pointer (some ⟨p, 0, none⟩)] w fun e w' => e = .returned (.tuple #[]) ∧ Sd B w0 w' p [([102], T, T)] (St v 2 false) := h.restart
theorem s_size {T : List Int} {v : Int} (h : Sd B w0 w p [([102], T, T)] (St v 2 false)) : Calls Try.prog 24 #[.pointer (some ⟨p, 0, none⟩), .string ⟨#[102]⟩] w fun e w' => e = .returned (.tuple #[.int .i64 (T.length : Int), .int .i64 0]) ∧ Sd B w0 w' p [([102], T, T)] (St v 3 false) :=
  h.size (by simp only [St]; omega) ⟨#[102]⟩ (str1 102) (by rfl) (by rfl)
/-- All of the file is read; what was read is held beside the disk. -/
theorem s_read {T : List Int} {v : Int} (h : Sd B w0 w p [([102], T, T)] (St v 3 false)) : Calls Try.prog 22 #[.pointer (some ⟨p, 0, none⟩), .string ⟨#[102]⟩, .int .i64 0, .int .i64 (T.length : Int)] w fun e w' => ∃ x, e = .returned (.tuple #[x, .int .i64 0]) ∧ RowB w' x T ∧
    ∃ fp, Outc w' w' fp p ([([102], T, T)], St v 4 false) ∧ Below B w0 w' ∧ (∀ y ∈ fp, B ≤ y) ∧ B ≤ w'.heap.size ∧ ∀ y ∈ Go.Proofs.Ytahhokhhgamelaa.own x, y ∉ fp := by
  obtain ⟨fp, d, b, ff, hB⟩ := h
  refine (d.read (by simp only [St]; omega) ⟨#[102]⟩ (str1 102) (x := ([102], T, T)) (by rfl) (by rfl) 0 T.length (by simp)).mono ?_
  rintro e w' ⟨x, rfl, r, fp', d', k', n', o'⟩
  refine ⟨x, rfl, by simpa using r, fp', ⟨fp', d', Kept.refl _ _, Newly.refl _ _⟩, b.trans (k'.below hB ff), fun y hy => ?_, Nat.le_trans hB k'.size, fun y hy => (o' y hy).2⟩
  rcases n' y hy with h1 | h1
  · exact ff y h1
  · omega
end

theorem outc_run {w w1 : World} {fp : List Nat} {p : Nat} {A C : List Ab × Ds} {f : Nat} {args : Array Value} {r : Ending} (h : Outc w1 w fp p A) (k : ∀ fp1, Dk w fp1 p A.1 A.2 → Calls Try.prog f args w fun e w3 => e = r ∧ Outc w w3 fp1 p C) : Calls Try.prog f args w fun e w3 => e = r ∧ Outc w1 w3 fp p C := by
  obtain ⟨fp1, d, k1, n1⟩ := h
  refine (k fp1 d).mono ?_
  rintro e w3 ⟨rfl, fp2, d2, k2, n2⟩
  exact ⟨rfl, fp2, d2, k1.trans k2 n1, n1.trans n2 k1.size⟩
theorem o_size {w w1 : World} {fp : List Nat} {p : Nat} {T : List Int} {v : Int} (h : Outc w1 w fp p ([([102], T, T)], St v 2 false)) : Calls Try.prog 24 #[.pointer (some ⟨p, 0, none⟩), .string ⟨#[102]⟩] w fun e w' => e = .returned (.tuple #[.int .i64 (T.length : Int), .int .i64 0]) ∧ Outc w1 w' fp p ([([102], T, T)], St v 3 false) :=
  outc_run h fun fp1 d => d.size (by simp only [St]; omega) ⟨#[102]⟩ (str1 102)
theorem o_read {w w1 : World} {fp : List Nat} {p : Nat} {T : List Int} {v : Int} (h : Outc w1 w fp p ([([102], T, T)], St v 3 false)) : Calls Try.prog 22 #[.pointer (some ⟨p, 0, none⟩), .string ⟨#[102]⟩, .int .i64 0, .int .i64 (T.length : Int)] w fun e w' => ∃ x, e = .returned (.tuple #[x, .int .i64 0]) ∧ RowB w' x T ∧ Kept fp w1 w' := by
  obtain ⟨fp1, d, k1, n1⟩ := h
  refine (d.read (by simp only [St]; omega) ⟨#[102]⟩ (str1 102) (x := ([102], T, T)) (by rfl) (by rfl) 0 T.length (by simp)).mono ?_
  rintro e w' ⟨x, rfl, r, fp', d', k', n', o'⟩
  exact ⟨x, rfl, by simpa using r, k1.trans k' n1⟩
theorem zs0_snoc (r : Nat) : zs0 r ++ [0] = zs0 (r + 1) := by simp [zs0, List.replicate_succ']
/-- Nothing is synced: no sector is as it was. -/
theorem same_nil (now : List Int) (a b : Nat) (h : a < b) : sameB now [] a b = false := by
  have : ¬ b ≤ 0 := by omega
  simp [sameB]
  omega
theorem tear_next (js : List Bool) (bs : List Int) (j : Nat) (rest : List Int) (h : tearTo js bs [] 0 j = (rest, j)) (hj : 16 * j < bs.length) :
    tearTo js bs [] 0 (j + 1) = if staysB js j then (over rest (16 * j) (seg bs (16 * j) (min (16 * j + 16) bs.length)), j + 1) else (rest, j + 1) := by
  rw [tearTo, same_nil bs _ _ (by omega), h]
  rfl
theorem over_app (rest : List Int) (a : Nat) (xs : List Int) (h : rest.length ≤ a) : over rest a xs = rest ++ List.replicate (a - rest.length) 0 ++ xs := by
  have e : a + xs.length - rest.length = (a - rest.length) + xs.length := by omega
  have e1 : rest ++ List.replicate (a + xs.length - rest.length) (0 : Int) = (rest ++ List.replicate (a - rest.length) 0) ++ List.replicate xs.length 0 := by rw [e, ← List.replicate_append_replicate, List.append_assoc]
  have e2 : (rest ++ List.replicate (a - rest.length) (0 : Int)).length = a := by simp; omega
  have e3 : (rest ++ List.replicate (a - rest.length) (0 : Int) ++ List.replicate xs.length 0).drop (a + xs.length) = [] := List.drop_of_length_le (by simp; omega)
  unfold over
  rw [e1, List.take_left' e2, e3, List.append_nil]
theorem tear_len (js : List Bool) (bs : List Int) (j : Nat) (hj : 16 * j < bs.length + 16) : (tearTo js bs [] 0 j).1.length ≤ 16 * j := by
  induction j with
  | zero => simp [tearTo]
  | succ j ih =>
    have ih := ih (by omega)
    have e := seg_length bs (16 * j) (min (16 * j + 16) bs.length) (by omega)
    unfold tearTo
    split
    · omega
    · split
      · simp only [over_length, e]
        omega
      · simp only
        omega
/-- What is wanted, so far, beside a disk that stays. -/
structure WSt (w0 w : World) (v : Value) (rest : List Int) : Prop where
  row : RowB w v rest
  fresh : ∀ x ∈ Go.Proofs.Ytahhokhhgamelaa.own v, w0.heap.size ≤ x
  bel : Below w0.heap.size w0 w
theorem WSt.turn {w0 w w2 w3 : World} {v v2 : Value} {rest rest2 : List Int} (h : WSt w0 w v rest) (hb : Below w.heap.size w w2) (hr : RowB w3 v2 rest2) (hk : Kept (Go.Proofs.Ytahhokhhgamelaa.own v) w2 w3) (hn : Newly w2 (Go.Proofs.Ytahhokhhgamelaa.own v) (Go.Proofs.Ytahhokhhgamelaa.own v2)) : WSt w0 w3 v2 rest2 := by
  have hs := h.bel.size
  have hs2 := hb.size
  refine ⟨hr, fun x hx => ?_, (h.bel.trans (hb.mono hs)).trans (hk.below (by omega) h.fresh)⟩
  rcases hn x hx with h1 | h1
  · exact h.fresh x h1
  · omega
theorem one0 (w : World) : IsB (w.alloc (.cells #[.int .u8 0] 5)) (.slice (some ⟨w.heap.size, 0, none⟩) 1 1) [0] := by
  refine ⟨_, 1, rfl, by simp, by simp, fun x hx j hj => ?_, by simp⟩
  simp only [Option.some.injEq] at hx
  subst hx
  obtain rfl : j = 0 := by simpa using hj
  simp [Addr.add]

/-! ### The walk -/
set_option maxRecDepth 100000 in
set_option maxHeartbeats 8000000 in
theorem walk (a0 : Option Addr) (len0 cap0 : Nat) (z0 : List Int) (a1 : Option Addr) (len1 cap1 : Nat) (ks1 : List Bool) (w : World) (w0 : IsRow .u8 w a0 len0 cap0 z0) (i1 : IsK w (.slice a1 len1 cap1) ks1) (l1 : ks1.length = len1) (c1 : len1 ≤ cap1) :
    Calls Try.prog 10 #[.slice a0 len0 cap0, .slice a1 len1 cap1] w fun e w' => e = .returned (.bool true) ∧ Below w.heap.size w w' := by
  obtain ⟨m, bs, hm0, hI, hL, hp1, hp2, hlc0⟩ := cut_min w0 200 200 rfl
  obtain ⟨m1, js1, hm1, hK1, hjl, hj60, hq1, hc1⟩ := cutK i1 l1 c1
  have hbl : bs.length ≤ 200 := by omega
  have HI := hide hI
  have HBL := hide hbl
  have HLB := hide hL
  have HK1 := hide hK1
  have HJL := hide hjl
  have hl1' : js1.length ≤ 60 := by omega
  have HL1 := hide hl1'
  have HUX : Hid (bs ≠ [] → ∀ x ∈ Go.Proofs.Ytahhokhhgamelaa.own (.slice a0 m cap0), x < w.heap.size) := fun hne => hI.lt hne
  have HU1 : Hid (js1 ≠ [] → ∀ x ∈ Go.Proofs.Ytahhokhhgamelaa.own (.slice a1 m1 cap1), x < w.heap.size) := fun hne => hK1.lt hne
  have SH := hide (shown_any w)
  clear w0 i1 l1 hI hL hbl hK1 hl1' hjl
  go_enter Try.func10, Try.ntmps10
  go_wp2_with (go_at_call 12; refine SH.out.mono ?_; rintro e w1 ⟨rfl, b1'⟩; have B1 := hide b1'; clear b1')
  have NW := hide (Sd.new (B := w.heap.size) (w0 := w) 100 (by omega) w1 B1.out B1.out.size)
  refine NW.out.mono ?_
  rintro e w2 ⟨rfl, d2⟩
  have D2 : Hid (Sd w.heap.size w w2 (w1.heap.size + 1) [] (St 0 0 false)) := d2
  clear d2 NW
  obtain ⟨p, hp⟩ : ∃ p, p = w1.heap.size + 1 := ⟨_, rfl⟩
  rw [← hp] at D2 ⊢
  clear hp
  go_wp2_with (go_at_call 16; refine (s_create D2.out).mono ?_; rintro e w3 ⟨rfl, d3⟩; have D3 := hide d3; clear d3)
  go_wp2_with (go_at_call 18; refine (s_append D3.out (.slice a0 m cap0) bs (HI.out.below D3.out.bel) HBL.out HUX.out).mono ?_; rintro e w4 ⟨rfl, d4⟩; have D4 := hide d4; clear d4)
  go_wp2_with (go_at_call 35; refine (s_crash D4.out (.slice a1 m1 cap1) js1 (HK1.out.below D4.out.bel) HL1.out HU1.out).mono ?_; rintro e w5 ⟨rfl, d5⟩; have D5 := hide d5; clear d5)
  refine (s_restart D5.out).mono ?_
  rintro e w7 ⟨rfl, d7⟩
  have D7 := hide d7
  have ST0 : Hid (WSt w7 (w7.alloc (.cells #[] 5)) (.slice (some ⟨w7.heap.size, 0, none⟩) 0 0) []) := ⟨(OwnB.empty w7 0 (Nat.zero_le _)).rowB, own_new, (Below.refl _ w7).alloc (Nat.le_refl _) _⟩
  clear d7
  go_wp2
  go_loopw [7, 8] (fun v i wr => ∃ (j : Nat) (rest : List Int), 16 * j < m + 16 ∧ i = .int .i64 (j : Int) ∧ Hid (tearTo js1 bs [] 0 j = (rest, j)) ∧ Hid (WSt w7 wr v rest)) (fun _ i _ => m + 16 - 16 * (intOf i).toNat)
  case atStart => exact ⟨0, [], by omega, rfl, rfl, ST0⟩
  case round =>
    obtain ⟨j, rest, hj, rfl, HT, HW⟩ := hrel
    obtain ⟨wo, hwo⟩ : ∃ wo, wo = wr := ⟨_, rfl⟩
    subst hwo
    have HRL : Hid (rest.length ≤ 16 * j) := by
      have e := tear_len js1 bs j (by rw [HLB.out]; omega)
      rw [HT.out] at e
      exact e
    obtain ⟨va, vc, rfl, _⟩ := HW.out.row.isB.form
    by_cases hlt : 16 * j < m
    · obtain ⟨bb, boff, bcap, hbe, hbc, _⟩ := HI.out.opened (by rw [HLB.out]; omega)
      simp only [Value.slice.injEq] at hbe
      obtain ⟨rfl, hmm, rfl⟩ := hbe
      clear hmm
      rw [HLB.out] at hbc
      obtain ⟨a, ha⟩ : ∃ a, a = 16 * j := ⟨_, rfl⟩
      have hai : 16 * (j : Int) = (a : Int) := by omega
      obtain ⟨en, hen⟩ : ∃ en, en = min (a + 16) m := ⟨_, rfl⟩
      have hmin : ∀ (ts : Array TypeId) (t : TypeId) (W : World), (Builtin.min_ ts t #[.int .i64 ((a : Int) + 16), .int .i64 (m : Int)]).run Try.prog W = .ok (.int .i64 (en : Int)) W := by
        intro ts t W
        rw [run_min_int2]
        congr 2
        split <;> omega
      have hae : a < en := by omega
      have heL : en ≤ m := by omega
      have HTN := tear_next js1 bs j rest HT.out (by rw [HLB.out]; exact hlt)
      rw [HLB.out, ← ha, ← hen] at HTN
      have ham : a < m := by omega
      have ham2 : a < m + 16 := by omega
      have hjl2 : j ≤ 100 := by omega
      have HA := hide ha
      have HEN := hide hen
      have hnext : 16 * (j + 1) < m + 16 := by omega
      have HNX := hide hnext
      have hms : m + 16 - 16 * (j + 1) < m + 16 - 16 * j := by omega
      have HMS := hide hms
      clear ha hen hnext hms
      by_cases hk : j < m1
      · obtain ⟨kb, koff, hka, hkc⟩ : ∃ kb koff, a1 = some ⟨kb, koff, none⟩ ∧ ∀ wr, Below w7.heap.size w7 wr → wr.cell? ⟨kb, koff + j, none⟩ = some (.bool (staysB js1 j)) := by
          obtain ⟨a', c', he, h1, h2, h3⟩ := HK1.out
          simp only [Value.slice.injEq] at he
          obtain ⟨rfl, _, rfl⟩ := he
          have hjj : j < js1.length := by rw [HJL.out]; exact hk
          cases a1 with
          | none => rw [(h2 rfl).1] at hjj; simp at hjj
          | some x =>
            have hx := h3 x rfl j hjj
            have hspot : x.spot = none := by
              have := World.cell?_spot (h3 x rfl 0 (by omega))
              simpa [Addr.add] using this
            obtain ⟨b, off, sp⟩ := x
            simp only at hspot
            subst hspot
            rw [Addr.add_lit] at hx
            refine ⟨b, off, rfl, fun wr hb => ?_⟩
            have hB := D7.out.bel.trans (hb.mono D7.out.base)
            exact (hB.cell (p := ⟨b, off + j, none⟩) (World.block_lt_of_cell? w _ hx)).trans hx
        subst hka
        have n1 := hkc wo HW.out.bel
        have hki : (j : Int) < (m1 : Int) := by omega
        cases hst : staysB js1 j with
        | false =>
          rw [hst] at n1 HTN
          have HT2 := hide HTN
          clear HTN hkc hst
          go_wp2
          go_roundw
          case rel => exact ⟨j + 1, rest, HNX.out, by go_num, HT2, HW⟩
          case measure => simp [intOf]; have := HMS.out; omega
        | true =>
          rw [hst, if_pos rfl] at HTN
          rw [hst] at n1
          have HT2 := hide HTN
          clear HTN hkc hst
          have hlw : rest.length ≤ 1000 := by have := HRL.out; omega
          go_wp2
          go_loopw [7] (fun v wi => ∃ (r : Nat) (xa : Option Addr) (xc : Nat), rest.length + r ≤ a ∧ v = .slice xa (rest.length + r) xc ∧ Hid (WSt w7 wi (.slice xa (rest.length + r) xc) (rest ++ zs0 r))) (fun v _ => a - (match v with | .slice _ l _ => l | _ => 0))
          case atStart => exact ⟨0, va, vc, by have := HRL.out; have := HA.out; omega, rfl, by show WSt w7 wo (.slice va (rest.length + 0) vc) (rest ++ zs0 0); simpa [zs0] using HW.out⟩
          case round =>
            obtain ⟨r, xa, xc, hr, rfl, HWi⟩ := hrel
            by_cases h2 : rest.length + r < a
            · have h2i : ((rest.length + r : Nat) : Int) < (a : Int) := by omega
              have row2 := hide ((HWi.out.row).kept (Kept.of_below (fp := []) ((Below.refl _ wr).alloc (Nat.le_refl _) (.cells #[.int .u8 0] 5))) (by simp))
              have hln : (rest ++ zs0 r).length + [(0 : Int)].length ≤ 1099511627776 := by simp [zs0_length]; omega
              have HLN := hide hln
              clear hln
              go_wp2_with (at_builtin; refine wp_appendR _ rfl _ _ rfl (.slice xa (rest.length + r) xc) (.slice (some ⟨wr.heap.size, 0, none⟩) 1 1) (rest ++ zs0 r) [0] rfl row2.out rfl (one0 wr) HLN.out ?_; intro v3 w3 r3 k3 n3 _; have W3 := hide (HWi.out.turn ((Below.refl _ wr).alloc (Nat.le_refl _) _) r3 k3 n3); rw [List.append_assoc, zs0_snoc] at r3 W3; obtain ⟨ya, yc, hy, _⟩ := r3.isB.form; rw [List.length_append, zs0_length] at hy; subst hy; clear r3 k3 n3)
              go_roundw
              case rel => exact ⟨r + 1, ya, yc, by omega, rfl, W3⟩
              case measure => simp; omega
            · have h2i : ¬ ((rest.length + r : Nat) : Int) < (a : Int) := by omega
              have hra : a - rest.length = r := by omega
              have hz : ¬ cap0 = a := by omega
              have hi1 : (a : Int) ≤ (en : Int) := by omega
              have hi2 : (en : Int) ≤ (cap0 : Int) := by omega
              have hsl : (seg bs a en).length = en - a := seg_length _ _ _ (by rw [HLB.out]; exact heL)
              have hln : (rest ++ zs0 r).length + (seg bs a en).length ≤ 1099511627776 := by rw [hsl, List.length_append, zs0_length]; omega
              have HLN := hide hln
              have HRA := hide hra
              have HRE := hide hr
              have hIS : Hid (IsB wr (.slice (some ⟨bb, boff + a, none⟩) (en - a) (cap0 - a)) (seg bs a en)) := (HI.out.below (D7.out.bel.trans (HWi.out.bel.mono D7.out.base))).mid a (en - a) (by omega)
              clear hln hra hsl
              go_wp2_with (at_builtin; refine wp_appendR _ rfl _ _ rfl (.slice xa (rest.length + r) xc) (.slice (some ⟨bb, boff + a, none⟩) (en - a) (cap0 - a)) (rest ++ zs0 r) (seg bs a en) rfl HWi.out.row rfl hIS.out HLN.out ?_; intro v3 w3 r3 k3 n3 _; have W3 := hide (HWi.out.turn (Below.refl _ wr) r3 k3 n3); clear r3 k3 n3)
              have W4 : Hid (WSt w7 w3 v3 (over rest a (seg bs a en))) := by
                have e := over_app rest a (seg bs a en) (by have := HRE.out; omega)
                have h4 := W3.out
                rw [e, HRA.out]
                exact h4
              go_roundw
              case rel => exact ⟨j + 1, _, HNX.out, by go_num, HT2, W4⟩
              case measure => simp [intOf]; have := HMS.out; omega
      · have hst : staysB js1 j = false := by
          unfold staysB
          rw [List.getElem?_eq_none (by rw [HJL.out]; omega)]
          rfl
        rw [hst] at HTN
        have HT2 := hide HTN
        have hki : ¬ (j : Int) < (m1 : Int) := by omega
        clear HTN hst
        go_wp2
        go_roundw
        case rel => exact ⟨j + 1, rest, HNX.out, by go_num, HT2, HW⟩
        case measure => simp [intOf]; have := HMS.out; omega
    · have hTT : TT js1 bs = rest := by
        unfold TT tearB
        have hJ : (bs.length + 15) / 16 = j := by rw [HLB.out]; omega
        rw [hJ, HT.out]
      have hge : ¬ 16 * (j : Int) < (m : Int) := by omega
      have d7 := D7.out
      rw [hTT] at d7
      obtain ⟨fp, dk, bl, ff, hB⟩ := d7
      have hlt7 := dk.lt
      have O0 : Hid (Outc wo wo fp p ([([102], rest, rest)], St (sec rest.length) 2 false)) := ⟨fp, dk.below HW.out.bel, Kept.refl _ _, Newly.refl _ _⟩
      have HFF := hide ff
      have HB7 := hide hB
      have HXF : Hid (∀ y ∈ Go.Proofs.Ytahhokhhgamelaa.own (.slice va rest.length vc), y ∉ fp) := fun y hy e => by
        have h1 := HW.out.fresh y hy
        have h2 := hlt7 y e
        omega
      clear dk bl ff hB hlt7 hTT
      go_wp2_with (go_at_call 24; refine (o_size O0.out).mono ?_; rintro e w8 ⟨rfl, o8⟩; have O8 := hide o8; clear o8)
      go_wp2_with (go_at_call 22; refine (o_read O8.out).mono ?_; rintro e w9 ⟨y, rfl, r9, k9⟩; obtain ⟨ya, yc, rfl, _⟩ := r9.isB.form; have cx := conv_isB ((HW.out.row.kept k9 HXF.out).isB); have cy := conv_isB r9.isB; have K9 := hide k9; clear r9 k9)
      go_ret
      have b1 := D7.out.bel.trans (HW.out.bel.mono D7.out.base)
      exact ⟨rfl, b1.trans (K9.out.below b1.size HFF.out)⟩

/-! ### The row's step -/
set_option maxRecDepth 100000 in
theorem lifted (os : Os) (started : os.Started) (H : Type) (enc : TypeId × Value → H) :
    ReturnsInHanded {} Try.checked os 10 .any (Rows.diskTornSpec.pre6 enc Try.prog Try.f10 Rows.diskTornRow.domain false) (Rows.diskTornSpec.post enc Try.prog Try.f10 false true false false) := by
  refine returnsInHanded_of_change (C := Try.checked) own started (by kernel_rfl) Try.func10
    (ChangeSpec.witness6 (enc := enc) (C := Try.checked) false ⟨#[], #[.slice none 0 0, .slice none 0 0], []⟩ 8 (by kernel_rfl) (by kernel_rfl) (by kernel_rfl) (by kernel_rfl)) ?_
  intro W base args ds gs before hval0 hW hcnd _
  have hval : ∀ (j : Nat) t v, Try.f10.params[j]? = some t → args[j]? = some v → Value.okWide Try.prog W .any base t v := hval0
  have hW' := hW
  obtain ⟨p, q, hA0, hV, rfl, hfz, hnd⟩ := hW
  have hA : DataW.TrodAll enc Try.prog W 0 (fun _ => true) true Try.f10.params.toList args.toList ds p := hA0
  rw [Try.params10] at hA hval
  obtain ⟨v0, vs0, d0, ds0, p0, q0, hargs, rfl, rfl, h0, r0⟩ := trodAll_cons hA
  obtain ⟨v1, vs1, d1, ds1, p1, q1, rfl, rfl, rfl, h1, r1⟩ := trodAll_cons r0
  obtain ⟨rfl, rfl, rfl⟩ := trodAll_nil r1
  obtain rfl : args = #[v0, v1] := by cases args; simp_all
  obtain ⟨rfl, rfl⟩ := trodVars_none hV
  obtain ⟨a0, len0, cap0, rfl⟩ := okWide_slice Try.underlying28 (hval 0 28 v0 rfl rfl)
  have k0 := h0
  have lt0 : ∀ x ∈ p0, x.block < W.heap.size := by obtain ⟨m, hm⟩ := k0; exact DataW.trod_lt m _ _ _ hm
  obtain ⟨z0, w0⟩ : ∃ zs, IsRow .u8 W a0 len0 cap0 zs := by
    obtain ⟨fuel, hf⟩ := h0
    rcases open_ints Try.underlying28 Try.underlying5 (by kernel_rfl) hf with ⟨hcs, _⟩ | ⟨x, l, c, zs, hcs, _, hl, hm, hz, _, hcell, hwz⟩
    · simp [Value.cells] at hcs
      obtain ⟨rfl, rfl, rfl⟩ := hcs
      exact ⟨[], .inl ⟨rfl, rfl, rfl, rfl⟩⟩
    · simp [Value.cells] at hcs
      obtain ⟨rfl, rfl, rfl⟩ := hcs
      exact ⟨zs, .inr ⟨_, rfl, hl, hm, by simpa using hz, hcell, hwz⟩⟩
  obtain ⟨a1, len1, cap1, rfl⟩ := okWide_slice Try.underlying29 (hval 1 29 v1 rfl rfl)
  have k1 := h1
  have lt1 : ∀ x ∈ p1, x.block < W.heap.size := by obtain ⟨m, hm⟩ := k1; exact DataW.trod_lt m _ _ _ hm
  obtain ⟨ks1, i1, l1, c1⟩ : ∃ ks, IsK W (.slice a1 len1 cap1) ks ∧ ks.length = len1 ∧ len1 ≤ cap1 := by
    obtain ⟨fuel, hf⟩ := h1
    rcases Go.Deep.open_bools Try.underlying29 Try.underlying4 (by kernel_rfl) hf with ⟨hcs, _⟩ | ⟨x, l, c, B, hcs, _, hl, hm, _, hcell⟩
    · simp [Value.cells] at hcs
      obtain ⟨rfl, rfl, rfl⟩ := hcs
      exact ⟨[], IsK.nil W, rfl, Nat.le_refl _⟩
    · simp [Value.cells] at hcs
      obtain ⟨rfl, rfl, rfl⟩ := hcs
      refine ⟨(List.range len1).map B, ⟨some x, cap1, by simp, by simp; exact hl, by simp, fun y hy i hi => ?_⟩, by simp, hl⟩
      simp at hy hi
      subst hy
      rw [hcell i (by omega)]
      simp [hi]
  clear hA0 hval0
  refine (walk a0 len0 cap0 z0 a1 len1 cap1 ks1 W w0 i1 l1 c1).mono fun e W' ⟨he, bel⟩ => ?_
  subst he
  exact ⟨_, rfl, _, _, _, [], _, [], hW', trodAll_mk1 (shut_bool Try.underlying4 _), (trodAll_cons_mk (Below.trod laidOut (by kernel_rfl) (of_decide_eq_true (by kernel_rfl)) k0 bel lt0) (trodAll_cons_mk (Below.trod laidOut (by kernel_rfl) (of_decide_eq_true (by kernel_rfl)) k1 bel lt1) trodAll_mk0)), rfl, bel.frame _, fun h => by cases h⟩

theorem over : Rows.diskTornRow.holds Try.pinned (OpenSpec.ofChange Rows.diskTornSpec) :=
  OpenClaim.holds_of_wide 10 Try.f10 rfl rfl rfl rfl rfl rfl rfl ⟨rfl, rfl, rfl, rfl, rfl⟩ rfl rfl rfl rfl rfl (by kernel_rfl) Try.func10 (by kernel_rfl)
    (of_decide_eq_true (by kernel_rfl)) (by unfold Func.isWrapper; first | (rw [if_pos (by decide +kernel)]; kernel_rfl) | (rw [if_neg (by decide +kernel)]; exact ⟨rfl, rfl⟩))
    (fun os started H enc _ => lifted os started H enc)

/-- The statement. -/
theorem proved : Rows.DiskTornSaid := over
#print axioms proved
end Go.Proofs.Ytahhokhhgamelaa.diskTorn
