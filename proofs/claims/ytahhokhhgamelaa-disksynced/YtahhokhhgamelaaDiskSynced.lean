/-
  Proved: for all bytes, all slices of slices of bytes and all truths, DiskSynced returns true and leaves them as they were (what was synced stays, whatever is kept of what came behind it; each byte behind is as it was written, or 0). No condition.
-/
import Derived.WalkKit
import Derived.ProofKit
import Derived.OpenShut
import Derived.ShutString
import Derived.Deep.Grids
import Derived.Deep.RegionHeld
import Derived.Test.YtahhokhhgamelaaDKeeps
namespace Go.Proofs.Ytahhokhhgamelaa.diskSynced
open Go.ChangeShapes Go.WideShapes Go.ChangeAt Go.RowKit
open Go.ChangeMaps (open_string shut_string)
set_option linter.unusedVariables false

theorem own : ownKnob Try.prog.godebug = none := by kernel_rfl
theorem laidOut : laidOutB Try.prog = true := by kernel_rfl

/-- WHAT THE WALK IS TOLD OF A SLICE OF INTEGERS THAT CAME IN. -/
def IsRow (k : IntKind) (w : World) (a : Option Addr) (len cap : Nat) (zs : List Int) : Prop :=
  (a = none ∧ len = 0 ∧ cap = 0 ∧ zs = []) ∨
  ∃ x, a = some x ∧ len ≤ cap ∧ cap ≤ maxLen ∧ zs.length = cap ∧ (∀ i, i < zs.length → w.cell? (x.add i) = some (.int k (zs.getD i 0))) ∧ ∀ n ∈ zs, (Lit.int k n).wf = true

theorem isB_of {w : World} {a : Option Addr} {len cap : Nat} {zs : List Int} (h : IsRow .u8 w a len cap zs) : IsB w (.slice a len cap) (zs.take len) ∧ (zs.take len).length = len ∧ len ≤ cap := by
  rcases h with ⟨rfl, rfl, rfl, rfl⟩ | ⟨x, rfl, hl, hm, hz, hc, hw⟩
  · exact ⟨IsB.nil w, rfl, Nat.le_refl _⟩
  · have e : (zs.take len).length = len := by simp; omega
    refine ⟨⟨_, cap, by rw [e], by omega, by simp, fun y hy j hj => ?_, fun z hz => ?_⟩, e, hl⟩
    · simp only [Option.some.injEq] at hy
      subst hy
      rw [hc j (by omega), List.getElem?_take_of_lt (by omega)]
      rfl
    · have := hw z (List.mem_of_mem_take hz)
      exact bounds_u8 this

/-- What is left of a slice that is cut to at most m bytes. -/
theorem cut_to {w : World} {a : Option Addr} {len cap : Nat} {zs : List Int} (h : IsRow .u8 w a len cap zs) (m : Nat) (hm : m ≤ len) : ∃ bs, IsB w (.slice a m cap) bs ∧ bs.length = m := by
  obtain ⟨h1, h2, h3⟩ := isB_of h
  exact ⟨_, h1.take m hm, by simp only [List.length_take, h2]; omega⟩

/-- The same, the length named: as the walk reckons it. -/
theorem cut_min {w : World} {a : Option Addr} {len cap : Nat} {zs : List Int} (h : IsRow .u8 w a len cap zs) (k : Nat) (K : Int) (hK : K = (k : Int)) :
    ∃ (m : Nat) (bs : List Int), (∀ (ts : Array TypeId) (t : TypeId) (w : World), (Builtin.min_ ts t #[.int .i64 (len : Int), .int .i64 K]).run Try.prog w = .ok (.int .i64 (m : Int)) w) ∧ IsB w (.slice a m cap) bs ∧ bs.length = m ∧ m ≤ len ∧ m ≤ k ∧ m ≤ cap := by
  obtain ⟨h1, h2, h3⟩ := isB_of h
  refine ⟨min len k, _, fun ts t w => ?_, h1.take (min len k) (by omega), by simp only [List.length_take, h2]; omega, by omega, by omega, by omega⟩
  rw [run_min_int2, hK]
  congr 2
  split <;> omega

theorem cutK {w : World} {a : Option Addr} {len cap : Nat} {ks : List Bool} (h : IsK w (.slice a len cap) ks) (hl : ks.length = len) (hc : len ≤ cap) :
    ∃ (m : Nat) (js : List Bool), (∀ (ts : Array TypeId) (t : TypeId) (w : World), (Builtin.min_ ts t #[.int .i64 (len : Int), .int .i64 60]).run Try.prog w = .ok (.int .i64 (m : Int)) w) ∧ IsK w (.slice a m cap) js ∧ js.length = m ∧ m ≤ 60 ∧ m ≤ len ∧ m ≤ cap := by
  refine ⟨min len 60, ks.take (min len 60), fun ts t w => ?_, ?_, by rw [List.length_take]; omega, by omega, by omega, by omega⟩
  · rw [run_min_int2]
    congr 2
    split <;> omega
  · obtain ⟨a', c', he, h1, h2, h3⟩ := h
    simp only [Value.slice.injEq] at he
    obtain ⟨rfl, rfl, rfl⟩ := he
    have e : (ks.take (min ks.length 60)).length = min ks.length 60 := by rw [List.length_take]; omega
    refine ⟨a, cap, by rw [e], by rw [e]; omega, fun hn => ?_, fun x hx j hj => ?_⟩
    · rw [(h2 hn).1]
      exact ⟨by simp, (h2 hn).2⟩
    · rw [e] at hj
      rw [h3 x hx j (by omega), List.getElem?_take_of_lt hj]

def S4 (used ops : Int) (down : Bool) : Ds := { room := 1000, used := used, ops := ops, down := down, left := 0, keep := [] }
theorem t_create : createA (beginA [] (S4 0 0 false)) [102] = (0, ([([102], [], [])], S4 0 1 false)) := by rfl
theorem t_append (now syn cs : List Int) (o : Int) (hn : now.length ≤ 700) (hc : cs.length ≤ 60) : appendA (beginA [([102], now, syn)] (S4 (sec now.length) o false)) [102] cs = (0, ([([102], now ++ cs, syn)], S4 (sec (now ++ cs).length) (o + 1) false)) := by
  show writeA [([102], now, syn)] (S4 (sec now.length) (o + 1) false) ([102], now, syn) (now.length : Int) cs = _
  unfold writeA
  have h0 : moreA now ((now.length : Int)).toNat cs = sec (now ++ cs).length - sec now.length := by rw [Int.toNat_natCast, moreA, Nat.max_eq_right (by omega), List.length_append]
  have hp : putA now ((now.length : Int)).toNat cs = now ++ cs := by rw [Int.toNat_natCast, putA, List.take_of_length_le (Nat.le_refl _), List.drop_of_length_le (by omega), List.append_nil]
  have h1 : sec (now ++ cs).length ≤ 60 := by rw [List.length_append]; unfold sec; omega
  have h2 := sec_nonneg now.length
  rw [if_neg (by simp), h0, hp, if_neg (by simp only [S4]; omega)]
  have e : sec now.length + (sec (now ++ cs).length - sec now.length) = sec (now ++ cs).length := by omega
  simp only [setA, S4, List.map_cons, List.map_nil, e]
  simp
theorem t_crash (js : List Bool) (now syn : List Int) (u k : Int) : crashA js [([102], now, syn)] (S4 u k false) = ([([102], (tearB js now syn 0).1, (tearB js now syn 0).1)], S4 (sec (tearB js now syn 0).1.length) k true) := by
  unfold crashA
  rw [if_neg (by simp [S4])]
  simp [torn, usedB, S4]
section
variable {B : Nat} {w0 w : World} {p : Nat} {now syn : List Int} {u o : Int}
theorem s_sync (h : Sd B w0 w p [([102], now, syn)] (S4 u o false)) (ho : o ≤ 1000) : Calls Try.prog 26 #[.pointer (some ⟨p, 0, none⟩), .string ⟨#[102]⟩] w fun e w' => e = .returned (.int .i64 0) ∧ Sd B w0 w' p [([102], now, now)] (S4 u (o + 1) false) := by
  obtain ⟨fp, d, b, f, hB⟩ := h
  refine (d.sync_ok (by simp only [S4]; omega) ⟨#[102]⟩ (str1 102) (x := ([102], now, syn)) (by rfl) (by rfl)).mono ?_
  rintro e w' ⟨rfl, oc⟩
  exact ⟨rfl, Outc.sd (A := ([([102], now, now)], S4 u (o + 1) false)) (by simpa [setA, beginA, S4] using oc) b f hB⟩
theorem s_size (h : Sd B w0 w p [([102], now, syn)] (S4 u o false)) (ho : o ≤ 1000) : Calls Try.prog 24 #[.pointer (some ⟨p, 0, none⟩), .string ⟨#[102]⟩] w fun e w' => e = .returned (.tuple #[.int .i64 (now.length : Int), .int .i64 0]) ∧ Sd B w0 w' p [([102], now, syn)] (S4 u (o + 1) false) :=
  h.size (by simp only [S4]; omega) ⟨#[102]⟩ (str1 102) (by rfl) (by rfl)
theorem s_read (h : Sd B w0 w p [([102], now, syn)] (S4 u o false)) (ho : o ≤ 1000) (m : Nat) (hm : m ≤ now.length) : Calls Try.prog 22 #[.pointer (some ⟨p, 0, none⟩), .string ⟨#[102]⟩, .int .i64 0, .int .i64 (m : Int)] w fun e w' => ∃ y, e = .returned (.tuple #[y, .int .i64 0]) ∧ RowB w' y (now.take m) ∧ Sd B w0 w' p [([102], now, syn)] (S4 u (o + 1) false) := by
  obtain ⟨fp, d, b, f, hB⟩ := h
  refine (d.read (by simp only [S4]; omega) ⟨#[102]⟩ (str1 102) (x := ([102], now, syn)) (by rfl) (by rfl) 0 m (by simpa using hm)).mono ?_
  rintro e w' ⟨y, rfl, r, fp', d', k', n', o'⟩
  refine ⟨y, rfl, by simpa using r, Outc.sd (A := ([([102], now, syn)], S4 u (o + 1) false)) ⟨fp', by simpa [beginA, S4] using d', k', n'⟩ b f hB⟩
end

/-! ### The walk -/
set_option maxRecDepth 100000 in
set_option maxHeartbeats 2000000 in
theorem walk (a0 : Option Addr) (len0 cap0 : Nat) (z0 : List Int) (a1 : Option Addr) (len1 cap1 : Nat) (bs1 : List (List Int)) (a2 : Option Addr) (len2 cap2 : Nat) (ks2 : List Bool) (w : World) (w0 : IsRow .u8 w a0 len0 cap0 z0) (i1 : IsBB w (.slice a1 len1 cap1) bs1) (l1 : bs1.length = len1) (c1 : len1 ≤ cap1) (m1 : cap1 ≤ maxLen) (i2 : IsK w (.slice a2 len2 cap2) ks2) (l2 : ks2.length = len2) (c2 : len2 ≤ cap2) :
    Calls Try.prog 4 #[.slice a0 len0 cap0, .slice a1 len1 cap1, .slice a2 len2 cap2] w fun e w' => e = .returned (.bool true) ∧ Below w.heap.size w w' := by
  obtain ⟨mb, bs, hm0, hI, hL, hp1, hp2, hlc0⟩ := cut_min w0 60 60 rfl
  obtain ⟨m2, js, hm2, hK, hjl, hj60, hq1, hc2⟩ := cutK i2 l2 c2
  have hbl : bs.length ≤ 60 := by omega
  have hb0 : (0 : Int) ≤ (mb : Int) := by omega
  have hbc : (mb : Int) ≤ (cap0 : Int) := by omega
  have h20 : (0 : Int) ≤ (m2 : Int) := by omega
  have h2c : (m2 : Int) ≤ (cap2 : Int) := by omega
  have HUX : Hid (bs ≠ [] → ∀ x ∈ Go.Proofs.Ytahhokhhgamelaa.own (.slice a0 mb cap0), x < w.heap.size) := fun hne => hI.lt hne
  have HU2 : Hid (js ≠ [] → ∀ x ∈ Go.Proofs.Ytahhokhhgamelaa.own (.slice a2 m2 cap2), x < w.heap.size) := fun hne => hK.lt hne
  have hbb := hI.bytes
  have HBB := hide hbb
  have HI := hide hI
  have HK := hide hK
  have HJL : Hid (js.length ≤ 60) := by show _ ≤ _; omega
  have HL := hide i1
  subst l1
  subst hL
  have SH := hide (shown_any w)
  clear w0 i1 hI hK i2 l2 c2 hbb hjl
  go_enter Try.func4, Try.ntmps4
  go_wp2_with (go_at_call 12; refine SH.out.mono ?_; rintro e w1 ⟨rfl, b1'⟩; have B1 := hide b1'; clear b1')
  have NW := hide (Sd.new (B := w.heap.size) (w0 := w) 1000 (by omega) w1 B1.out B1.out.size)
  refine NW.out.mono ?_
  rintro e w2 ⟨rfl, d2⟩
  have D2 : Hid (Sd w.heap.size w w2 (w1.heap.size + 1) [] (S4 0 0 false)) := d2
  clear d2 NW
  obtain ⟨p, hp⟩ : ∃ p, p = w1.heap.size + 1 := ⟨_, rfl⟩
  rw [← hp] at D2 ⊢
  clear hp
  go_wp2_with fail
  refine (D2.out.create (by decide) ⟨#[102]⟩ (str1 102) t_create).mono ?_
  rintro e w3 ⟨rfl, d3⟩
  have D3 := hide d3
  clear d3
  go_wp2_with fail
  refine (D3.out.append (by decide) ⟨#[102]⟩ (str1 102) _ bs (HI.out.below D3.out.bel) (by omega) HUX.out (t_append [] [] bs 1 (by simp) hbl)).mono ?_
  rintro e w4 ⟨rfl, d4⟩
  have D4 := hide d4
  simp only [List.nil_append] at D4
  clear d4 D2 D3
  go_wp2_with fail
  refine (s_sync D4.out (by omega)).mono ?_
  rintro e w5 ⟨rfl, d5⟩
  have D5 := hide d5
  have c5 := conv_isB (HI.out.below d5.bel)
  clear d5 D4
  go_wp2
  go_loopw [12, 13, 14] (fun al i _ wr => ∃ (k : Nat) (ps : List Int) (sa : ByteArray), k ≤ bs1.length ∧ k ≤ 10 ∧ i = .int .i64 k ∧ ps.length ≤ 60 * k ∧ al = .string sa ∧ Hid (sa = strOfNums (bs ++ ps)) ∧ Hid (∀ z ∈ ps, 0 ≤ z ∧ z ≤ 255) ∧ Hid (Sd w.heap.size w wr p [([102], bs ++ ps, bs)] (S4 (sec (bs ++ ps).length) (3 + (k : Int)) false))) (fun _ i _ _ => 10 - (intOf i).toNat)
  case atStart => exact ⟨0, [], strOfNums bs, Nat.zero_le _, Nat.zero_le _, rfl, by simp, rfl, by simp [Hid], by simp [Hid], by show Sd _ _ _ _ _ _; simpa using D5.out⟩
  case round =>
    obtain ⟨k, ps, sa, hk1, hk10, rfl, hpl, rfl, HSA, HPB, D⟩ := hrel
    have hsas : sa.size ≤ 700 := by rw [HSA.out, strOfNums_size, List.length_append]; omega
    by_cases hlt1 : k < bs1.length
    · by_cases hlt2 : k < 10
      · obtain ⟨b, off, cap', he, _, hc⟩ := HL.out.opened (by omega)
        simp only [Value.slice.injEq, true_and] at he
        obtain ⟨rfl, rfl⟩ := he
        obtain ⟨ta, n, tc, m, cs, hP, hm, hcl, hm60, hmn, hnc, hIs, hux⟩ := piece hc k hlt1 w.heap.size rfl
        have hcd : wr.drew.cell? ⟨b, off + k, none⟩ = some (.slice ta n tc) := hP wr D.out.bel
        have HD := hide (D.out.below (⟨rfl, rfl, rfl, Nat.le_refl _, fun _ _ => rfl⟩ : Below wr.heap.size wr wr.drew))
        have HIs := hide hIs
        have HUX3 := hide hux
        have HCB : Hid (∀ z ∈ cs, 0 ≤ z ∧ z ≤ 255) := (hIs w (Below.refl _ _)).bytes
        have hmc : (m : Int) ≤ tc := by omega
        have hmm0 : (0 : Int) ≤ (m : Int) := by omega
        have hpl2 : (bs ++ ps).length ≤ 700 := by rw [List.length_append]; omega
        clear hc hP hIs hux D
        go_wp2
        go_region_held (fun w' => w'.cell? ⟨b, off + k, none⟩ = some (.slice ta n tc)) (assumption) (fail)
        clear hcd hm
        go_wp2_with fail
        refine (HD.out.append (by simp only [S4]; omega) ⟨#[102]⟩ (str1 102) _ cs (HIs.out _ HD.out.bel) (by omega) HUX3.out (t_append (bs ++ ps) bs cs _ hpl2 (by omega))).mono ?_
        rintro e w6 ⟨rfl, d6⟩
        obtain ⟨sc, hsc⟩ : ∃ sc, sc = strOfNums cs := ⟨_, rfl⟩
        have c6 := conv_isB (HIs.out w6 d6.bel)
        rw [← hsc] at c6
        have hscs : sc.size ≤ 60 := by rw [hsc, strOfNums_size]; omega
        have HSC := hide hsc
        have D6 := hide d6
        clear hsc d6 HD
        go_wp2
        go_roundw
        case rel => exact ⟨k + 1, ps ++ cs, sa ++ sc, by omega, by omega, by go_num, by simp; omega, rfl, by show _ = _; rw [HSA.out, HSC.out, ← strOfNums_append, List.append_assoc], fun z hz => by rcases List.mem_append.1 hz with h | h; exact HPB.out z h; exact HCB.out z h, by
          have h := D6.out
          rw [List.append_assoc, show (3 + (k : Int) + 1) = 3 + ((k + 1 : Nat) : Int) by push_cast; omega] at h
          exact h⟩
        case measure => simp [intOf]; omega
      · go_wp2_with fail
        refine (D.out.crash (by simp only [S4]; omega) (.slice a2 m2 cap2) js (HK.out.below D.out.bel) HU2.out (by have := HJL.out; omega) (t_crash js (bs ++ ps) bs _ _)).mono ?_
        rintro e w7 ⟨rfl, d7⟩
        obtain ⟨T, hT⟩ : ∃ T, T = (tearB js (bs ++ ps) bs 0).1 := ⟨_, rfl⟩
        have hkeep := torn_keeps js bs ps
        rw [← hT] at d7 hkeep
        obtain ⟨k1, k2, k3, k4⟩ := hkeep
        have D7 := hide d7
        have K3 := hide k3
        have K4 := hide k4
        have hsz : sa.size = (bs ++ ps).length := by rw [HSA.out, strOfNums_size]
        have hTs : T.length ≤ sa.size := by omega
        have hTl : T.length ≤ 700 := by omega
        clear d7 hT k3 k4 D k2 hsz
        go_wp2_with fail
        refine (D7.out.restart).mono ?_
        rintro e w8 ⟨rfl, d8⟩
        have D8 : Hid (Sd w.heap.size w w8 p [([102], T, T)] (S4 (sec T.length) (3 + (k : Int)) false)) := d8
        clear d8 D7
        go_wp2_with fail
        refine (s_size D8.out (by omega)).mono ?_
        rintro e w9 ⟨rfl, d9⟩
        have D9 := hide d9
        clear d9 D8
        go_wp2_with fail
        refine (s_read D9.out (by omega) bs.length k1).mono ?_
        rintro e w10 ⟨y, rfl, r10, d10⟩
        rw [K3.out] at r10
        obtain ⟨ya, yc, rfl, _⟩ := r10.isB.form
        obtain ⟨sb, hsb⟩ : ∃ sb, sb = strOfNums bs := ⟨_, rfl⟩
        have cy := conv_isB r10.isB
        have cb := conv_isB (HI.out.below d10.bel)
        rw [← hsb] at cy cb
        have D10 := hide d10
        clear d10 r10 hsb D9
        go_wp2_with fail
        refine (s_read D10.out (by omega) T.length (Nat.le_refl _)).mono ?_
        rintro e w11 ⟨y2, rfl, r11, d11⟩
        rw [List.take_of_length_le (Nat.le_refl _)] at r11
        obtain ⟨xa, xc, rfl, _⟩ := r11.isB.form
        have R11 := hide r11.isB
        have B11 := hide d11.bel
        clear r11 d11 D10 cy cb
        go_wp2
        go_loopw [21] (fun i wr => ∃ q : Nat, bs.length ≤ q ∧ q ≤ T.length ∧ i = .int .i64 q ∧ Hid (Below w11.heap.size w11 wr)) (fun i _ => T.length - (intOf i).toNat)
        case atStart => exact ⟨bs.length, Nat.le_refl _, k1, rfl, Below.refl _ _⟩
        case round =>
          obtain ⟨q, hq1, hq2, rfl, HW⟩ := hrel
          by_cases hq : q < T.length
          · obtain ⟨xb, xoff, xcap, he, _, hcx⟩ := (R11.out.below HW.out).opened (by omega)
            simp only [Value.slice.injEq, true_and] at he
            obtain ⟨rfl, rfl⟩ := he
            have hcell := hcx q hq
            have hk := K4.out q hq1 hq
            have hsx := str_at (bs ++ ps) (fun z hz => by rcases List.mem_append.1 hz with h | h; exact HBB.out z h; exact HPB.out z h) q (by have e := strOfNums_size (bs ++ ps); rw [← HSA.out] at e; omega)
            rw [← HSA.out] at hsx
            obtain ⟨tv, htv⟩ : ∃ tv, tv = T[q]?.getD 0 := ⟨_, rfl⟩
            obtain ⟨uv, huv⟩ : ∃ uv, uv = (bs ++ ps)[q]?.getD 0 := ⟨_, rfl⟩
            rw [← htv] at hcell hk
            rw [← huv] at hsx hk
            clear hcx htv huv
            by_cases hu : tv = uv
            · subst hu
              clear hk
              go_wp2
              go_quiet (fail)
              go_wp2
              go_roundw
              case rel => exact ⟨q + 1, by omega, by omega, by go_num, ⟨HW.out.os, HW.out.tape, HW.out.output, HW.out.size, HW.out.block⟩⟩
              case measure => simp [intOf]; omega
            · have h0 : tv = 0 := by omega
              have hub : (tv == uv) = false := by simpa using hu
              have hub2 : (tv != uv) = true := by simpa using hu
              have hz1 : (tv == 0) = true := by simpa using h0
              have hz2 : (tv != 0) = false := by simpa using h0
              clear hk hu h0
              go_wp2
              go_quiet (fail)
              go_wp2
              go_roundw
              case rel => exact ⟨q + 1, by omega, by omega, by go_num, ⟨HW.out.os, HW.out.tape, HW.out.output, HW.out.size, HW.out.block⟩⟩
              case measure => simp [intOf]; omega
          · go_wp2
            go_ret
            exact ⟨rfl, B11.out.trans (HW.out.mono B11.out.size)⟩
    · go_wp2_with fail
      refine (D.out.crash (by simp only [S4]; omega) (.slice a2 m2 cap2) js (HK.out.below D.out.bel) HU2.out (by have := HJL.out; omega) (t_crash js (bs ++ ps) bs _ _)).mono ?_
      rintro e w7 ⟨rfl, d7⟩
      obtain ⟨T, hT⟩ : ∃ T, T = (tearB js (bs ++ ps) bs 0).1 := ⟨_, rfl⟩
      have hkeep := torn_keeps js bs ps
      rw [← hT] at d7 hkeep
      obtain ⟨k1, k2, k3, k4⟩ := hkeep
      have D7 := hide d7
      have K3 := hide k3
      have K4 := hide k4
      have hsz : sa.size = (bs ++ ps).length := by rw [HSA.out, strOfNums_size]
      have hTs : T.length ≤ sa.size := by omega
      have hTl : T.length ≤ 700 := by omega
      clear d7 hT k3 k4 D k2 hsz
      go_wp2_with fail
      refine (D7.out.restart).mono ?_
      rintro e w8 ⟨rfl, d8⟩
      have D8 : Hid (Sd w.heap.size w w8 p [([102], T, T)] (S4 (sec T.length) (3 + (k : Int)) false)) := d8
      clear d8 D7
      go_wp2_with fail
      refine (s_size D8.out (by omega)).mono ?_
      rintro e w9 ⟨rfl, d9⟩
      have D9 := hide d9
      clear d9 D8
      go_wp2_with fail
      refine (s_read D9.out (by omega) bs.length k1).mono ?_
      rintro e w10 ⟨y, rfl, r10, d10⟩
      rw [K3.out] at r10
      obtain ⟨ya, yc, rfl, _⟩ := r10.isB.form
      obtain ⟨sb, hsb⟩ : ∃ sb, sb = strOfNums bs := ⟨_, rfl⟩
      have cy := conv_isB r10.isB
      have cb := conv_isB (HI.out.below d10.bel)
      rw [← hsb] at cy cb
      have D10 := hide d10
      clear d10 r10 hsb D9
      go_wp2_with fail
      refine (s_read D10.out (by omega) T.length (Nat.le_refl _)).mono ?_
      rintro e w11 ⟨y2, rfl, r11, d11⟩
      rw [List.take_of_length_le (Nat.le_refl _)] at r11
      obtain ⟨xa, xc, rfl, _⟩ := r11.isB.form
      have R11 := hide r11.isB
      have B11 := hide d11.bel
      clear r11 d11 D10 cy cb
      go_wp2
      go_loopw [21] (fun i wr => ∃ q : Nat, bs.length ≤ q ∧ q ≤ T.length ∧ i = .int .i64 q ∧ Hid (Below w11.heap.size w11 wr)) (fun i _ => T.length - (intOf i).toNat)
      case atStart => exact ⟨bs.length, Nat.le_refl _, k1, rfl, Below.refl _ _⟩
      case round =>
        obtain ⟨q, hq1, hq2, rfl, HW⟩ := hrel
        by_cases hq : q < T.length
        · obtain ⟨xb, xoff, xcap, he, _, hcx⟩ := (R11.out.below HW.out).opened (by omega)
          simp only [Value.slice.injEq, true_and] at he
          obtain ⟨rfl, rfl⟩ := he
          have hcell := hcx q hq
          have hk := K4.out q hq1 hq
          have hsx := str_at (bs ++ ps) (fun z hz => by rcases List.mem_append.1 hz with h | h; exact HBB.out z h; exact HPB.out z h) q (by have e := strOfNums_size (bs ++ ps); rw [← HSA.out] at e; omega)
          rw [← HSA.out] at hsx
          obtain ⟨tv, htv⟩ : ∃ tv, tv = T[q]?.getD 0 := ⟨_, rfl⟩
          obtain ⟨uv, huv⟩ : ∃ uv, uv = (bs ++ ps)[q]?.getD 0 := ⟨_, rfl⟩
          rw [← htv] at hcell hk
          rw [← huv] at hsx hk
          clear hcx htv huv
          by_cases hu : tv = uv
          · subst hu
            clear hk
            go_wp2
            go_quiet (fail)
            go_wp2
            go_roundw
            case rel => exact ⟨q + 1, by omega, by omega, by go_num, ⟨HW.out.os, HW.out.tape, HW.out.output, HW.out.size, HW.out.block⟩⟩
            case measure => simp [intOf]; omega
          · have h0 : tv = 0 := by omega
            have hub : (tv == uv) = false := by simpa using hu
            have hub2 : (tv != uv) = true := by simpa using hu
            have hz1 : (tv == 0) = true := by simpa using h0
            have hz2 : (tv != 0) = false := by simpa using h0
            clear hk hu h0
            go_wp2
            go_quiet (fail)
            go_wp2
            go_roundw
            case rel => exact ⟨q + 1, by omega, by omega, by go_num, ⟨HW.out.os, HW.out.tape, HW.out.output, HW.out.size, HW.out.block⟩⟩
            case measure => simp [intOf]; omega
        · go_wp2
          go_ret
          exact ⟨rfl, B11.out.trans (HW.out.mono B11.out.size)⟩

/-! ### The row's step -/
set_option maxRecDepth 100000 in
theorem lifted (os : Os) (started : os.Started) (H : Type) (enc : TypeId × Value → H) :
    ReturnsInHanded {} Try.checked os 4 .any (Rows.diskSyncedSpec.pre6 enc Try.prog Try.f4 Rows.diskSyncedRow.domain false) (Rows.diskSyncedSpec.post enc Try.prog Try.f4 false true false false) := by
  refine returnsInHanded_of_change (C := Try.checked) own started (by kernel_rfl) Try.func4
    (ChangeSpec.witness6 (enc := enc) (C := Try.checked) false ⟨#[], #[.slice none 0 0, .slice none 0 0, .slice none 0 0], []⟩ 8 (by kernel_rfl) (by kernel_rfl) (by kernel_rfl) (by kernel_rfl)) ?_
  intro W base args ds gs before hval0 hW hcnd _
  have hval : ∀ (j : Nat) t v, Try.f4.params[j]? = some t → args[j]? = some v → Value.okWide Try.prog W .any base t v := hval0
  have hW' := hW
  obtain ⟨p, q, hA0, hV, rfl, hfz, hnd⟩ := hW
  have hA : DataW.TrodAll enc Try.prog W 0 (fun _ => true) true Try.f4.params.toList args.toList ds p := hA0
  rw [Try.params4] at hA hval
  obtain ⟨v0, vs0, d0, ds0, p0, q0, hargs, rfl, rfl, h0, r0⟩ := trodAll_cons hA
  obtain ⟨v1, vs1, d1, ds1, p1, q1, rfl, rfl, rfl, h1, r1⟩ := trodAll_cons r0
  obtain ⟨v2, vs2, d2, ds2, p2, q2, rfl, rfl, rfl, h2, r2⟩ := trodAll_cons r1
  obtain ⟨rfl, rfl, rfl⟩ := trodAll_nil r2
  obtain rfl : args = #[v0, v1, v2] := by cases args; simp_all
  obtain ⟨rfl, rfl⟩ := trodVars_none hV
  obtain ⟨a0, len0, cap0, rfl⟩ := okWide_slice Try.underlying28 (hval 0 28 v0 rfl rfl)
  have k0 := h0
  have lt0 : ∀ x ∈ p0, x.block < W.heap.size := by obtain ⟨m, hm⟩ := k0; exact DataW.trod_lt m _ _ _ hm
  obtain ⟨z0, w0⟩ : ∃ zs, IsRow .u8 W a0 len0 cap0 zs := by
    obtain ⟨fuel, hf⟩ := h0
    rcases open_ints Try.underlying28 Try.underlying5 (by kernel_rfl) hf with ⟨hcs, _⟩ | ⟨x, l, c, zs, hcs, _, hl, hm, hz, _, hcell, hwz⟩
    · simp [Value.cells] at hcs
      obtain ⟨rfl, rfl, rfl⟩ := hcs
      exact ⟨[], .inl ⟨rfl, rfl, rfl, rfl⟩⟩
    · simp [Value.cells] at hcs
      obtain ⟨rfl, rfl, rfl⟩ := hcs
      exact ⟨zs, .inr ⟨_, rfl, hl, hm, by simpa using hz, hcell, hwz⟩⟩
  obtain ⟨a1, len1, cap1, rfl⟩ := okWide_slice Try.underlying55 (hval 1 55 v1 rfl rfl)
  have k1 := h1
  have lt1 : ∀ x ∈ p1, x.block < W.heap.size := by obtain ⟨m, hm⟩ := k1; exact DataW.trod_lt m _ _ _ hm
  obtain ⟨bs1, i1, l1, c1, m1⟩ : ∃ bs, IsBB W (.slice a1 len1 cap1) bs ∧ bs.length = len1 ∧ len1 ≤ cap1 ∧ cap1 ≤ maxLen := by
    obtain ⟨fuel, hf⟩ := h1
    rcases open_byterows hf with hcs | ⟨x, l, c, bs, hcs, e1, e2, e3, e4⟩
    · simp [Value.cells] at hcs
      obtain ⟨rfl, rfl, rfl⟩ := hcs
      exact ⟨[], IsBB.nil W, rfl, Nat.le_refl _, Nat.zero_le _⟩
    · simp [Value.cells] at hcs
      obtain ⟨rfl, rfl, rfl⟩ := hcs
      exact ⟨bs, e4, e1, e2, e3⟩
  obtain ⟨a2, len2, cap2, rfl⟩ := okWide_slice Try.underlying29 (hval 2 29 v2 rfl rfl)
  have k2 := h2
  have lt2 : ∀ x ∈ p2, x.block < W.heap.size := by obtain ⟨m, hm⟩ := k2; exact DataW.trod_lt m _ _ _ hm
  obtain ⟨ks2, i2, l2, c2⟩ : ∃ ks, IsK W (.slice a2 len2 cap2) ks ∧ ks.length = len2 ∧ len2 ≤ cap2 := by
    obtain ⟨fuel, hf⟩ := h2
    rcases Go.Deep.open_bools Try.underlying29 Try.underlying4 (by kernel_rfl) hf with ⟨hcs, _⟩ | ⟨x, l, c, B, hcs, _, hl, hm, _, hcell⟩
    · simp [Value.cells] at hcs
      obtain ⟨rfl, rfl, rfl⟩ := hcs
      exact ⟨[], IsK.nil W, rfl, Nat.le_refl _⟩
    · simp [Value.cells] at hcs
      obtain ⟨rfl, rfl, rfl⟩ := hcs
      refine ⟨(List.range len2).map B, ⟨some x, cap2, by simp, by simp; exact hl, by simp, fun y hy i hi => ?_⟩, by simp, hl⟩
      simp at hy hi
      subst hy
      rw [hcell i (by omega)]
      simp [hi]
  clear hA0 hval0
  refine (walk a0 len0 cap0 z0 a1 len1 cap1 bs1 a2 len2 cap2 ks2 W w0 i1 l1 c1 m1 i2 l2 c2).mono fun e W' ⟨he, bel⟩ => ?_
  subst he
  exact ⟨_, rfl, _, _, _, [], _, [], hW', trodAll_mk1 (shut_bool Try.underlying4 _), (trodAll_cons_mk (Below.trod laidOut (by kernel_rfl) (of_decide_eq_true (by kernel_rfl)) k0 bel lt0) (trodAll_cons_mk (Below.trod laidOut (by kernel_rfl) (of_decide_eq_true (by kernel_rfl)) k1 bel lt1) (trodAll_cons_mk (Below.trod laidOut (by kernel_rfl) (of_decide_eq_true (by kernel_rfl)) k2 bel lt2) trodAll_mk0))), rfl, bel.frame _, fun h => by cases h⟩

theorem over : Rows.diskSyncedRow.holds Try.pinned (OpenSpec.ofChange Rows.diskSyncedSpec) :=
  OpenClaim.holds_of_wide 4 Try.f4 rfl rfl rfl rfl rfl rfl rfl ⟨rfl, rfl, rfl, rfl, rfl⟩ rfl rfl rfl rfl rfl (by kernel_rfl) Try.func4 (by kernel_rfl)
    (of_decide_eq_true (by kernel_rfl)) (by unfold Func.isWrapper; first | (rw [if_pos (by decide +kernel)]; kernel_rfl) | (rw [if_neg (by decide +kernel)]; exact ⟨rfl, rfl⟩))
    (fun os started H enc _ => lifted os started H enc)

/-- The statement. -/
theorem proved : Rows.DiskSyncedSaid := over
#print axioms proved
end Go.Proofs.Ytahhokhhgamelaa.diskSynced
