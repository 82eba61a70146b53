/-
  Proved: for all bytes, all slices of slices of bytes and all integers, DiskWrites returns true and leaves them as they were (bytes that are written over others are there, and nothing else is changed). No condition.
-/
import Derived.WalkKit
import Derived.ProofKit
import Derived.OpenShut
import Derived.ShutString
import Derived.Deep.Grids
import Derived.Deep.RegionHeld
import Derived.Test.YtahhokhhgamelaaDBeside
namespace Go.Proofs.Ytahhokhhgamelaa.diskWrites
open Go.ChangeShapes Go.WideShapes Go.ChangeAt Go.RowKit
open Go.ChangeMaps (open_string shut_string)
set_option linter.unusedVariables false

theorem own : ownKnob Try.prog.godebug = none := by kernel_rfl
theorem laidOut : laidOutB Try.prog = true := by kernel_rfl

/-- WHAT THE WALK IS TOLD OF A SLICE OF INTEGERS THAT CAME IN. -/
def IsRow (k : IntKind) (w : World) (a : Option Addr) (len cap : Nat) (zs : List Int) : Prop :=
  (a = none ∧ len = 0 ∧ cap = 0 ∧ zs = []) ∨
  ∃ x, a = some x ∧ len ≤ cap ∧ cap ≤ maxLen ∧ zs.length = cap ∧ (∀ i, i < zs.length → w.cell? (x.add i) = some (.int k (zs.getD i 0))) ∧ ∀ n ∈ zs, (Lit.int k n).wf = true

theorem isB_of {w : World} {a : Option Addr} {len cap : Nat} {zs : List Int} (h : IsRow .u8 w a len cap zs) : IsB w (.slice a len cap) (zs.take len) ∧ (zs.take len).length = len ∧ len ≤ cap := by
  rcases h with ⟨rfl, rfl, rfl, rfl⟩ | ⟨x, rfl, hl, hm, hz, hc, hw⟩
  · exact ⟨IsB.nil w, rfl, Nat.le_refl _⟩
  · have e : (zs.take len).length = len := by simp; omega
    refine ⟨⟨_, cap, by rw [e], by omega, by simp, fun y hy j hj => ?_, fun z hz => ?_⟩, e, hl⟩
    · simp only [Option.some.injEq] at hy
      subst hy
      rw [hc j (by omega), List.getElem?_take_of_lt (by omega)]
      rfl
    · have := hw z (List.mem_of_mem_take hz)
      exact bounds_u8 this

/-- What is left of a slice that is cut to at most m bytes. -/
theorem cut_to {w : World} {a : Option Addr} {len cap : Nat} {zs : List Int} (h : IsRow .u8 w a len cap zs) (m : Nat) (hm : m ≤ len) : ∃ bs, IsB w (.slice a m cap) bs ∧ bs.length = m := by
  obtain ⟨h1, h2, h3⟩ := isB_of h
  exact ⟨_, h1.take m hm, by simp only [List.length_take, h2]; omega⟩

/-- The same, the length named: as the walk reckons it. -/
theorem cut_min {w : World} {a : Option Addr} {len cap : Nat} {zs : List Int} (h : IsRow .u8 w a len cap zs) (k : Nat) (K : Int) (hK : K = (k : Int)) :
    ∃ (m : Nat) (bs : List Int), (∀ (ts : Array TypeId) (t : TypeId) (w : World), (Builtin.min_ ts t #[.int .i64 (len : Int), .int .i64 K]).run Try.prog w = .ok (.int .i64 (m : Int)) w) ∧ IsB w (.slice a m cap) bs ∧ bs.length = m ∧ m ≤ len ∧ m ≤ k ∧ m ≤ cap := by
  obtain ⟨h1, h2, h3⟩ := isB_of h
  refine ⟨min len k, _, fun ts t w => ?_, h1.take (min len k) (by omega), by simp only [List.length_take, h2]; omega, by omega, by omega, by omega⟩
  rw [run_min_int2, hK]
  congr 2
  split <;> omega

def S3 (used ops : Int) : Ds := { room := 1000, used := used, ops := ops, down := false, left := 0, keep := [] }
theorem t_create : createA (beginA [] (S3 0 0)) [102] = (0, ([([102], [], [])], S3 0 1)) := by rfl
theorem t_append (bs : List Int) (h : bs.length ≤ 200) : appendA (beginA [([102], [], [])] (S3 0 1)) [102] bs = (0, ([([102], bs, [])], S3 (sec bs.length) 2)) := by
  show writeA [([102], [], [])] (S3 0 2) ([102], [], []) 0 bs = _
  unfold writeA
  have h0 : moreA [] 0 bs = sec bs.length := by simp [moreA, sec]
  have h1 : sec bs.length ≤ 13 := by unfold sec; omega
  rw [if_neg (by simp), if_neg (by simp only [S3]; show ¬ 1000 - 0 < moreA [] 0 bs; rw [h0]; omega)]
  show ((0 : Int), (setA [([102], [], [])] ([102], putA [] 0 bs, []), { S3 0 2 with used := 0 + moreA [] 0 bs })) = _
  rw [h0]
  simp [setA, putA, S3]
theorem t_write (ws cs : List Int) (k : Nat) (o : Int) (hk : k ≤ ws.length) (hw : ws.length ≤ 2000) (hc : cs.length ≤ 60) : writeAtA (beginA [([102], ws, [])] (S3 (sec ws.length) o)) [102] (k : Int) cs = (0, ([([102], putA ws k cs, [])], S3 (sec (putA ws k cs).length) (o + 1))) := by
  show writeA [([102], ws, [])] (S3 (sec ws.length) (o + 1)) ([102], ws, []) (k : Int) cs = _
  unfold writeA
  have h1 : sec ws.length ≤ 126 := by unfold sec; omega
  have h2 : sec (max ws.length (k + cs.length)) ≤ 130 := by unfold sec; omega
  have h3 := sec_nonneg ws.length
  rw [Int.toNat_natCast, if_neg (by simp; omega), if_neg (by simp only [S3]; unfold moreA; omega), putA_length ws k cs hk]
  have e : sec ws.length + moreA ws k cs = sec (max ws.length (k + cs.length)) := by unfold moreA; omega
  simp only [setA, S3, List.map_cons, List.map_nil, e]
  simp
theorem i64_and65535 (n : Int) : bits .and .i64 n 65535 = n % 65536 := by
  have hm : (BitVec.ofInt 64 65535).toNat = 2 ^ 16 - 1 := by decide
  have key : (BitVec.ofInt 64 n &&& BitVec.ofInt 64 65535).toNat = (n % ((2 ^ 64 : Nat) : Int)).toNat % 2 ^ 16 := by
    rw [BitVec.toNat_and, BitVec.toNat_ofInt, hm, Nat.and_two_pow_sub_one_eq_mod]
  show IntKind.i64.wrap ((BitVec.ofInt 64 n &&& BitVec.ofInt 64 65535).toNat : Nat) = n % 65536
  rw [key, IntKind.wrap_i64]
  omega
/-- A number of a row of numbers that came in. -/
theorem row_at {w : World} {a : Option Addr} {len cap : Nat} {zs : List Int} (h : IsRow .i64 w a len cap zs) (i : Nat) (hi : i < len) : ∃ b off z, a = some ⟨b, off, none⟩ ∧ (∀ w', Below w.heap.size w w' → w'.cell? ⟨b, off + i, none⟩ = some (.int .i64 z)) := by
  rcases h with ⟨_, h0, _⟩ | ⟨x, rfl, hl, hm, hz, hc, _⟩
  · omega
  · have h1 := hc i (by omega)
    obtain ⟨b, off, spot⟩ := x
    have hspot : spot = none := by simpa [Addr.add] using World.cell?_spot (hc 0 (by omega))
    subst hspot
    rw [Addr.add_lit] at h1
    exact ⟨b, off, _, rfl, fun w' hb => (World.cell?_of_block (w := w) (hb.block _ (World.block_lt_of_cell? w _ h1))).trans h1⟩
theorem one_b (w : World) (x : Int) (hx : 0 ≤ x ∧ x ≤ 255) : IsB (w.alloc (.cells #[.int .u8 x] 5)) (.slice (some ⟨w.heap.size, 0, none⟩) 1 1) [x] := by
  refine ⟨_, 1, rfl, by simp, by simp, fun y hy j hj => ?_, by simpa using hx⟩
  simp only [Option.some.injEq] at hy
  subst hy
  obtain rfl : j = 0 := by simpa using hj
  simp [Addr.add]
theorem row_set {w : World} {g cap : Nat} {bs : List Int} (h : RowB w (.slice (some ⟨g, 0, none⟩) bs.length cap) bs) (j : Nat) (y : Int) (hy : 0 ≤ y ∧ y ≤ 255) : RowB (w.setCell ⟨g, j, none⟩ (.int .u8 y)) (.slice (some ⟨g, 0, none⟩) bs.length cap) (bs.set j y) := by
  refine ⟨?_, fun z hz => ?_⟩
  · have := (World.ownsRow.stored h.1 j (.int .u8 y)).1
    rw [← List.map_set] at this
    simpa using this
  · rcases List.mem_or_eq_of_mem_set hz with hz | rfl
    · exact h.2 z hz
    · exact hy

/-! ### The walk -/
set_option maxRecDepth 100000 in
set_option maxHeartbeats 2000000 in
theorem walk (a0 : Option Addr) (len0 cap0 : Nat) (z0 : List Int) (a1 : Option Addr) (len1 cap1 : Nat) (bs1 : List (List Int)) (a2 : Option Addr) (len2 cap2 : Nat) (z2 : List Int) (w : World) (w0 : IsRow .u8 w a0 len0 cap0 z0) (i1 : IsBB w (.slice a1 len1 cap1) bs1) (l1 : bs1.length = len1) (c1 : len1 ≤ cap1) (m1 : cap1 ≤ maxLen) (w2 : IsRow .i64 w a2 len2 cap2 z2) :
    Calls Try.prog 8 #[.slice a0 len0 cap0, .slice a1 len1 cap1, .slice a2 len2 cap2] w fun e w' => e = .returned (.bool true) ∧ Below w.heap.size w w' := by
  obtain ⟨mb, bs, hm0, hI, hL, hp1, hp2, hlc0⟩ := cut_min w0 200 200 rfl
  have hbl : bs.length ≤ 200 := by omega
  have hb0 : (0 : Int) ≤ (mb : Int) := by omega
  have hbc : (mb : Int) ≤ (cap0 : Int) := by omega
  have HUX : Hid (bs ≠ [] → ∀ x ∈ Go.Proofs.Ytahhokhhgamelaa.own (.slice a0 mb cap0), x < w.heap.size) := fun hne => hI.lt hne
  have HI := hide hI
  have HL := hide i1
  subst l1
  subst hL
  have SH := hide (shown_any w)
  have HZ := hide w2
  clear w0 i1 hI w2
  go_enter Try.func8, Try.ntmps8
  go_wp2_with (go_at_call 12; refine SH.out.mono ?_; rintro e w1 ⟨rfl, b1'⟩; have B1 := hide b1'; clear b1')
  have NW := hide (Sd.new (B := w.heap.size) (w0 := w) 1000 (by omega) w1 B1.out B1.out.size)
  refine NW.out.mono ?_
  rintro e w2 ⟨rfl, d2⟩
  have D2 : Hid (Sd w.heap.size w w2 (w1.heap.size + 1) [] (S3 0 0)) := d2
  clear d2 NW
  obtain ⟨p, hp⟩ : ∃ p, p = w1.heap.size + 1 := ⟨_, rfl⟩
  rw [← hp] at D2 ⊢
  clear hp
  go_wp2_with fail
  refine (D2.out.create (by decide) ⟨#[102]⟩ (str1 102) t_create).mono ?_
  rintro e w3 ⟨rfl, d3⟩
  have D3 := hide d3
  clear d3
  go_wp2_with fail
  refine (D3.out.append (by decide) ⟨#[102]⟩ (str1 102) _ bs (HI.out.below D3.out.bel) (by omega) HUX.out (t_append bs hbl)).mono ?_
  rintro e w4 ⟨rfl, d4⟩
  have D4 := hide d4
  have E4 := hide ((OwnB.empty w4 0 (Nat.zero_le _)).rowB)
  have I4 := hide ((HI.out.below d4.bel).below ((Below.refl _ w4).alloc (Nat.le_refl _) (.cells #[] 5)))
  clear d4 D2 D3
  go_wp2_with (at_builtin; refine wp_appendR _ rfl _ _ rfl (.slice (some ⟨w4.heap.size, 0, none⟩) 0 0) (.slice a0 bs.length cap0) [] bs rfl E4.out rfl I4.out (by simp; omega) ?_; intro v5 w5 r5 k5 n5 _; rw [List.nil_append] at r5; have H5 := hide (D4.out.beside (((Below.refl _ w4).alloc (Nat.le_refl _) (.cells #[] 5)).trans (k5.below (by simp) (by simp [Value.ownBlock]))) r5 (fun x hx => by rcases n5 x hx with h | h; simp [Value.ownBlock] at h; omega; simp at h; omega)); clear r5 k5 n5)
  go_loopw [9, 10, 11, 12, 13] (fun o i _ _ _ wr => ∃ (k : Nat) (ws : List Int), k ≤ bs1.length ∧ k ≤ len2 ∧ k ≤ 20 ∧ i = .int .i64 k ∧ ws.length ≤ 200 + 60 * k ∧ Hid (Bd w.heap.size w wr p [([102], ws, [])] (S3 (sec ws.length) (2 + (k : Int))) o ws)) (fun _ i _ _ _ _ => 20 - (intOf i).toNat)
  case atStart => exact ⟨0, bs, Nat.zero_le _, Nat.zero_le _, Nat.zero_le _, rfl, by omega, H5⟩
  case round =>
    obtain ⟨k, ws, hk1, hk2, hk20, rfl, hwl, H⟩ := hrel
    obtain ⟨wo, hwo⟩ : ∃ wo, wo = wr := ⟨_, rfl⟩
    subst hwo
    obtain ⟨va, vc, rfl, _⟩ := H.out.row.isB.form
    by_cases hlt1 : k < bs1.length
    · by_cases hlt2 : k < len2
      · by_cases hlt3 : k < 20
        · obtain ⟨b, off, cap', he, _, hc⟩ := HL.out.opened (by omega)
          simp only [Value.slice.injEq, true_and] at he
          obtain ⟨rfl, rfl⟩ := he
          obtain ⟨ta, n, tc, m, cs, hP, hm, hcl, hm60, hmn, hnc, hIs, hux⟩ := piece hc k hlt1 w.heap.size rfl
          obtain ⟨zb, zo, z, rfl, hz⟩ := row_at HZ.out k hlt2
          have hcd : wo.drew.cell? ⟨b, off + k, none⟩ = some (.slice ta n tc) := hP wo H.out.bel
          have hzd : wo.drew.cell? ⟨zb, zo + k, none⟩ = some (.int .i64 z) := hz wo H.out.bel
          have HD := hide (H.out.below (⟨rfl, rfl, rfl, Nat.le_refl _, fun _ _ => rfl⟩ : Below wo.heap.size wo wo.drew))
          have HIs := hide hIs
          have HUX2 := hide hux
          have hmc : (m : Int) ≤ tc := by omega
          have hmm0 : (0 : Int) ≤ (m : Int) := by omega
          have hand := i64_and65535 z
          obtain ⟨kk, hkk⟩ : ∃ kk : Nat, z % 65536 % ((ws.length : Int) + 1) = (kk : Int) := ⟨(z % 65536 % ((ws.length : Int) + 1)).toNat, by have := Int.emod_nonneg (z % 65536) (show (ws.length : Int) + 1 ≠ 0 by omega); omega⟩
          have hkw : kk ≤ ws.length := by have := Int.emod_lt_of_pos (z % 65536) (show (0 : Int) < (ws.length : Int) + 1 by omega); omega
          have hz16 : (0 : Int) ≤ z % 65536 := by omega
          have hww : ws.length ≤ 2000 := by omega
          clear hc hP hIs hux H hz
          go_wp2
          go_region_held (fun w' => w'.cell? ⟨b, off + k, none⟩ = some (.slice ta n tc)) (assumption) (fail)
          clear hcd hm
          go_wp2_with fail
          refine (HD.out.writeAt (by simp only [S3]; omega) ⟨#[102]⟩ (str1 102) (kk : Int) (by omega) _ cs (HIs.out _ HD.out.bel) (by omega) HUX2.out (t_write ws cs kk _ hkw hww (by omega))).mono ?_
          rintro e w6 ⟨rfl, h6⟩
          have H6 := hide h6
          obtain ⟨ns, hns⟩ : ∃ ns, ns = putA ws kk cs := ⟨_, rfl⟩
          rw [← hns] at H6
          have HNS := hide hns
          clear h6 HD hzd hand hz16 hns
          go_wp2
          clear hkk
          go_loopw [9, 13] (fun o i wr => ∃ (n : Nat) (xs : List Int) (xa : Option Addr) (xc : Nat), n ≤ m ∧ i = .int .i64 n ∧ o = .slice xa xs.length xc ∧ Hid (xs = putA ws kk (cs.take n)) ∧ xs.length ≤ 260 + 60 * k ∧ Hid (Bd w.heap.size w wr p [([102], ns, [])] (S3 (sec ns.length) (2 + (k : Int) + 1)) (.slice xa xs.length xc) xs)) (fun _ i _ => m - (intOf i).toNat)
          case atStart => exact ⟨0, ws, va, vc, Nat.zero_le _, rfl, rfl, by simp [Hid, putA], by omega, H6⟩
          case round =>
            obtain ⟨n2, xs, xa, xc, hn2, rfl, rfl, HX, hxl, HI2⟩ := hrel
            by_cases hn : n2 < m
            · have hst := putA_step ws cs kk n2 hkw (by omega)
              rw [← HX.out] at hst
              have hxe : xs.length = max ws.length (kk + n2) := by
                rw [HX.out, putA_length ws kk _ hkw, List.length_take, hcl]
                omega
              have hip := HIs.out wr HI2.out.bel
              obtain ⟨tb, toff, tcap, hte, _, htc⟩ := hip.opened (by omega)
              simp only [Value.slice.injEq] at hte
              obtain ⟨rfl, hme, rfl⟩ := hte
              clear hme
              have hcell := htc n2 (by omega)
              obtain ⟨x, hx⟩ : ∃ x, x = cs[n2]?.getD 0 := ⟨_, rfl⟩
              rw [← hx] at hcell hst
              have hxb := hip.bytes x (by rw [hx]; simp [show n2 < cs.length by omega])
              have HXB : Hid (0 ≤ x ∧ x ≤ 255) := hxb
              have HXE := hide hxe
              clear hip htc hx hxb hxe
              by_cases hin : kk + n2 < xs.length
              · rw [if_pos hin] at hst
                have HST := hide hst
                obtain ⟨g, hg⟩ : ∃ g, xa = some ⟨g, 0, none⟩ := by
                  rcases HI2.out.row.form with ⟨h, _⟩ | ⟨g, cc, h, _⟩
                  · simp only [Value.slice.injEq] at h
                    omega
                  · simp only [Value.slice.injEq] at h
                    exact ⟨g, h.1⟩
                subst hg
                have hfz := World.ownsRow.frozenAt HI2.out.row.1 (kk + n2)
                obtain ⟨y0, hcy⟩ : ∃ y0, wr.cell? ⟨g, kk + n2, none⟩ = some (.int .u8 y0) := by
                  obtain ⟨b', o', c', he, _, h⟩ := HI2.out.row.isB.opened (by omega)
                  simp only [Value.slice.injEq, Option.some.injEq, Addr.mk.injEq, and_true, true_and] at he
                  obtain ⟨⟨rfl, rfl⟩, _⟩ := he
                  have := h (kk + n2) hin
                  rw [Nat.zero_add] at this
                  exact ⟨_, this⟩
                have hki : (kk : Int) + (n2 : Int) < (xs.length : Int) := by omega
                have BS := hide (HI2.out.turn (Below.refl _ wr) (row_set HI2.out.row (kk + n2) x HXB.out) ((Kept.refl _ _).setCell (.inl (by simp [Value.ownBlock])) _) (Newly.refl _ _))
                clear hst
                go_wp2
                go_roundw
                case rel => exact ⟨n2 + 1, xs.set (kk + n2) x, some ⟨g, 0, none⟩, xc, by omega, by go_num, by rw [List.length_set], HST.out.symm, by rw [List.length_set]; omega, by show Bd _ _ _ _ _ _ _ _; rw [List.length_set]; exact BS.out⟩
                case measure => simp [intOf]; omega
              · rw [if_neg hin] at hst
                have HST := hide hst
                have hki : ¬ (kk : Int) + (n2 : Int) < (xs.length : Int) := by omega
                have row2 := hide ((HI2.out.row).kept (Kept.of_below (fp := []) ((Below.refl _ wr).alloc (Nat.le_refl _) (.cells #[.int .u8 x] 5))) (by simp))
                clear hst
                go_wp2_with (at_builtin; refine wp_appendR _ rfl _ _ rfl (.slice xa xs.length xc) (.slice (some ⟨wr.heap.size, 0, none⟩) 1 1) xs [x] rfl row2.out rfl (one_b wr x HXB.out) (by simp; omega) ?_; intro v7 w7 r7 k7 n7 _; have H7 := hide (HI2.out.turn ((Below.refl _ wr).alloc (Nat.le_refl _) _) r7 k7 n7); obtain ⟨ya, yc, hy, _⟩ := r7.isB.form; subst hy; clear r7 k7 n7)
                go_roundw
                case rel => exact ⟨n2 + 1, xs ++ [x], ya, yc, by omega, by go_num, by rw [List.length_append]; rfl, HST.out.symm, by have := HXE.out; simp; omega, H7⟩
                case measure => simp [intOf]; omega
            · obtain rfl : n2 = m := by omega
              have hxn : xs = ns := by rw [HX.out, HNS.out, List.take_of_length_le (by omega)]
              subst hxn
              go_wp2
              go_roundw
              case rel => exact ⟨k + 1, xs, by omega, by omega, by omega, by go_num, by omega, by
                have h := HI2.out
                rw [show (2 + (k : Int) + 1) = 2 + ((k + 1 : Nat) : Int) by push_cast; omega] at h
                exact h⟩
              case measure => simp [intOf]; omega
        · go_wp2_with fail
          refine (H.out.size (by simp only [S3]; omega) ⟨#[102]⟩ (str1 102) (l' := [([102], ws, [])]) (s' := S3 (sec ws.length) (2 + (k : Int) + 1)) (by rfl) (by rfl)).mono ?_
          rintro e w8 ⟨rfl, h8⟩
          have H8 := hide h8
          clear h8
          go_wp2_with fail
          refine (H8.out.read (by simp only [S3]; omega) ⟨#[102]⟩ (str1 102) (x := ([102], ws, [])) (by rfl) (by rfl) 0 ws.length (by simp) (l' := [([102], ws, [])]) (s' := S3 (sec ws.length) (2 + (k : Int) + 1 + 1)) (by rfl)).mono ?_
          rintro e w9 ⟨y, rfl, r9, h9⟩
          simp only [List.drop_zero, List.take_of_length_le (Nat.le_refl ws.length)] at r9
          obtain ⟨ya, yc, rfl, _⟩ := r9.isB.form
          obtain ⟨sw, hsw⟩ : ∃ sw, sw = strOfNums ws := ⟨_, rfl⟩
          have cx := conv_isB r9.isB
          have cy := conv_isB h9.row.isB
          rw [← hsw] at cx cy
          have hus := h9.used
          dsimp only [S3] at hus
          rw [sec_eq] at hus
          have HU := hide hus
          have B9 := hide h9.bel
          clear hus h9 r9 hsw H8 H
          go_wp2_with (go_at_call 42; refine HU.out.mono ?_; rintro e w10 ⟨rfl, rfl⟩)
          go_ret
          exact ⟨rfl, B9.out⟩
      · go_wp2_with fail
        refine (H.out.size (by simp only [S3]; omega) ⟨#[102]⟩ (str1 102) (l' := [([102], ws, [])]) (s' := S3 (sec ws.length) (2 + (k : Int) + 1)) (by rfl) (by rfl)).mono ?_
        rintro e w8 ⟨rfl, h8⟩
        have H8 := hide h8
        clear h8
        go_wp2_with fail
        refine (H8.out.read (by simp only [S3]; omega) ⟨#[102]⟩ (str1 102) (x := ([102], ws, [])) (by rfl) (by rfl) 0 ws.length (by simp) (l' := [([102], ws, [])]) (s' := S3 (sec ws.length) (2 + (k : Int) + 1 + 1)) (by rfl)).mono ?_
        rintro e w9 ⟨y, rfl, r9, h9⟩
        simp only [List.drop_zero, List.take_of_length_le (Nat.le_refl ws.length)] at r9
        obtain ⟨ya, yc, rfl, _⟩ := r9.isB.form
        obtain ⟨sw, hsw⟩ : ∃ sw, sw = strOfNums ws := ⟨_, rfl⟩
        have cx := conv_isB r9.isB
        have cy := conv_isB h9.row.isB
        rw [← hsw] at cx cy
        have hus := h9.used
        dsimp only [S3] at hus
        rw [sec_eq] at hus
        have HU := hide hus
        have B9 := hide h9.bel
        clear hus h9 r9 hsw H8 H
        go_wp2_with (go_at_call 42; refine HU.out.mono ?_; rintro e w10 ⟨rfl, rfl⟩)
        go_ret
        exact ⟨rfl, B9.out⟩
    · go_wp2_with fail
      refine (H.out.size (by simp only [S3]; omega) ⟨#[102]⟩ (str1 102) (l' := [([102], ws, [])]) (s' := S3 (sec ws.length) (2 + (k : Int) + 1)) (by rfl) (by rfl)).mono ?_
      rintro e w8 ⟨rfl, h8⟩
      have H8 := hide h8
      clear h8
      go_wp2_with fail
      refine (H8.out.read (by simp only [S3]; omega) ⟨#[102]⟩ (str1 102) (x := ([102], ws, [])) (by rfl) (by rfl) 0 ws.length (by simp) (l' := [([102], ws, [])]) (s' := S3 (sec ws.length) (2 + (k : Int) + 1 + 1)) (by rfl)).mono ?_
      rintro e w9 ⟨y, rfl, r9, h9⟩
      simp only [List.drop_zero, List.take_of_length_le (Nat.le_refl ws.length)] at r9
      obtain ⟨ya, yc, rfl, _⟩ := r9.isB.form
      obtain ⟨sw, hsw⟩ : ∃ sw, sw = strOfNums ws := ⟨_, rfl⟩
      have cx := conv_isB r9.isB
      have cy := conv_isB h9.row.isB
      rw [← hsw] at cx cy
      have hus := h9.used
      dsimp only [S3] at hus
      rw [sec_eq] at hus
      have HU := hide hus
      have B9 := hide h9.bel
      clear hus h9 r9 hsw H8 H
      go_wp2_with (go_at_call 42; refine HU.out.mono ?_; rintro e w10 ⟨rfl, rfl⟩)
      go_ret
      exact ⟨rfl, B9.out⟩

/-! ### The row's step -/
set_option maxRecDepth 100000 in
theorem lifted (os : Os) (started : os.Started) (H : Type) (enc : TypeId × Value → H) :
    ReturnsInHanded {} Try.checked os 8 .any (Rows.diskWritesSpec.pre6 enc Try.prog Try.f8 Rows.diskWritesRow.domain false) (Rows.diskWritesSpec.post enc Try.prog Try.f8 false true false false) := by
  refine returnsInHanded_of_change (C := Try.checked) own started (by kernel_rfl) Try.func8
    (ChangeSpec.witness6 (enc := enc) (C := Try.checked) false ⟨#[], #[.slice none 0 0, .slice none 0 0, .slice none 0 0], []⟩ 8 (by kernel_rfl) (by kernel_rfl) (by kernel_rfl) (by kernel_rfl)) ?_
  intro W base args ds gs before hval0 hW hcnd _
  have hval : ∀ (j : Nat) t v, Try.f8.params[j]? = some t → args[j]? = some v → Value.okWide Try.prog W .any base t v := hval0
  have hW' := hW
  obtain ⟨p, q, hA0, hV, rfl, hfz, hnd⟩ := hW
  have hA : DataW.TrodAll enc Try.prog W 0 (fun _ => true) true Try.f8.params.toList args.toList ds p := hA0
  rw [Try.params8] at hA hval
  obtain ⟨v0, vs0, d0, ds0, p0, q0, hargs, rfl, rfl, h0, r0⟩ := trodAll_cons hA
  obtain ⟨v1, vs1, d1, ds1, p1, q1, rfl, rfl, rfl, h1, r1⟩ := trodAll_cons r0
  obtain ⟨v2, vs2, d2, ds2, p2, q2, rfl, rfl, rfl, h2, r2⟩ := trodAll_cons r1
  obtain ⟨rfl, rfl, rfl⟩ := trodAll_nil r2
  obtain rfl : args = #[v0, v1, v2] := by cases args; simp_all
  obtain ⟨rfl, rfl⟩ := trodVars_none hV
  obtain ⟨a0, len0, cap0, rfl⟩ := okWide_slice Try.underlying28 (hval 0 28 v0 rfl rfl)
  have k0 := h0
  have lt0 : ∀ x ∈ p0, x.block < W.heap.size := by obtain ⟨m, hm⟩ := k0; exact DataW.trod_lt m _ _ _ hm
  obtain ⟨z0, w0⟩ : ∃ zs, IsRow .u8 W a0 len0 cap0 zs := by
    obtain ⟨fuel, hf⟩ := h0
    rcases open_ints Try.underlying28 Try.underlying5 (by kernel_rfl) hf with ⟨hcs, _⟩ | ⟨x, l, c, zs, hcs, _, hl, hm, hz, _, hcell, hwz⟩
    · simp [Value.cells] at hcs
      obtain ⟨rfl, rfl, rfl⟩ := hcs
      exact ⟨[], .inl ⟨rfl, rfl, rfl, rfl⟩⟩
    · simp [Value.cells] at hcs
      obtain ⟨rfl, rfl, rfl⟩ := hcs
      exact ⟨zs, .inr ⟨_, rfl, hl, hm, by simpa using hz, hcell, hwz⟩⟩
  obtain ⟨a1, len1, cap1, rfl⟩ := okWide_slice Try.underlying55 (hval 1 55 v1 rfl rfl)
  have k1 := h1
  have lt1 : ∀ x ∈ p1, x.block < W.heap.size := by obtain ⟨m, hm⟩ := k1; exact DataW.trod_lt m _ _ _ hm
  obtain ⟨bs1, i1, l1, c1, m1⟩ : ∃ bs, IsBB W (.slice a1 len1 cap1) bs ∧ bs.length = len1 ∧ len1 ≤ cap1 ∧ cap1 ≤ maxLen := by
    obtain ⟨fuel, hf⟩ := h1
    rcases open_byterows hf with hcs | ⟨x, l, c, bs, hcs, e1, e2, e3, e4⟩
    · simp [Value.cells] at hcs
      obtain ⟨rfl, rfl, rfl⟩ := hcs
      exact ⟨[], IsBB.nil W, rfl, Nat.le_refl _, Nat.zero_le _⟩
    · simp [Value.cells] at hcs
      obtain ⟨rfl, rfl, rfl⟩ := hcs
      exact ⟨bs, e4, e1, e2, e3⟩
  obtain ⟨a2, len2, cap2, rfl⟩ := okWide_slice Try.underlying58 (hval 2 58 v2 rfl rfl)
  have k2 := h2
  have lt2 : ∀ x ∈ p2, x.block < W.heap.size := by obtain ⟨m, hm⟩ := k2; exact DataW.trod_lt m _ _ _ hm
  obtain ⟨z2, w2⟩ : ∃ zs, IsRow .i64 W a2 len2 cap2 zs := by
    obtain ⟨fuel, hf⟩ := h2
    rcases open_ints Try.underlying58 Try.underlying3 (by kernel_rfl) hf with ⟨hcs, _⟩ | ⟨x, l, c, zs, hcs, _, hl, hm, hz, _, hcell, hwz⟩
    · simp [Value.cells] at hcs
      obtain ⟨rfl, rfl, rfl⟩ := hcs
      exact ⟨[], .inl ⟨rfl, rfl, rfl, rfl⟩⟩
    · simp [Value.cells] at hcs
      obtain ⟨rfl, rfl, rfl⟩ := hcs
      exact ⟨zs, .inr ⟨_, rfl, hl, hm, by simpa using hz, hcell, hwz⟩⟩
  clear hA0 hval0
  refine (walk a0 len0 cap0 z0 a1 len1 cap1 bs1 a2 len2 cap2 z2 W w0 i1 l1 c1 m1 w2).mono fun e W' ⟨he, bel⟩ => ?_
  subst he
  exact ⟨_, rfl, _, _, _, [], _, [], hW', trodAll_mk1 (shut_bool Try.underlying4 _), (trodAll_cons_mk (Below.trod laidOut (by kernel_rfl) (of_decide_eq_true (by kernel_rfl)) k0 bel lt0) (trodAll_cons_mk (Below.trod laidOut (by kernel_rfl) (of_decide_eq_true (by kernel_rfl)) k1 bel lt1) (trodAll_cons_mk (Below.trod laidOut (by kernel_rfl) (of_decide_eq_true (by kernel_rfl)) k2 bel lt2) trodAll_mk0))), rfl, bel.frame _, fun h => by cases h⟩

theorem over : Rows.diskWritesRow.holds Try.pinned (OpenSpec.ofChange Rows.diskWritesSpec) :=
  OpenClaim.holds_of_wide 8 Try.f8 rfl rfl rfl rfl rfl rfl rfl ⟨rfl, rfl, rfl, rfl, rfl⟩ rfl rfl rfl rfl rfl (by kernel_rfl) Try.func8 (by kernel_rfl)
    (of_decide_eq_true (by kernel_rfl)) (by unfold Func.isWrapper; first | (rw [if_pos (by decide +kernel)]; kernel_rfl) | (rw [if_neg (by decide +kernel)]; exact ⟨rfl, rfl⟩))
    (fun os started H enc _ => lifted os started H enc)

/-- The statement. -/
theorem proved : Rows.DiskWritesSaid := over
#print axioms proved
end Go.Proofs.Ytahhokhhgamelaa.diskWrites
