/-
  Proved: for every slice of bytes ExtsortBytes returns true and leaves it as it was (what is no file of records is refused, and nothing is left behind). No condition but the tables that the program's text lays.
-/
import Derived.Deep.QuietTactic
import Derived.BigQuiet
import Derived.WalkKit
import Derived.ProofKit
import Derived.OpenShut
import Derived.ShutString
import Derived.Test.YtgpbanjammipiaaGreatDoorXDown
import Derived.Test.YtgpbanjammipiaaGreatDoorTie
import Derived.Test.YtgpbanjammipiaaGreatDoorCards
import Derived.LaidMore
import Derived.SevenTiedAt
namespace Go.Proofs.YtgpbanjammipiaaGreatDoor.extsortBytes
open Go.ChangeShapes Go.WideShapes Go.ChangeAt Go.RowKit
open Go.ChangeMaps (open_string shut_string)
set_option linter.unusedVariables false

theorem own : ownKnob Tryz.prog.godebug = none := by kernel_rfl
theorem laidOut : laidOutB Tryz.prog = true := by kernel_rfl

/-- WHAT THE WALK IS TOLD OF A SLICE OF INTEGERS THAT CAME IN. -/
def IsRow (k : IntKind) (w : World) (a : Option Addr) (len cap : Nat) (zs : List Int) : Prop :=
  (a = none ∧ len = 0 ∧ cap = 0 ∧ zs = []) ∨
  ∃ x, a = some x ∧ len ≤ cap ∧ cap ≤ maxLen ∧ zs.length = cap ∧ (∀ i, i < zs.length → w.cell? (x.add i) = some (.int k (zs.getD i 0))) ∧ ∀ n ∈ zs, (Lit.int k n).wf = true

theorem isB_of {w : World} {a : Option Addr} {len cap : Nat} {zs : List Int} (h : IsRow .u8 w a len cap zs) : IsB w (.slice a len cap) (zs.take len) ∧ (zs.take len).length = len ∧ len ≤ cap := by
  rcases h with ⟨rfl, rfl, rfl, rfl⟩ | ⟨x, rfl, hl, hm, hz, hc, hw⟩
  · exact ⟨IsB.nil w, rfl, Nat.le_refl _⟩
  · have e : (zs.take len).length = len := by simp; omega
    refine ⟨⟨_, cap, by rw [e], by omega, by simp, fun y hy j hj => ?_, fun z hz => ?_⟩, e, hl⟩
    · simp only [Option.some.injEq] at hy
      subst hy
      rw [hc j (by omega), List.getElem?_take_of_lt (by omega)]
      rfl
    · have := hw z (List.mem_of_mem_take hz)
      exact bounds_u8 this

/-- What is left of a slice that is cut to at most m bytes. -/
theorem cut_to {w : World} {a : Option Addr} {len cap : Nat} {zs : List Int} (h : IsRow .u8 w a len cap zs) (m : Nat) (hm : m ≤ len) : ∃ bs, IsB w (.slice a m cap) bs ∧ bs.length = m := by
  obtain ⟨h1, h2, h3⟩ := isB_of h
  exact ⟨_, h1.take m hm, by simp only [List.length_take, h2]; omega⟩

/-- The same, the length named: as the walk reckons it. -/
theorem cut_min {w : World} {a : Option Addr} {len cap : Nat} {zs : List Int} (h : IsRow .u8 w a len cap zs) (k : Nat) (K : Int) (hK : K = (k : Int)) :
    ∃ (m : Nat) (bs : List Int), (∀ (ts : Array TypeId) (t : TypeId) (w : World), (Builtin.min_ ts t #[.int .i64 (len : Int), .int .i64 K]).run Tryz.prog w = .ok (.int .i64 (m : Int)) w) ∧ IsB w (.slice a m cap) bs ∧ bs.length = m ∧ m ≤ len ∧ m ≤ k ∧ m ≤ cap := by
  obtain ⟨h1, h2, h3⟩ := isB_of h
  refine ⟨min len k, _, fun ts t w => ?_, h1.take (min len k) (by omega), by simp only [List.length_take, h2]; omega, by omega, by omega, by omega⟩
  rw [run_min_int2, hK]
  congr 2
  split <;> omega

theorem create_in (R : Int) : createA (beginA [] (upS R 0 0)) (⟨#[105, 110]⟩ : ByteArray).data.toList = (0, ([([105, 110], [], [])], upS R 0 1)) := by rfl
theorem append_in (c : List Int) (hf : sec c.length ≤ 10000) : appendA (beginA [([105, 110], [], [])] (upS 10000 0 1)) (⟨#[105, 110]⟩ : ByteArray).data.toList c = (0, ([([105, 110], c, [])], upS 10000 (sec c.length) 2)) := by
  rw [begin_up]
  have := append_up (l0 := []) (n := [105, 110]) (R := 10000) (U := 0) (k := 1 + 1) (F := []) (S := []) rfl c
  rw [List.nil_append, if_pos (by omega), Int.zero_add, Int.zero_add] at this
  exact this

/-! ### The walk -/
set_option maxRecDepth 100000 in
set_option maxHeartbeats 20000000 in
theorem walk (a0 : Option Addr) (len0 cap0 : Nat) (z0 : List Int) (w : World) (w0 : IsRow .u8 w a0 len0 cap0 z0) (hT : Tab w) :
    Calls Tryz.prog 9 #[.slice a0 len0 cap0] w fun e w' => e = .returned (.bool true) ∧ Below w.heap.size w w' := by
  obtain ⟨bn, c, hmin, hIB, hbl, hm1, hm2, hm3⟩ := cut_min w0 1000 1000 rfl
  have hbc : (bn : Int) ≤ (cap0 : Int) := by omega
  have SH := hide (shown10_any w hT)
  have HT := hide hT
  have HIB := hide hIB
  have hcl : c.length ≤ 1000 := by omega
  have HCL := hide hcl
  have hsec : sec c.length ≤ 100 := by unfold sec; omega
  have hsec0 : 0 ≤ sec c.length := sec_nonneg _
  have HSEC : Hid (sec c.length ≤ 10000) := by show _ ≤ _; omega
  obtain ⟨rs, er, hrd⟩ : ∃ rs er, readB false c = (rs, er) := ⟨_, _, rfl⟩
  have hok := readB_ok false c hIB.bytes
  have hrl := readB_len16 false c
  rw [hrd] at hok hrl
  have HRD := hide hrd
  have HOK := hide hok
  have hrl2 : rs.length ≤ 70 := by dsimp only at hrl; omega
  have HRL := hide hrl2
  obtain ⟨S, hS⟩ : ∃ S, S = sec c.length := ⟨_, rfl⟩
  have HS := hide hS
  rw [← hS] at hsec hsec0
  clear w0 hIB hbl hcl hrd hok hrl hrl2 hS hT
  go_enter Tryz.func9, Tryz.ntmps9
  go_wp2_with fail
  refine SH.out.mono ?_
  rintro e w1 ⟨rfl, b1⟩
  have B1 := hide b1
  clear b1 SH
  go_wp2_with fail
  refine (Lw.new (w0 := w) (w := w1) (hs := []) 10000 (by omega) B1.out (by simp)).mono ?_
  rintro e w2 ⟨p, rfl, L2, b2⟩
  have HL2 := hide L2
  clear L2 b2 B1
  go_wp2_with fail
  refine (HL2.out.create (by simp [upS]) ⟨#[105, 110]⟩ nmIn (create_in 10000)).mono ?_
  rintro e w3 ⟨rfl, L3, d3⟩
  have HL3 := hide L3
  clear L3 d3 HL2
  go_wp2_with fail
  refine (HL3.out.append (by simp [upS]) ⟨#[105, 110]⟩ nmIn (.slice a0 bn cap0) c (HIB.out.below HL3.out.bel) (by have := HCL.out; omega) (fun hne x hx => (HIB.out.lt hne) x hx) (append_in c HSEC.out)).mono ?_
  rintro e w4 ⟨rfl, L4, d4⟩
  rw [← HS.out] at L4
  have HL4 := hide L4
  clear L4 d4 HL3
  go_wp2_with fail
  refine (HL4.out.read ⟨#[105, 110]⟩ nmIn (x := ([105, 110], c, [])) rfl (by have := HCL.out; dsimp only; omega) HRD.out HOK.out (by have := HRL.out; omega)).mono ?_
  rintro e w5 ⟨rv, k5, rfl, r5, L5, d5, hk5, hk5'⟩
  have HL5 := hide (L5.sub (hs' := []) (by simp))
  have hkb : k5 ≤ 1000 := by have := HRL.out; omega
  have hk50 : 0 ≤ k5 := by omega
  by_cases he : er = 0
  · subst he
    rw [if_pos rfl] at r5
    obtain ⟨ra, rcap, rfl, _⟩ := r5.isR.form
    obtain ⟨P, hP⟩ : ∃ P, P = passesN (rs.length : Nat) (4 : Nat) (2 : Nat) := ⟨_, rfl⟩
    have SO := HL5.out.sort_ok (n := 4) (fan := 2) (how := 0) (out := ⟨#[111, 117, 116]⟩) (temp := ⟨#[116]⟩) HT.out (by decide) (by decide) (by decide) (by decide) rfl hk50 (by omega) nmIn nmOut (by decide) (x := ([105, 110], c, [])) rfl (by have := HCL.out; dsimp only; omega) HRD.out HOK.out (by have := HRL.out; omega) rfl rfl (by decide) (dot_look (by simp) _) (by have := HRL.out; omega)
    rw [← hP] at SO
    have HSO := hide SO
    have PP := hide (fun W => passes_any W (rs.length : Nat) (4 : Nat) (2 : Nat) (by have := HRL.out; omega) (by omega) (by omega))
    rw [← hP] at PP
    clear hP SO L5 d5 r5 HL4 hk5 hk5' HL5
    go_wp2_with fail
    refine HSO.out.mono ?_
    rintro e w6 ⟨k6, rfl, L6, d6, hk6, hk6'⟩
    have L6' : Lw w w6 p ([([105, 110], c, []), ([111, 117, 116], fileB (canR 0 rs), fileB (canR 0 rs))], upS 10000 (S + sec (fileB (canR 0 rs)).length) k6) [] := L6
    have HL6 := hide L6'
    clear L6 L6' d6 HSO
    go_wp2_with fail
    refine (HL6.out.list 2 rfl (by omega)).mono ?_
    rintro e w7 ⟨na, ncap, rfl, L7, d7⟩
    have HB := hide L7.bel
    clear L7 d7 HL6
    go_wp2_with (go_at_call 20; refine (PP.out _).mono ?_; rintro e w8 ⟨rfl, b8⟩; have B8 := hide b8; clear b8)
    go_ret
    exact ⟨rfl, below_then HB.out B8.out⟩
  · have SO := HL5.out.sort_calm (n := 4) (fan := 2) (how := 0) (out := ⟨#[111, 117, 116]⟩) (temp := ⟨#[116]⟩) HT.out (by decide) (by decide) (by decide) (by decide) rfl hk50 (by omega) nmIn nmOut (by decide) (x := ([105, 110], c, [])) rfl (by have := HCL.out; dsimp only; omega) HRD.out HOK.out (by have := HRL.out; omega) rfl rfl (by decide) (dot_look (by simp) _)
    have HSO := hide SO
    have heb : (er == 0) = false := by simpa using he
    have hen : (er != 0) = true := by simpa using he
    obtain ⟨ra, rcap, rfl, _⟩ := r5.isR.form
    clear SO L5 d5 r5 HL4 hk5 hk5' HL5
    go_wp2_with fail
    refine HSO.out.mono ?_
    rintro e w6 ⟨k6, hk6, hk6', d6, ⟨h0, _⟩ | ⟨e', h0, rfl, h1, L6⟩⟩
    · exact absurd h0 he
    · obtain rfl : e' = er := by
        rcases h1 with ⟨h1, _⟩ | ⟨_, h1⟩
        · exact h1
        · have := HRL.out; omega
      have HL6 := hide L6
      clear L6 d6 HSO h1
      go_wp2_with fail
      refine (HL6.out.list 1 rfl (by omega)).mono ?_
      rintro e w7 ⟨na, ncap, rfl, L7, d7⟩
      have HB := hide L7.bel
      clear L7 d7 HL6
      go_wp2
      go_ret
      exact ⟨rfl, HB.out⟩

/-! ### The row's step -/
theorem tab_of {W : World} (h : laidMetH Tryz.prog [("math/bits.deBruijn32tab", Rows.laid_math_bits_deBruijn32tab), ("math/bits.deBruijn64tab", Rows.laid_math_bits_deBruijn64tab), ("internal/strconv.uint64pow10", Rows.laid_internal_strconv_uint64pow10)] W) : Tab W := by
  rw [MakeChecks.laidMetH_plain _ _ _ (by kernel_rfl)] at h
  obtain ⟨ps, ⟨_, _, _, _, p1, q1, _, _, _, _, ⟨_, _, _, _, p2, q2, _, _, _, _, ⟨g, t, cs, fuel, p, q, hg, ht, hvar, hd, _, _⟩, _⟩, _⟩, _⟩ := h
  have hty : (Tryz.prog.globals[gTab]?).map (·.type) = some 209 := by unfold gTab; kernel_rfl
  obtain rfl := Option.some.inj (gTab_is.symm.trans hg)
  obtain rfl := Option.some.inj (hty.symm.trans ht)
  unfold Tab Lib.TabIs
  rw [hvar, ← Lib.cells_of_tab (k := .u64) (zs := Lib.pow10Tab) Tryz.underlying209 Tryz.underlying50 (by kernel_rfl) (by kernel_rfl) hd]

theorem door_met (os : Os) (args : Array Value) : laidMetH Tryz.prog [("math/bits.deBruijn32tab", Rows.laid_math_bits_deBruijn32tab), ("math/bits.deBruijn64tab", Rows.laid_math_bits_deBruijn64tab), ("internal/strconv.uint64pow10", Rows.laid_internal_strconv_uint64pow10)] ((World.doorLaid Tryz.prog 4000 os).forCall (fun _ _ => 0) ⟨#[], args, []⟩).memory :=
  laidMetH_of_parts3 (fuel := 8) (laidMet_of_run' 8 (by kernel_rfl) (by kernel_rfl)) (by kernel_rfl) (by kernel_rfl)

set_option maxRecDepth 100000 in
theorem lifted (os : Os) (started : os.Started) (H : Type) (enc : TypeId × Value → H) :
    ReturnsInHanded {} Tryz.checked os 9 .any (fun w args => (Rows.extsortBytesSpec.pre enc Tryz.prog Tryz.f9 [] false w args ∧ laidMetH Tryz.prog [("math/bits.deBruijn32tab", Rows.laid_math_bits_deBruijn32tab), ("math/bits.deBruijn64tab", Rows.laid_math_bits_deBruijn64tab), ("internal/strconv.uint64pow10", Rows.laid_internal_strconv_uint64pow10)] w) ∧ sizedMet enc Tryz.prog Tryz.f9 (OpenSpec.ofChange Rows.extsortBytesSpec) false w args)
      (Rows.extsortBytesSpec.post enc Tryz.prog Tryz.f9 false true false false) := by
  refine returnsInHanded_of_change_and (C := Tryz.checked) (X := fun w _ => laidMetH Tryz.prog [("math/bits.deBruijn32tab", Rows.laid_math_bits_deBruijn32tab), ("math/bits.deBruijn64tab", Rows.laid_math_bits_deBruijn64tab), ("internal/strconv.uint64pow10", Rows.laid_internal_strconv_uint64pow10)] w) (fun _ _ _ hh h => h.of_heap hh) own started (by kernel_rfl) Tryz.func9
    (ChangeSpec.witness_shaped (enc := enc) (C := Tryz.checked) (os := os) (X := fun w _ => laidMetH Tryz.prog [("math/bits.deBruijn32tab", Rows.laid_math_bits_deBruijn32tab), ("math/bits.deBruijn64tab", Rows.laid_math_bits_deBruijn64tab), ("internal/strconv.uint64pow10", Rows.laid_internal_strconv_uint64pow10)] w) false (World.doorLaid Tryz.prog 4000 os) #[.slice none 0 0] 8 rfl (World.shaped_of_RefB (by kernel_rfl) (by kernel_rfl)) (by kernel_rfl) (by kernel_rfl) (by kernel_rfl) (door_met os _)) ?_
  intro W base args ds gs before hval0 hW hcnd _ hL _
  have hval : ∀ (j : Nat) t v, Tryz.f9.params[j]? = some t → args[j]? = some v → Value.okWide Tryz.prog W .any base t v := hval0
  have hW' := hW
  obtain ⟨p, q, hA0, hV, rfl, hfz, hnd⟩ := hW
  have hA : DataW.TrodAll enc Tryz.prog W 0 (fun _ => true) true Tryz.f9.params.toList args.toList ds p := hA0
  rw [Tryz.params9] at hA hval
  obtain ⟨v0, vs0, d0, ds0, p0, q0, hargs, rfl, rfl, h0, r0⟩ := trodAll_cons hA
  obtain ⟨rfl, rfl, rfl⟩ := trodAll_nil r0
  obtain rfl : args = #[v0] := by cases args; simp_all
  obtain ⟨rfl, rfl⟩ := trodVars_none hV
  obtain ⟨a0, len0, cap0, rfl⟩ := okWide_slice Tryz.underlying46 (hval 0 46 v0 rfl rfl)
  have k0 := h0
  have lt0 : ∀ x ∈ p0, x.block < W.heap.size := by obtain ⟨m, hm⟩ := k0; exact DataW.trod_lt m _ _ _ hm
  obtain ⟨z0, w0⟩ : ∃ zs, IsRow .u8 W a0 len0 cap0 zs := by
    obtain ⟨fuel, hf⟩ := h0
    rcases open_ints Tryz.underlying46 Tryz.underlying5 (by kernel_rfl) hf with ⟨hcs, _⟩ | ⟨x, l, c, zs, hcs, _, hl, hm, hz, _, hcell, hwz⟩
    · simp [Value.cells] at hcs
      obtain ⟨rfl, rfl, rfl⟩ := hcs
      exact ⟨[], .inl ⟨rfl, rfl, rfl, rfl⟩⟩
    · simp [Value.cells] at hcs
      obtain ⟨rfl, rfl, rfl⟩ := hcs
      exact ⟨zs, .inr ⟨_, rfl, hl, hm, by simpa using hz, hcell, hwz⟩⟩
  have hT := tab_of hL
  clear hA0 hval0
  refine (walk a0 len0 cap0 z0 W w0 hT).mono fun e W' ⟨he, bel⟩ => ?_
  subst he
  exact ⟨_, rfl, _, _, _, [], _, [], hW', trodAll_mk1 (shut_bool Tryz.underlying4 _), (trodAll_cons_mk (Below.trod laidOut (by kernel_rfl) (of_decide_eq_true (by kernel_rfl)) k0 bel lt0) trodAll_mk0), rfl, bel.frame _, fun h => by cases h⟩

theorem over : Rows.extsortBytesRow.holds Tryz.pinned (OpenSpec.ofChange Rows.extsortBytesSpec) :=
  OpenClaim.holds_of_wide 9 Tryz.f9 rfl rfl rfl rfl rfl rfl rfl ⟨rfl, rfl, rfl, rfl, rfl⟩ rfl rfl rfl rfl rfl (by kernel_rfl) Tryz.func9 (by kernel_rfl)
    (of_decide_eq_true (by kernel_rfl)) (by unfold Func.isWrapper; first | (rw [if_pos (by decide +kernel)]; kernel_rfl) | (rw [if_neg (by decide +kernel)]; exact ⟨rfl, rfl⟩))
    (fun os started H enc _ => lifted os started H enc)

/-- The tied card. -/
theorem proved : Rows.ExtsortBytesCardSaid :=
  Claim7.holds_tied_plain_at .later [] [.data, .data, .data] true (true, "faa2ecafac8662add5a5fb14381b479056ba2cacb83f709c9c3b464184dd77bf") false
    over (fun _ h => by cases h) (by kernel_rfl) (fun _ h => by cases h) extsortBytes_row_tie rfl ⟨rfl, rfl⟩ (by kernel_rfl) rfl
    (fun f fn hf hfn => by
      obtain rfl : f = 9 := Option.some.inj ((show Tryz.prog.funcNamed "cartage/cartagelaw10.ExtsortBytes" = some 9 by kernel_rfl).symm.trans hf) |>.symm
      obtain rfl : fn = Tryz.f9 := (Option.some.inj (Tryz.func9.symm.trans hfn)).symm
      exact ⟨by kernel_rfl, fun j t ht => by
        rw [Tryz.params9] at ht
        have hm : t ∈ [46] := by simpa using Array.mem_of_getElem? ht
        have hall : ([46].all fun u => !Tryz.prog.wantsStandIn u) = true := by kernel_rfl
        exact (show Tryz.prog.wantsStandIn t = false by simpa using List.all_eq_true.1 hall t hm)⟩)
    (by kernel_rfl)
#print axioms proved
end Go.Proofs.YtgpbanjammipiaaGreatDoor.extsortBytes
