/-
  Proved: for every slice of records, every integer and every slice of truths ExtsortDown returns true and leaves the slices as they were (a crash on the way is told, and leaves the records as they were; then it can be sorted). No condition but the tables that the program's text lays.
-/
import Derived.WalkKit
import Derived.ProofKit
import Derived.OpenShut
import Derived.ShutString
import Derived.Deep.Grids
import Derived.Test.YtgpbanjammipiaaGreatDoorXDown
import Derived.Test.YtgpbanjammipiaaGreatDoorTie
import Derived.Test.YtgpbanjammipiaaGreatDoorCards
import Derived.LaidMore
import Derived.SevenTiedAt
namespace Go.Proofs.YtgpbanjammipiaaGreatDoor.extsortDown
open Go.ChangeShapes Go.WideShapes Go.ChangeAt Go.RowKit
open Go.ChangeMaps (open_string shut_string)
set_option linter.unusedVariables false

theorem own : ownKnob Tryz.prog.godebug = none := by kernel_rfl
theorem laidOut : laidOutB Tryz.prog = true := by kernel_rfl

theorem cutK {w : World} {a : Option Addr} {len cap : Nat} {ks : List Bool} (h : IsK w (.slice a len cap) ks) (hl : ks.length = len) (hc : len ≤ cap) :
    ∃ (m : Nat) (js : List Bool), (∀ (ts : Array TypeId) (t : TypeId) (w : World), (Builtin.min_ ts t #[.int .i64 (len : Int), .int .i64 60]).run Tryz.prog w = .ok (.int .i64 (m : Int)) w) ∧ IsK w (.slice a m cap) js ∧ js.length = m ∧ m ≤ 60 ∧ m ≤ len ∧ m ≤ cap := by
  refine ⟨min len 60, ks.take (min len 60), fun ts t w => ?_, ?_, by rw [List.length_take]; omega, by omega, by omega, by omega⟩
  · rw [run_min_int2]
    congr 2
    split <;> omega
  · obtain ⟨a', c', he, h1, h2, h3⟩ := h
    simp only [Value.slice.injEq] at he
    obtain ⟨rfl, rfl, rfl⟩ := he
    have e : (ks.take (min ks.length 60)).length = min ks.length 60 := by rw [List.length_take]; omega
    refine ⟨a, cap, by rw [e], by rw [e]; omega, fun hn => ?_, fun x hx j hj => ?_⟩
    · rw [(h2 hn).1]
      exact ⟨by simp, (h2 hn).2⟩
    · rw [e] at hj
      rw [h3 x hx j (by omega), List.getElem?_take_of_lt hj]

/-! ### The walk -/
set_option maxRecDepth 100000 in
set_option maxHeartbeats 20000000 in
theorem walk (a0 : Option Addr) (len0 cap0 : Nat) (es0 : List Rc) (a1 : Int) (a2 : Option Addr) (len2 cap2 : Nat) (ks2 : List Bool) (w : World) (i0 : IsR w (.slice a0 len0 cap0) es0) (l0 : es0.length = len0) (m0 : len0 ≤ maxLen) (w1 : (Lit.int .i64 a1).wf = true) (i2 : IsK w (.slice a2 len2 cap2) ks2) (l2 : ks2.length = len2) (c2 : len2 ≤ cap2) (hT : Tab w) :
    Calls Tryz.prog 7 #[.slice a0 len0 cap0, .int .i64 a1, .slice a2 len2 cap2] w fun e w' => e = .returned (.bool true) ∧ Below w.heap.size w w' := by
  obtain ⟨o1, ho1, ho1'⟩ := modN a1 200 (by decide)
  obtain ⟨L, hL⟩ : ∃ L : Int, L = 1 + (o1 : Int) := ⟨_, rfl⟩
  have wL : IntKind.i64.wrap (1 + (o1 : Int)) = L := by rw [hL]; exact i64_small _ (by omega) (by omega)
  have xL : 1 + (o1 : Int) = L := hL.symm
  have gL : 1 ≤ L ∧ L ≤ 200 := by omega
  obtain ⟨km, js, hmin, hIK, hjl, hj1, hj2, hj3⟩ := cutK i2 l2 c2
  have hkc : (km : Int) ≤ (cap2 : Int) := by omega
  obtain ⟨hk, hk1, hk2⟩ : ∃ hk : List Nat, (∀ x ∈ hk, x < w.heap.size) ∧ (js ≠ [] → ∀ x ∈ YtgpbanjammipiaaGreatDoor.own (.slice a2 km cap2), x ∈ hk) := by
    by_cases h : js = []
    · exact ⟨[], by simp, fun e => absurd h e⟩
    · exact ⟨YtgpbanjammipiaaGreatDoor.own (.slice a2 km cap2), fun x hx => hIK.lt h x hx, fun _ x hx => hx⟩
  have HK := hide (And.intro hIK (And.intro hk1 (And.intro hk2 (show js.length ≤ 1099511627776 by omega))))
  clear hL ho1' w1 i2 l2 c2 hIK hjl hk1 hk2
  have SH := hide (shown10_any w hT)
  have HT := hide hT
  have HI := hide i0
  have hln : es0.length ≤ 9223372036854775807 := by unfold maxLen at m0; omega
  have HLN := hide hln
  clear i0 l0 m0 hln hT
  go_enter Tryz.func7, Tryz.ntmps7
  go_wp2_with fail
  refine SH.out.mono ?_
  rintro e w1 ⟨rfl, b1⟩
  have FW := hide (few10_any (HI.out.below b1) HLN.out)
  have B1 := hide b1
  clear b1
  go_wp2_with fail
  refine FW.out.mono ?_
  rintro e w2 ⟨v, rfl, r2, b2, n2⟩
  obtain ⟨es, hes⟩ : ∃ es, es = es0.take 120 := ⟨_, rfl⟩
  have hel : es.length ≤ 120 := by rw [hes, List.length_take]; omega
  rw [← hes] at r2
  have B2 := hide (below_then B1.out b2)
  have R2 := hide r2
  obtain ⟨c, d, RC⟩ : ∃ c d, Rec10 1 es c d := ⟨_, _, rec10 1 hel r2.2⟩
  have HR := hide RC
  obtain ⟨va, vcap, rfl, hvc⟩ := r2.isR.form
  obtain ⟨n, hn⟩ : ∃ n, n = es.length := ⟨_, rfl⟩
  have HN := hide hn
  obtain ⟨S, hS⟩ : ∃ S, S = sec c.length := ⟨_, rfl⟩
  have HS := hide hS
  have hS0 : 0 ≤ S := by rw [hS]; exact RC.secs0
  have hS1 : S ≤ 240 := by have := RC.secs; rw [hS]; omega
  rw [← hn] at R2 hvc ⊢
  have hn120 : n ≤ 120 := by omega
  clear hes hel r2 b2 n2 SH FW B1 hn hS RC
  obtain ⟨hs, hhs⟩ : ∃ hs, hs = hk ++ YtgpbanjammipiaaGreatDoor.own (.slice va n vcap) := ⟨_, rfl⟩
  have h1 : ∀ x ∈ YtgpbanjammipiaaGreatDoor.own (.slice va n vcap), x ∈ hs := fun x hx => by rw [hhs]; exact List.mem_append.2 (.inr hx)
  have h2 : ∀ x ∈ hk, x ∈ hs := fun x hx => by rw [hhs]; exact List.mem_append.2 (.inl hx)
  have h3 : ∀ x ∈ hs, x < w2.heap.size := fun x hx => by
    rw [hhs] at hx
    rcases List.mem_append.1 hx with hx | hx
    · exact Nat.lt_of_lt_of_le (HK.out.2.1 x hx) B2.out.size
    · exact R2.out.low x hx
  have H1 := hide h1
  have H2 := hide h2
  have H3 := hide h3
  clear hhs h1 h2 h3
  go_wp2_with fail
  refine (Lw.new (w0 := w) (w := w2) (hs := hs) 10000 (by omega) B2.out H3.out).mono ?_
  rintro e w3 ⟨p, rfl, L3, b3⟩
  have HL3 := hide L3
  have R3 := hide (R2.out.hld (Hld.below b3) H1.out)
  clear L3 b3 R2 H3 B2
  go_wp2_with fail
  refine (HL3.out.write_ok ⟨#[105, 110]⟩ nmIn rfl rfl (by omega) (by have := HS.out; rw [← HR.out.file]; omega) (by have := HN.out; omega) R3.out.isR (fun _ => H1.out)).mono ?_
  rintro e w4 ⟨k4, rfl, L4, d4, hk4, hk4'⟩
  rw [← HR.out.file, Int.zero_add, ← HS.out] at L4
  have L4' : Lw w w4 p ([([105, 110], c, c)], upS 10000 S k4) hs := L4
  have HL4 := hide L4'
  have R4 := hide (R3.out.hld d4 H1.out)
  have hk4b : k4 ≤ 200 := by have := HN.out; omega
  have hk40 : 0 ≤ k4 := by omega
  clear L4 L4' d4 R3 HL3 hk4' hk4
  go_wp2_with fail
  refine (HL4.out.arm L (by omega) (.slice a2 km cap2) js (HK.out.1.below HL4.out.bel) (fun hne x hx => H2.out x (HK.out.2.2.1 hne x hx)) HK.out.2.2.2 (B := ([([105, 110], c, c)], { room := 10000, used := S, ops := k4, down := false, left := L, keep := js })) (by unfold armA; rw [if_neg (by omega)]; rfl)).mono ?_
  rintro e w5 ⟨rfl, L5, d5⟩
  have HL5 := hide L5
  have R5 := hide (R4.out.hld d5 H1.out)
  have SA := hide (L5.sort_armed (n := 7) (fan := 3) (how := 1) (inn := ⟨#[105, 110]⟩) (out := ⟨#[111, 117, 116]⟩) (temp := ⟨#[116, 101, 109, 112]⟩) (rs := es) (c := c) rfl HT.out (by decide) (by decide) (by decide) (by decide) rfl hk40 (by dsimp only; omega) nmIn nmOut (by decide) rfl (by have := HR.out.len; omega) HR.out.read HR.out.ok HR.out.few rfl rfl (by decide) (dot_look (by simp) _) (by have := HN.out; dsimp only; omega))
  clear L5 d5 R4 HL4 HL5
  go_wp2_with fail
  refine SA.out.mono ?_
  rintro e w6 ⟨B, P, kk, L6, d6, hk6, hk6', AF, rfl, hres⟩
  have HL6 := hide L6
  have HAF := hide AF
  have R6 := hide (R5.out.hld d6 H1.out)
  have DN := hide L6.down
  have hk6b : B.2.ops ≤ 320000 := by omega
  have hk60 : 0 ≤ B.2.ops := by omega
  clear L6 d6 R5 SA AF hk6 hk6'
  rcases hres with ⟨rfl, hd⟩ | ⟨rfl, hd⟩
  all_goals
    rw [hd] at DN
    clear hd
    go_wp2_with (go_at_call 23; refine DN.out.mono ?_; rintro e w7 ⟨rfl, rfl⟩)
    refine (HL6.out.arm 0 (by omega) _ [] (IsK.nil _) (by simp) (Nat.zero_le _) (B := (B.1, { B.2 with left := 0, keep := [] })) (by unfold armA; rw [if_pos (by omega)])).mono ?_
    rintro e w8 ⟨rfl, L8, d8⟩
    have R8 := hide (R6.out.hld d8 H1.out)
    have HL8 := hide L8
    clear L8 d8 R6 HL6 DN
    go_wp2_with fail
    refine HL8.out.restart.mono ?_
    rintro e w9 ⟨rfl, L9, d9⟩
    obtain ⟨U, hU⟩ : ∃ U, U = B.2.used := ⟨_, rfl⟩
    have hAR : B.2.room = 10000 := HAF.out.1
    have hUb : U ≤ 800 := by have := HAF.out.2.1; have := HR.out.few; omega
    have L9' : Lw w w9 p (B.1, upS 10000 U B.2.ops) hs := by
      rw [hU, ← hAR]
      exact L9
    have R9 := hide (R8.out.hld d9 H1.out)
    have HL9 := hide L9'
    clear L9 L9' d9 R8 HL8 hAR hU
    go_wp2_with fail
    refine (HL9.out.read ⟨#[105, 110]⟩ nmIn (x := ([105, 110], c, c)) HAF.out.2.2.1 (by have := HR.out.len; dsimp only; omega) HR.out.read HR.out.ok (by have := HR.out.few; omega)).mono ?_
    rintro e w10 ⟨iv, k10, rfl, r10, L10, d10, hk10, hk10'⟩
    rw [if_pos rfl] at r10
    have R10 := hide (R9.out.hld d10 H1.out)
    have I10 := hide r10
    have HL10 := hide L10
    have hk10b : k10 ≤ 330000 := by have := HR.out.few; omega
    have hagn : lookA B.1 (⟨#[97, 103, 97, 105, 110]⟩ : ByteArray).data.toList = none := HAF.out.2.2.2 _ (by decide) (fun r => dot_ne (by decide) _ r) rfl
    have SO := L10.sort_ok (n := 7) (fan := 3) (how := 1) (out := ⟨#[97, 103, 97, 105, 110]⟩) (temp := ⟨#[109, 111, 114, 101]⟩) HT.out (by decide) (by decide) (by decide) (by decide) rfl (by omega) (by omega) nmIn nmAgain (by decide) (x := ([105, 110], c, c)) HAF.out.2.2.1 (by have := HR.out.len; dsimp only; omega) HR.out.read HR.out.ok HR.out.few hagn rfl (by decide) (fun r => HAF.out.2.2.2 _ (fun e => dot_ne (by decide) _ r e.symm) (fun r' => more_ne r r') (dot_look (by simp) _ r)) (by have := HR.out.few; omega)
    rw [← HR.out.out] at SO
    have HSO := hide SO
    have HAG := hide hagn
    clear L10 d10 r10 R9 HL9 hk10' SO hagn
    go_wp2_with fail
    refine HSO.out.mono ?_
    rintro e w11 ⟨k11, rfl, L11, d11, hk11, hk11'⟩
    have HL11 := hide L11
    have R11 := hide (R10.out.hld d11 (fun x hx => List.mem_append.2 (.inr (H1.out x hx))))
    have I11 := hide (I10.out.hld d11 (fun x hx => List.mem_append.2 (.inl hx)))
    clear L11 d11 R10 I10 HL10 HSO
    go_wp2_with fail
    refine (HL11.out.read ⟨#[97, 103, 97, 105, 110]⟩ nmAgain (x := ((⟨#[97, 103, 97, 105, 110]⟩ : ByteArray).data.toList, d, d)) (lookA_ins B.1 _ HAG.out) (by have := HR.out.len2; dsimp only; omega) HR.out.read2 HR.out.ok2 (by have := HR.out.few2; omega)).mono ?_
    rintro e w12 ⟨kv, k12, rfl, r12, L12, d12, hk12, hk12'⟩
    rw [if_pos rfl] at r12
    have HB := hide L12.bel
    have R12 := hide (R11.out.hld d12 (fun x hx => List.mem_append.2 (.inr (H1.out x hx)))).isR
    have I12 := hide (I11.out.hld d12 (fun x hx => List.mem_append.2 (.inl hx))).isR
    have K12 := hide r12.isR
    clear L12 d12 r12 R11 I11 HL11 hk12 hk12'
    go_wp2_with fail
    refine (same_recs I12.out R12.out (by have := HR.out.few; omega)).mono ?_
    rintro e w13 ⟨rfl, k13⟩
    rw [decide_eq_true rfl]
    have B13 := hide (k13.below (Nat.le_refl w12.heap.size) (by simp))
    clear k13 I12
    go_wp2_with (go_at_call 19; refine (refSorted_any 1 (R12.out.below B13.out) (by have := HR.out.few; omega)).mono ?_; rintro e w14 ⟨sv, rfl, s14, b14⟩; have S14 := hide s14; have B14 := hide (below_then B13.out b14); clear s14 b14)
    refine (same_recs (K12.out.below B14.out) S14.out (by have := HR.out.few2; omega)).mono ?_
    rintro e w15 ⟨rfl, k15⟩
    rw [decide_eq_true rfl]
    have B15 := hide (B14.out.trans ((k15.below (Nat.le_refl _) (by simp)).mono B14.out.size))
    clear k15
    go_wp2
    go_ret
    exact ⟨rfl, below_then HB.out B15.out⟩

/-! ### The row's step -/
theorem tab_of {W : World} (h : laidMetH Tryz.prog [("math/bits.deBruijn32tab", Rows.laid_math_bits_deBruijn32tab), ("math/bits.deBruijn64tab", Rows.laid_math_bits_deBruijn64tab), ("internal/strconv.uint64pow10", Rows.laid_internal_strconv_uint64pow10)] W) : Tab W := by
  rw [MakeChecks.laidMetH_plain _ _ _ (by kernel_rfl)] at h
  obtain ⟨ps, ⟨_, _, _, _, p1, q1, _, _, _, _, ⟨_, _, _, _, p2, q2, _, _, _, _, ⟨g, t, cs, fuel, p, q, hg, ht, hvar, hd, _, _⟩, _⟩, _⟩, _⟩ := h
  have hty : (Tryz.prog.globals[gTab]?).map (·.type) = some 209 := by unfold gTab; kernel_rfl
  obtain rfl := Option.some.inj (gTab_is.symm.trans hg)
  obtain rfl := Option.some.inj (hty.symm.trans ht)
  unfold Tab Lib.TabIs
  rw [hvar, ← Lib.cells_of_tab (k := .u64) (zs := Lib.pow10Tab) Tryz.underlying209 Tryz.underlying50 (by kernel_rfl) (by kernel_rfl) hd]

theorem door_met (os : Os) (args : Array Value) : laidMetH Tryz.prog [("math/bits.deBruijn32tab", Rows.laid_math_bits_deBruijn32tab), ("math/bits.deBruijn64tab", Rows.laid_math_bits_deBruijn64tab), ("internal/strconv.uint64pow10", Rows.laid_internal_strconv_uint64pow10)] ((World.doorLaid Tryz.prog 4000 os).forCall (fun _ _ => 0) ⟨#[], args, []⟩).memory :=
  laidMetH_of_parts3 (fuel := 8) (laidMet_of_run' 8 (by kernel_rfl) (by kernel_rfl)) (by kernel_rfl) (by kernel_rfl)

set_option maxRecDepth 100000 in
theorem lifted (os : Os) (started : os.Started) (H : Type) (enc : TypeId × Value → H) :
    ReturnsInHanded {} Tryz.checked os 7 .any (fun w args => (Rows.extsortDownSpec.pre enc Tryz.prog Tryz.f7 [] false w args ∧ laidMetH Tryz.prog [("math/bits.deBruijn32tab", Rows.laid_math_bits_deBruijn32tab), ("math/bits.deBruijn64tab", Rows.laid_math_bits_deBruijn64tab), ("internal/strconv.uint64pow10", Rows.laid_internal_strconv_uint64pow10)] w) ∧ sizedMet enc Tryz.prog Tryz.f7 (OpenSpec.ofChange Rows.extsortDownSpec) false w args)
      (Rows.extsortDownSpec.post enc Tryz.prog Tryz.f7 false true false false) := by
  refine returnsInHanded_of_change_and (C := Tryz.checked) (X := fun w _ => laidMetH Tryz.prog [("math/bits.deBruijn32tab", Rows.laid_math_bits_deBruijn32tab), ("math/bits.deBruijn64tab", Rows.laid_math_bits_deBruijn64tab), ("internal/strconv.uint64pow10", Rows.laid_internal_strconv_uint64pow10)] w) (fun _ _ _ hh h => h.of_heap hh) own started (by kernel_rfl) Tryz.func7
    (ChangeSpec.witness_shaped (enc := enc) (C := Tryz.checked) (os := os) (X := fun w _ => laidMetH Tryz.prog [("math/bits.deBruijn32tab", Rows.laid_math_bits_deBruijn32tab), ("math/bits.deBruijn64tab", Rows.laid_math_bits_deBruijn64tab), ("internal/strconv.uint64pow10", Rows.laid_internal_strconv_uint64pow10)] w) false (World.doorLaid Tryz.prog 4000 os) #[.slice none 0 0, .int .i64 0, .slice none 0 0] 8 rfl (World.shaped_of_RefB (by kernel_rfl) (by kernel_rfl)) (by kernel_rfl) (by kernel_rfl) (by kernel_rfl) (door_met os _)) ?_
  intro W base args ds gs before hval0 hW hcnd _ hL _
  have hval : ∀ (j : Nat) t v, Tryz.f7.params[j]? = some t → args[j]? = some v → Value.okWide Tryz.prog W .any base t v := hval0
  have hW' := hW
  obtain ⟨p, q, hA0, hV, rfl, hfz, hnd⟩ := hW
  have hA : DataW.TrodAll enc Tryz.prog W 0 (fun _ => true) true Tryz.f7.params.toList args.toList ds p := hA0
  rw [Tryz.params7] at hA hval
  obtain ⟨v0, vs0, d0, ds0, p0, q0, hargs, rfl, rfl, h0, r0⟩ := trodAll_cons hA
  obtain ⟨v1, vs1, d1, ds1, p1, q1, rfl, rfl, rfl, h1, r1⟩ := trodAll_cons r0
  obtain ⟨v2, vs2, d2, ds2, p2, q2, rfl, rfl, rfl, h2, r2⟩ := trodAll_cons r1
  obtain ⟨rfl, rfl, rfl⟩ := trodAll_nil r2
  obtain rfl : args = #[v0, v1, v2] := by cases args; simp_all
  obtain ⟨rfl, rfl⟩ := trodVars_none hV
  obtain ⟨a0, len0, cap0, rfl⟩ := okWide_slice Tryz.underlying22 (hval 0 22 v0 rfl rfl)
  have k0 := h0
  have lt0 : ∀ x ∈ p0, x.block < W.heap.size := by obtain ⟨m, hm⟩ := k0; exact DataW.trod_lt m _ _ _ hm
  obtain ⟨es0, i0, l0, m0⟩ : ∃ es, IsR W (.slice a0 len0 cap0) es ∧ es.length = len0 ∧ len0 ≤ maxLen := by
    obtain ⟨fuel, hf⟩ := h0
    obtain ⟨a, len, cap, es, hcs, h1, h2, h3⟩ := recsIn hf
    simp [Value.cells] at hcs
    obtain ⟨rfl, rfl, rfl⟩ := hcs
    exact ⟨es, h1, h2, h3⟩
  obtain ⟨a1, rfl, rfl, rfl, w1⟩ := open_int Tryz.underlying3 (hval 1 3 v1 rfl rfl) h1
  obtain ⟨a2, len2, cap2, rfl⟩ := okWide_slice Tryz.underlying43 (hval 2 43 v2 rfl rfl)
  have k2 := h2
  have lt2 : ∀ x ∈ p2, x.block < W.heap.size := by obtain ⟨m, hm⟩ := k2; exact DataW.trod_lt m _ _ _ hm
  obtain ⟨ks2, i2, l2, c2⟩ : ∃ ks, IsK W (.slice a2 len2 cap2) ks ∧ ks.length = len2 ∧ len2 ≤ cap2 := by
    obtain ⟨fuel, hf⟩ := h2
    rcases Go.Deep.open_bools Tryz.underlying43 Tryz.underlying4 (by kernel_rfl) hf with ⟨hcs, _⟩ | ⟨x, l, c, B, hcs, _, hl, hm, _, hcell⟩
    · simp [Value.cells] at hcs
      obtain ⟨rfl, rfl, rfl⟩ := hcs
      exact ⟨[], IsK.nil W, rfl, Nat.le_refl _⟩
    · simp [Value.cells] at hcs
      obtain ⟨rfl, rfl, rfl⟩ := hcs
      refine ⟨(List.range len2).map B, ⟨some x, cap2, by simp, by simp; exact hl, by simp, fun y hy i hi => ?_⟩, by simp, hl⟩
      simp at hy hi
      subst hy
      rw [hcell i (by omega)]
      simp [hi]
  have hT := tab_of hL
  clear hA0 hval0
  refine (walk a0 len0 cap0 es0 a1 a2 len2 cap2 ks2 W i0 l0 m0 w1 i2 l2 c2 hT).mono fun e W' ⟨he, bel⟩ => ?_
  subst he
  exact ⟨_, rfl, _, _, _, [], _, [], hW', trodAll_mk1 (shut_bool Tryz.underlying4 _), (trodAll_cons_mk (Below.trod laidOut (by kernel_rfl) (of_decide_eq_true (by kernel_rfl)) k0 bel lt0) (trodAll_cons_mk (shut_int Tryz.underlying3 w1) (trodAll_cons_mk (Below.trod laidOut (by kernel_rfl) (of_decide_eq_true (by kernel_rfl)) k2 bel lt2) trodAll_mk0))), rfl, bel.frame _, fun h => by cases h⟩

theorem over : Rows.extsortDownRow.holds Tryz.pinned (OpenSpec.ofChange Rows.extsortDownSpec) :=
  OpenClaim.holds_of_wide 7 Tryz.f7 rfl rfl rfl rfl rfl rfl rfl ⟨rfl, rfl, rfl, rfl, rfl⟩ rfl rfl rfl rfl rfl (by kernel_rfl) Tryz.func7 (by kernel_rfl)
    (of_decide_eq_true (by kernel_rfl)) (by unfold Func.isWrapper; first | (rw [if_pos (by decide +kernel)]; kernel_rfl) | (rw [if_neg (by decide +kernel)]; exact ⟨rfl, rfl⟩))
    (fun os started H enc _ => lifted os started H enc)

/-- The tied card. -/
theorem proved : Rows.ExtsortDownCardSaid :=
  Claim7.holds_tied_plain_at .later [] [.data, .data, .data] true (true, "faa2ecafac8662add5a5fb14381b479056ba2cacb83f709c9c3b464184dd77bf") false
    over (fun _ h => by cases h) (by kernel_rfl) (fun _ h => by cases h) extsortDown_row_tie rfl ⟨rfl, rfl⟩ (by kernel_rfl) rfl
    (fun f fn hf hfn => by
      obtain rfl : f = 7 := Option.some.inj ((show Tryz.prog.funcNamed "cartage/cartagelaw10.ExtsortDown" = some 7 by kernel_rfl).symm.trans hf) |>.symm
      obtain rfl : fn = Tryz.f7 := (Option.some.inj (Tryz.func7.symm.trans hfn)).symm
      exact ⟨by kernel_rfl, fun j t ht => by
        rw [Tryz.params7] at ht
        have hm : t ∈ [22, 3, 43] := by simpa using Array.mem_of_getElem? ht
        have hall : ([22, 3, 43].all fun u => !Tryz.prog.wantsStandIn u) = true := by kernel_rfl
        exact (show Tryz.prog.wantsStandIn t = false by simpa using List.all_eq_true.1 hall t hm)⟩)
    (by kernel_rfl)
#print axioms proved
end Go.Proofs.YtgpbanjammipiaaGreatDoor.extsortDown
