/-
  Proved: for every slice of records and every two integers ExtsortSpace returns true and leaves the slice as it was (where there is no room it is ErrSpace, and nothing is left behind). No condition but the tables that the program's text lays.
-/
import Derived.WalkKit
import Derived.ProofKit
import Derived.OpenShut
import Derived.ShutString
import Derived.Test.YtgpbanjammipiaaGreatDoorXDown
import Derived.Test.YtgpbanjammipiaaGreatDoorTie
import Derived.Test.YtgpbanjammipiaaGreatDoorCards
import Derived.LaidMore
import Derived.SevenTiedAt
namespace Go.Proofs.YtgpbanjammipiaaGreatDoor.extsortSpace
open Go.ChangeShapes Go.WideShapes Go.ChangeAt Go.RowKit
open Go.ChangeMaps (open_string shut_string)
set_option linter.unusedVariables false

theorem own : ownKnob Tryz.prog.godebug = none := by kernel_rfl
theorem laidOut : laidOutB Tryz.prog = true := by kernel_rfl


/-! ### The walk -/
set_option maxRecDepth 100000 in
set_option maxHeartbeats 20000000 in
theorem walk (a0 : Option Addr) (len0 cap0 : Nat) (es0 : List Rc) (a1 : Int) (a2 : Int) (w : World) (i0 : IsR w (.slice a0 len0 cap0) es0) (l0 : es0.length = len0) (m0 : len0 ≤ maxLen) (w1 : (Lit.int .i64 a1).wf = true) (w2 : (Lit.int .i64 a2).wf = true) (hT : Tab w) :
    Calls Tryz.prog 5 #[.slice a0 len0 cap0, .int .i64 a1, .int .i64 a2] w fun e w' => e = .returned (.bool true) ∧ Below w.heap.size w w' := by
  obtain ⟨ro, hro, hro'⟩ := modN a1 301 (by decide)
  obtain ⟨p2, hp2, hp2'⟩ := modN a2 20 (by decide)
  obtain ⟨bn, hbn⟩ : ∃ b : Nat, b = p2 + 1 := ⟨_, rfl⟩
  have wb : IntKind.i64.wrap (1 + (p2 : Int)) = (bn : Int) := by rw [i64_small _ (by omega) (by omega)]; omega
  have xb : 1 + (p2 : Int) = (bn : Int) := by omega
  have gb : 0 < bn ∧ bn ≤ 100000 := by omega
  clear hbn hp2' w1 w2
  have SH := hide (shown10_any w hT)
  have HT := hide hT
  have HI := hide i0
  have hln : es0.length ≤ 9223372036854775807 := by unfold maxLen at m0; omega
  have HLN := hide hln
  clear i0 l0 m0 hln hT
  go_enter Tryz.func5, Tryz.ntmps5
  go_wp2_with fail
  refine SH.out.mono ?_
  rintro e w1 ⟨rfl, b1⟩
  have FW := hide (few10_any (HI.out.below b1) HLN.out)
  have B1 := hide b1
  clear b1
  go_wp2_with fail
  refine FW.out.mono ?_
  rintro e w2 ⟨v, rfl, r2, b2, n2⟩
  obtain ⟨es, hes⟩ : ∃ es, es = es0.take 120 := ⟨_, rfl⟩
  have hel : es.length ≤ 120 := by rw [hes, List.length_take]; omega
  rw [← hes] at r2
  have B2 := hide (below_then B1.out b2)
  have R2 := hide r2
  obtain ⟨c, d, RC⟩ : ∃ c d, Rec10 0 es c d := ⟨_, _, rec10 0 hel r2.2⟩
  have HR := hide RC
  obtain ⟨va, vcap, rfl, hvc⟩ := r2.isR.form
  obtain ⟨n, hn⟩ : ∃ n, n = es.length := ⟨_, rfl⟩
  have HN := hide hn
  obtain ⟨S, hS⟩ : ∃ S, S = sec c.length := ⟨_, rfl⟩
  have HS := hide hS
  have hS0 : 0 ≤ S := by rw [hS]; exact RC.secs0
  have hS1 : S ≤ 240 := by have := RC.secs; rw [hS]; omega
  rw [← hn] at R2 hvc ⊢
  have hn120 : n ≤ 120 := by omega
  clear hes hel r2 b2 n2 SH FW B1 hn hS RC
  go_wp2_with fail
  refine (Lw.new (w0 := w) (w := w2) (hs := YtgpbanjammipiaaGreatDoor.own (.slice va n vcap)) 10000 (by omega) B2.out (fun x hx => R2.out.low x hx)).mono ?_
  rintro e w3 ⟨p, rfl, L3, b3⟩
  have HL3 := hide L3
  have R3 := hide (R2.out.hld (Hld.below b3) (hs := YtgpbanjammipiaaGreatDoor.own (.slice va n vcap)) (fun x hx => hx))
  clear L3 b3 R2
  go_wp2_with fail
  refine (HL3.out.write_ok ⟨#[105, 110]⟩ nmIn rfl rfl (by omega) (by have := HS.out; rw [← HR.out.file]; omega) (by have := HN.out; omega) R3.out.isR (fun _ x hx => hx)).mono ?_
  rintro e w4 ⟨k4, rfl, L4, d4, hk4, hk4'⟩
  rw [← HR.out.file, Int.zero_add, ← HS.out] at L4
  have L4' : Lw w w4 p ([([105, 110], c, c)], upS 10000 S k4) (YtgpbanjammipiaaGreatDoor.own (.slice va n vcap)) := L4
  have HL4 := hide L4'
  have R4 := hide (R3.out.hld d4 (fun x hx => hx))
  have hk4b : k4 ≤ 200 := by have := HN.out; omega
  have hk40 : 0 ≤ k4 := by omega
  clear L4 L4' d4 R3 HL3 hk4' hk4
  obtain ⟨Q, hQ⟩ : ∃ Q, Q = S + (ro : Int) := ⟨_, rfl⟩
  have wq : IntKind.i64.wrap (S + (ro : Int)) = Q := by rw [hQ]; exact i64_small _ (by omega) (by omega)
  have xq : S + (ro : Int) = Q := hQ.symm
  have hQ0 : 0 ≤ Q ∧ Q ≤ 10000 := by omega
  have US := hide HL4.out.used
  simp only [upS] at US
  have HB4 := hide HL4.out.bel
  clear hQ HL4
  go_wp2_with (go_at_call 21; refine US.out.mono ?_; rintro e w5 ⟨rfl, rfl⟩)
  refine (Lw.new (w0 := w) (hs := YtgpbanjammipiaaGreatDoor.own (.slice va n vcap)) Q (by omega) HB4.out (fun x hx => R4.out.low x hx)).mono ?_
  rintro e w5 ⟨pd, rfl, L5, b5⟩
  have HL5 := hide L5
  have R5 := hide (R4.out.hld (Hld.below b5) (hs := YtgpbanjammipiaaGreatDoor.own (.slice va n vcap)) (fun x hx => hx))
  clear L5 b5 R4 US HB4
  go_wp2_with fail
  refine (HL5.out.write_ok ⟨#[105, 110]⟩ nmIn rfl rfl (by omega) (by have := HS.out; rw [← HR.out.file]; omega) (by have := HN.out; omega) R5.out.isR (fun _ x hx => hx)).mono ?_
  rintro e w6 ⟨k6, rfl, L6, d6, hk6, hk6'⟩
  rw [← HR.out.file, Int.zero_add, ← HS.out] at L6
  have L6' : Lw w w6 pd ([([105, 110], c, c)], upS Q S k6) (YtgpbanjammipiaaGreatDoor.own (.slice va n vcap)) := L6
  have HL6 := hide L6'
  have R6 := hide (R5.out.hld d6 (fun x hx => hx))
  have hk6b : k6 ≤ 200 := by have := HN.out; omega
  have hk60 : 0 ≤ k6 := by omega
  have SO := L6'.sort_calm (n := bn) (fan := 3) (how := 0) (out := ⟨#[111, 117, 116]⟩) (temp := ⟨#[116, 101, 109, 112]⟩) HT.out gb.1 gb.2 (by decide) (by decide) rfl hk60 (by omega) nmIn nmOut (by decide) (x := ([105, 110], c, c)) rfl (by have := HR.out.len; dsimp only; omega) HR.out.read HR.out.ok HR.out.few rfl rfl (by decide) (dot_look (by simp) _)
  obtain ⟨P, hP⟩ : ∃ P, P = passesN (es.length : Nat) bn (3 : Nat) := ⟨_, rfl⟩
  rw [← hP, ← HR.out.out] at SO
  have HSO := hide SO
  clear L6 L6' d6 R5 HL5 HL6 hk6' hk6 SO hP
  go_wp2_with fail
  refine HSO.out.mono ?_
  rintro e w7 ⟨k7, hk7, hk7', d7, ⟨_, _, rfl, L7⟩ | ⟨e', h0, rfl, h1, L7⟩⟩
  · have L7' : Lw w w7 pd ([([105, 110], c, c), ([111, 117, 116], d, d)], upS Q (S + sec d.length) k7) (YtgpbanjammipiaaGreatDoor.own (.slice va n vcap)) := L7
    have HL7 := hide L7'
    have R7 := hide (R6.out.hld d7 (fun x hx => hx))
    clear L7 L7' d7 HSO R6
    go_wp2_with fail
    refine (HL7.out.list 2 rfl (by omega)).mono ?_
    rintro e w8 ⟨na, ncap, rfl, L8, d8⟩
    have HL8 := hide L8
    have R8 := hide (R7.out.hld d8 (fun x hx => hx))
    clear L8 d8 HL7 R7
    go_wp2_with fail
    refine (HL8.out.read ⟨#[105, 110]⟩ nmIn (x := ([105, 110], c, c)) rfl (by have := HR.out.len; dsimp only; omega) HR.out.read HR.out.ok (by have := HR.out.few; omega)).mono ?_
    rintro e w9 ⟨iv, k9, rfl, r9, L9, d9, hk9, hk9'⟩
    rw [if_pos rfl] at r9
    have R9 := hide (R8.out.hld d9 (fun x hx => by simp [hx]))
    have SM := hide (same_recs r9.isR R9.out.isR (by have := HR.out.few; omega))
    rw [decide_eq_true rfl] at SM
    have HL9 := hide (L9.sub (hs' := YtgpbanjammipiaaGreatDoor.own (.slice va n vcap)) (fun x hx => by simp [hx]))
    have hk9b : k9 ≤ 400000 := by have := HR.out.few; omega
    clear L9 d9 r9 HL8 R8 hk9'
    go_wp2_with (go_at_call 18; refine SM.out.mono ?_; rintro e w10 ⟨rfl, k10⟩; have B10 := hide (k10.below (Nat.le_refl w9.heap.size) (by simp)); clear k10)
    have HL10 := hide (HL9.out.below B10.out)
    have R10 := hide (R9.out.hld (Hld.below B10.out) (hs := YtgpbanjammipiaaGreatDoor.own (.slice va n vcap)) (fun x hx => hx))
    clear HL9 R9 SM B10
    refine (HL10.out.read ⟨#[111, 117, 116]⟩ nmOut (x := ([111, 117, 116], d, d)) rfl (by have := HR.out.len2; dsimp only; omega) HR.out.read2 HR.out.ok2 (by have := HR.out.few2; omega)).mono ?_
    rintro e w11 ⟨kv, k11, rfl, r11, L11, d11, hk11, hk11'⟩
    rw [if_pos rfl] at r11
    have HB := hide L11.bel
    have K11 := hide r11.isR
    have R11 := hide (R10.out.hld d11 (fun x hx => by simp [hx])).isR
    clear L11 d11 r11 HL10 R10 hk11 hk11'
    go_wp2_with (go_at_call 19; refine (refSorted_any 0 R11.out (by have := HR.out.few; omega)).mono ?_; rintro e w12 ⟨sv, rfl, s12, b12⟩; have S12 := hide s12; have B12 := hide b12; clear s12 b12)
    refine (same_recs (K11.out.below B12.out) S12.out (by have := HR.out.few2; omega)).mono ?_
    rintro e w13 ⟨rfl, k13⟩
    rw [decide_eq_true rfl]
    have B13 := hide (B12.out.trans ((k13.below (Nat.le_refl _) (by simp)).mono B12.out.size))
    clear k13
    go_wp2
    go_ret
    exact ⟨rfl, below_then HB.out B13.out⟩
  · obtain ⟨rfl, h1⟩ : e' = 6 ∧ (ro : Int) < 8 * (n : Int) := by
      rcases h1 with ⟨_, h1⟩ | ⟨h1, h2⟩
      · exact absurd rfl h1
      · have := HN.out; omega
    have w8n : IntKind.i64.wrap (8 * (n : Int)) = 8 * (n : Int) := i64_small _ (by omega) (by omega)
    have HL7 := hide L7
    have R7 := hide (R6.out.hld d7 (fun x hx => hx))
    clear L7 d7 HSO R6 h0
    go_wp2_with fail
    refine (HL7.out.list 1 rfl (by omega)).mono ?_
    rintro e w8 ⟨na, ncap, rfl, L8, d8⟩
    have HL8 := hide L8
    have R8 := hide (R7.out.hld d8 (fun x hx => hx))
    clear L8 d8 HL7 R7
    go_wp2_with fail
    refine (HL8.out.read ⟨#[105, 110]⟩ nmIn (x := ([105, 110], c, c)) rfl (by have := HR.out.len; dsimp only; omega) HR.out.read HR.out.ok (by have := HR.out.few; omega)).mono ?_
    rintro e w9 ⟨iv, k9, rfl, r9, L9, d9, hk9, hk9'⟩
    rw [if_pos rfl] at r9
    have R9 := hide (R8.out.hld d9 (fun x hx => by simp [hx]))
    have SM := hide (same_recs r9.isR R9.out.isR (by have := HR.out.few; omega))
    rw [decide_eq_true rfl] at SM
    have HB := hide L9.bel
    clear L9 d9 r9 HL8 R8 hk9'
    go_wp2_with (go_at_call 18; refine SM.out.mono ?_; rintro e w10 ⟨rfl, k10⟩; have B10 := hide (k10.below (Nat.le_refl w9.heap.size) (by simp)); clear k10)
    go_ret
    exact ⟨rfl, below_then HB.out B10.out⟩

/-! ### The row's step -/
theorem tab_of {W : World} (h : laidMetH Tryz.prog [("math/bits.deBruijn32tab", Rows.laid_math_bits_deBruijn32tab), ("math/bits.deBruijn64tab", Rows.laid_math_bits_deBruijn64tab), ("internal/strconv.uint64pow10", Rows.laid_internal_strconv_uint64pow10)] W) : Tab W := by
  rw [MakeChecks.laidMetH_plain _ _ _ (by kernel_rfl)] at h
  obtain ⟨ps, ⟨_, _, _, _, p1, q1, _, _, _, _, ⟨_, _, _, _, p2, q2, _, _, _, _, ⟨g, t, cs, fuel, p, q, hg, ht, hvar, hd, _, _⟩, _⟩, _⟩, _⟩ := h
  have hty : (Tryz.prog.globals[gTab]?).map (·.type) = some 209 := by unfold gTab; kernel_rfl
  obtain rfl := Option.some.inj (gTab_is.symm.trans hg)
  obtain rfl := Option.some.inj (hty.symm.trans ht)
  unfold Tab Lib.TabIs
  rw [hvar, ← Lib.cells_of_tab (k := .u64) (zs := Lib.pow10Tab) Tryz.underlying209 Tryz.underlying50 (by kernel_rfl) (by kernel_rfl) hd]

theorem door_met (os : Os) (args : Array Value) : laidMetH Tryz.prog [("math/bits.deBruijn32tab", Rows.laid_math_bits_deBruijn32tab), ("math/bits.deBruijn64tab", Rows.laid_math_bits_deBruijn64tab), ("internal/strconv.uint64pow10", Rows.laid_internal_strconv_uint64pow10)] ((World.doorLaid Tryz.prog 4000 os).forCall (fun _ _ => 0) ⟨#[], args, []⟩).memory :=
  laidMetH_of_parts3 (fuel := 8) (laidMet_of_run' 8 (by kernel_rfl) (by kernel_rfl)) (by kernel_rfl) (by kernel_rfl)

set_option maxRecDepth 100000 in
theorem lifted (os : Os) (started : os.Started) (H : Type) (enc : TypeId × Value → H) :
    ReturnsInHanded {} Tryz.checked os 5 .any (fun w args => (Rows.extsortSpaceSpec.pre enc Tryz.prog Tryz.f5 [] false w args ∧ laidMetH Tryz.prog [("math/bits.deBruijn32tab", Rows.laid_math_bits_deBruijn32tab), ("math/bits.deBruijn64tab", Rows.laid_math_bits_deBruijn64tab), ("internal/strconv.uint64pow10", Rows.laid_internal_strconv_uint64pow10)] w) ∧ sizedMet enc Tryz.prog Tryz.f5 (OpenSpec.ofChange Rows.extsortSpaceSpec) false w args)
      (Rows.extsortSpaceSpec.post enc Tryz.prog Tryz.f5 false true false false) := by
  refine returnsInHanded_of_change_and (C := Tryz.checked) (X := fun w _ => laidMetH Tryz.prog [("math/bits.deBruijn32tab", Rows.laid_math_bits_deBruijn32tab), ("math/bits.deBruijn64tab", Rows.laid_math_bits_deBruijn64tab), ("internal/strconv.uint64pow10", Rows.laid_internal_strconv_uint64pow10)] w) (fun _ _ _ hh h => h.of_heap hh) own started (by kernel_rfl) Tryz.func5
    (ChangeSpec.witness_shaped (enc := enc) (C := Tryz.checked) (os := os) (X := fun w _ => laidMetH Tryz.prog [("math/bits.deBruijn32tab", Rows.laid_math_bits_deBruijn32tab), ("math/bits.deBruijn64tab", Rows.laid_math_bits_deBruijn64tab), ("internal/strconv.uint64pow10", Rows.laid_internal_strconv_uint64pow10)] w) false (World.doorLaid Tryz.prog 4000 os) #[.slice none 0 0, .int .i64 0, .int .i64 0] 8 rfl (World.shaped_of_RefB (by kernel_rfl) (by kernel_rfl)) (by kernel_rfl) (by kernel_rfl) (by kernel_rfl) (door_met os _)) ?_
  intro W base args ds gs before hval0 hW hcnd _ hL _
  have hval : ∀ (j : Nat) t v, Tryz.f5.params[j]? = some t → args[j]? = some v → Value.okWide Tryz.prog W .any base t v := hval0
  have hW' := hW
  obtain ⟨p, q, hA0, hV, rfl, hfz, hnd⟩ := hW
  have hA : DataW.TrodAll enc Tryz.prog W 0 (fun _ => true) true Tryz.f5.params.toList args.toList ds p := hA0
  rw [Tryz.params5] at hA hval
  obtain ⟨v0, vs0, d0, ds0, p0, q0, hargs, rfl, rfl, h0, r0⟩ := trodAll_cons hA
  obtain ⟨v1, vs1, d1, ds1, p1, q1, rfl, rfl, rfl, h1, r1⟩ := trodAll_cons r0
  obtain ⟨v2, vs2, d2, ds2, p2, q2, rfl, rfl, rfl, h2, r2⟩ := trodAll_cons r1
  obtain ⟨rfl, rfl, rfl⟩ := trodAll_nil r2
  obtain rfl : args = #[v0, v1, v2] := by cases args; simp_all
  obtain ⟨rfl, rfl⟩ := trodVars_none hV
  obtain ⟨a0, len0, cap0, rfl⟩ := okWide_slice Tryz.underlying22 (hval 0 22 v0 rfl rfl)
  have k0 := h0
  have lt0 : ∀ x ∈ p0, x.block < W.heap.size := by obtain ⟨m, hm⟩ := k0; exact DataW.trod_lt m _ _ _ hm
  obtain ⟨es0, i0, l0, m0⟩ : ∃ es, IsR W (.slice a0 len0 cap0) es ∧ es.length = len0 ∧ len0 ≤ maxLen := by
    obtain ⟨fuel, hf⟩ := h0
    obtain ⟨a, len, cap, es, hcs, h1, h2, h3⟩ := recsIn hf
    simp [Value.cells] at hcs
    obtain ⟨rfl, rfl, rfl⟩ := hcs
    exact ⟨es, h1, h2, h3⟩
  obtain ⟨a1, rfl, rfl, rfl, w1⟩ := open_int Tryz.underlying3 (hval 1 3 v1 rfl rfl) h1
  obtain ⟨a2, rfl, rfl, rfl, w2⟩ := open_int Tryz.underlying3 (hval 2 3 v2 rfl rfl) h2
  have hT := tab_of hL
  clear hA0 hval0
  refine (walk a0 len0 cap0 es0 a1 a2 W i0 l0 m0 w1 w2 hT).mono fun e W' ⟨he, bel⟩ => ?_
  subst he
  exact ⟨_, rfl, _, _, _, [], _, [], hW', trodAll_mk1 (shut_bool Tryz.underlying4 _), (trodAll_cons_mk (Below.trod laidOut (by kernel_rfl) (of_decide_eq_true (by kernel_rfl)) k0 bel lt0) (trodAll_cons_mk (shut_int Tryz.underlying3 w1) (trodAll_cons_mk (shut_int Tryz.underlying3 w2) trodAll_mk0))), rfl, bel.frame _, fun h => by cases h⟩

theorem over : Rows.extsortSpaceRow.holds Tryz.pinned (OpenSpec.ofChange Rows.extsortSpaceSpec) :=
  OpenClaim.holds_of_wide 5 Tryz.f5 rfl rfl rfl rfl rfl rfl rfl ⟨rfl, rfl, rfl, rfl, rfl⟩ rfl rfl rfl rfl rfl (by kernel_rfl) Tryz.func5 (by kernel_rfl)
    (of_decide_eq_true (by kernel_rfl)) (by unfold Func.isWrapper; first | (rw [if_pos (by decide +kernel)]; kernel_rfl) | (rw [if_neg (by decide +kernel)]; exact ⟨rfl, rfl⟩))
    (fun os started H enc _ => lifted os started H enc)

/-- The tied card. -/
theorem proved : Rows.ExtsortSpaceCardSaid :=
  Claim7.holds_tied_plain_at .later [] [.data, .data, .data] true (true, "faa2ecafac8662add5a5fb14381b479056ba2cacb83f709c9c3b464184dd77bf") false
    over (fun _ h => by cases h) (by kernel_rfl) (fun _ h => by cases h) extsortSpace_row_tie rfl ⟨rfl, rfl⟩ (by kernel_rfl) rfl
    (fun f fn hf hfn => by
      obtain rfl : f = 5 := Option.some.inj ((show Tryz.prog.funcNamed "cartage/cartagelaw10.ExtsortSpace" = some 5 by kernel_rfl).symm.trans hf) |>.symm
      obtain rfl : fn = Tryz.f5 := (Option.some.inj (Tryz.func5.symm.trans hfn)).symm
      exact ⟨by kernel_rfl, fun j t ht => by
        rw [Tryz.params5] at ht
        have hm : t ∈ [22, 3, 3] := by simpa using Array.mem_of_getElem? ht
        have hall : ([22, 3, 3].all fun u => !Tryz.prog.wantsStandIn u) = true := by kernel_rfl
        exact (show Tryz.prog.wantsStandIn t = false by simpa using List.all_eq_true.1 hall t hm)⟩)
    (by kernel_rfl)
#print axioms proved
end Go.Proofs.YtgpbanjammipiaaGreatDoor.extsortSpace
