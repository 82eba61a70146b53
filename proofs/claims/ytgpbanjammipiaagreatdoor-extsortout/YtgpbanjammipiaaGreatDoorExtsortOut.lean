/-
  Proved: for every two slices of records ExtsortOut returns true and leaves them as they were (a file that is there already stays; one that is not there is an error). No condition but the tables that the program's text lays.
-/
import Derived.WalkKit
import Derived.ProofKit
import Derived.OpenShut
import Derived.ShutString
import Derived.Test.YtgpbanjammipiaaGreatDoorXDown
import Derived.Test.YtgpbanjammipiaaGreatDoorTie
import Derived.Test.YtgpbanjammipiaaGreatDoorCards
import Derived.LaidMore
import Derived.SevenTiedAt
namespace Go.Proofs.YtgpbanjammipiaaGreatDoor.extsortOut
open Go.ChangeShapes Go.WideShapes Go.ChangeAt Go.RowKit
open Go.ChangeMaps (open_string shut_string)
set_option linter.unusedVariables false

theorem own : ownKnob Tryz.prog.godebug = none := by kernel_rfl
theorem laidOut : laidOutB Tryz.prog = true := by kernel_rfl


/-! ### The walk -/
set_option maxRecDepth 100000 in
set_option maxHeartbeats 20000000 in
theorem walk (a0 : Option Addr) (len0 cap0 : Nat) (es0 : List Rc) (a1 : Option Addr) (len1 cap1 : Nat) (es1 : List Rc) (w : World) (i0 : IsR w (.slice a0 len0 cap0) es0) (l0 : es0.length = len0) (m0 : len0 ≤ maxLen) (i1 : IsR w (.slice a1 len1 cap1) es1) (l1 : es1.length = len1) (m1 : len1 ≤ maxLen) (hT : Tab w) :
    Calls Tryz.prog 6 #[.slice a0 len0 cap0, .slice a1 len1 cap1] w fun e w' => e = .returned (.bool true) ∧ Below w.heap.size w w' := by
  have HI1 := hide i1
  have hln1 : es1.length ≤ 9223372036854775807 := by unfold maxLen at m1; omega
  have HLN1 := hide hln1
  clear i1 l1 m1 hln1
  have SH := hide (shown10_any w hT)
  have HT := hide hT
  have HI := hide i0
  have hln : es0.length ≤ 9223372036854775807 := by unfold maxLen at m0; omega
  have HLN := hide hln
  clear i0 l0 m0 hln hT
  go_enter Tryz.func6, Tryz.ntmps6
  go_wp2_with fail
  refine SH.out.mono ?_
  rintro e w1 ⟨rfl, b1⟩
  have FW := hide (few10_any (HI.out.below b1) HLN.out)
  have B1 := hide b1
  clear b1
  go_wp2_with fail
  refine FW.out.mono ?_
  rintro e w2 ⟨v, rfl, r2, b2, n2⟩
  obtain ⟨es, hes⟩ : ∃ es, es = es0.take 120 := ⟨_, rfl⟩
  have hel : es.length ≤ 120 := by rw [hes, List.length_take]; omega
  rw [← hes] at r2
  have B2 := hide (below_then B1.out b2)
  have R2 := hide r2
  obtain ⟨c, d, RC⟩ : ∃ c d, Rec10 0 es c d := ⟨_, _, rec10 0 hel r2.2⟩
  have HR := hide RC
  obtain ⟨va, vcap, rfl, hvc⟩ := r2.isR.form
  obtain ⟨n, hn⟩ : ∃ n, n = es.length := ⟨_, rfl⟩
  have HN := hide hn
  obtain ⟨S, hS⟩ : ∃ S, S = sec c.length := ⟨_, rfl⟩
  have HS := hide hS
  have hS0 : 0 ≤ S := by rw [hS]; exact RC.secs0
  have hS1 : S ≤ 240 := by have := RC.secs; rw [hS]; omega
  rw [← hn] at R2 hvc ⊢
  have hn120 : n ≤ 120 := by omega
  clear hes hel r2 b2 n2 SH FW B1 hn hS RC
  go_wp2_with fail
  refine (few10_any (HI1.out.below B2.out) HLN1.out).mono ?_
  rintro e w3 ⟨v, rfl, r3, b3, n3⟩
  obtain ⟨ks, hks⟩ : ∃ ks, ks = es1.take 120 := ⟨_, rfl⟩
  have hkl : ks.length ≤ 120 := by rw [hks, List.length_take]; omega
  rw [← hks] at r3
  have B3 := hide (below_then B2.out b3)
  have K3 := hide r3
  have R3 := hide (R2.out.hld (Hld.below b3) (hs := YtgpbanjammipiaaGreatDoor.own (.slice va n vcap)) (fun x hx => hx))
  obtain ⟨ck, dk, RK⟩ : ∃ ck dk, Rec10 0 ks ck dk := ⟨_, _, rec10 0 hkl r3.2⟩
  have HK := hide RK
  obtain ⟨ka, kcap, rfl, hkc⟩ := r3.isR.form
  obtain ⟨m, hm⟩ : ∃ m, m = ks.length := ⟨_, rfl⟩
  have HM := hide hm
  obtain ⟨S1, hS1'⟩ : ∃ S1, S1 = sec ck.length := ⟨_, rfl⟩
  have HS1 := hide hS1'
  have hS10 : 0 ≤ S1 := by rw [hS1']; exact RK.secs0
  have hS11 : S1 ≤ 240 := by have := RK.secs; rw [hS1']; omega
  rw [← hm] at K3 hkc ⊢
  have hm120 : m ≤ 120 := by omega
  obtain ⟨hs, hhs⟩ : ∃ hs, hs = YtgpbanjammipiaaGreatDoor.own (.slice ka m kcap) ++ YtgpbanjammipiaaGreatDoor.own (.slice va n vcap) := ⟨_, rfl⟩
  have h1 : ∀ x ∈ YtgpbanjammipiaaGreatDoor.own (.slice va n vcap), x ∈ hs := fun x hx => by rw [hhs]; exact List.mem_append.2 (.inr hx)
  have h2 : ∀ x ∈ YtgpbanjammipiaaGreatDoor.own (.slice ka m kcap), x ∈ hs := fun x hx => by rw [hhs]; exact List.mem_append.2 (.inl hx)
  have h3 : ∀ x ∈ hs, x < w3.heap.size := fun x hx => by
    rw [hhs] at hx
    rcases List.mem_append.1 hx with hx | hx
    · exact K3.out.low x hx
    · exact R3.out.low x hx
  have H1 := hide h1
  have H2 := hide h2
  have H3 := hide h3
  clear hks hkl r3 b3 n3 R2 B2 hm hS1' RK hhs h1 h2 h3
  go_wp2_with fail
  refine (Lw.new (w0 := w) (w := w3) (hs := hs) 10000 (by omega) B3.out H3.out).mono ?_
  rintro e w4 ⟨p, rfl, L4, b4⟩
  have HL4 := hide L4
  have R4 := hide (R3.out.hld (Hld.below b4) H1.out)
  have K4 := hide (K3.out.hld (Hld.below b4) H2.out)
  clear L4 b4 R3 K3 H3 B3
  go_wp2_with fail
  refine (HL4.out.write_ok ⟨#[105, 110]⟩ nmIn rfl rfl (by omega) (by have := HS.out; rw [← HR.out.file]; omega) (by have := HN.out; omega) R4.out.isR (fun _ => H1.out)).mono ?_
  rintro e w5 ⟨k5, rfl, L5, d5, hk5, hk5'⟩
  rw [← HR.out.file, Int.zero_add, ← HS.out] at L5
  have L5' : Lw w w5 p ([([105, 110], c, c)], upS 10000 S k5) hs := L5
  have HL5 := hide L5'
  have R5 := hide (R4.out.hld d5 H1.out)
  have K5 := hide (K4.out.hld d5 H2.out)
  have hk5b : k5 ≤ 200 := by have := HN.out; omega
  clear L5 L5' d5 R4 K4 HL4 hk5' hk5
  go_wp2_with fail
  refine (HL5.out.write_ok ⟨#[111, 117, 116]⟩ nmOut rfl rfl (by omega) (by have := HS1.out; rw [← HK.out.file]; omega) (by have := HM.out; omega) K5.out.isR (fun _ => H2.out)).mono ?_
  rintro e w6 ⟨k6, rfl, L6, d6, hk6, hk6'⟩
  rw [← HK.out.file, ← HS1.out] at L6
  have L6' : Lw w w6 p ([([105, 110], c, c), ([111, 117, 116], ck, ck)], upS 10000 (S + S1) k6) hs := L6
  have HL6 := hide L6'
  have R6 := hide (R5.out.hld d6 H1.out)
  have K6 := hide (K5.out.hld d6 H2.out)
  have hk6b : k6 ≤ 500 := by have := HM.out; omega
  clear L6 L6' d6 R5 K5 HL5 hk6' hk6
  go_wp2_with fail
  refine (HL6.out.sort_is (n := 5) (fan := 3) (how := 0) (by decide) (by decide) (by decide) rfl (by omega) nmIn nmOut (x := ([105, 110], c, c)) rfl (by have := HR.out.len; dsimp only; omega) (y := ([111, 117, 116], ck, ck)) rfl rfl).mono ?_
  rintro e w7 ⟨rfl, L7, d7⟩
  have HL7 := hide L7
  have R7 := hide (R6.out.hld d7 H1.out)
  have K7 := hide (K6.out.hld d7 H2.out)
  clear L7 d7 R6 K6 HL6
  go_wp2_with fail
  refine (HL7.out.sort_is (n := 5) (fan := 3) (how := 0) (by decide) (by decide) (by decide) rfl (by omega) nmIn nmIn (x := ([105, 110], c, c)) rfl (by have := HR.out.len; dsimp only; omega) (y := ([105, 110], c, c)) rfl rfl).mono ?_
  rintro e w8 ⟨rfl, L8, d8⟩
  have HL8 := hide L8
  have R8 := hide (R7.out.hld d8 H1.out)
  have K8 := hide (K7.out.hld d8 H2.out)
  clear L8 d8 R7 K7 HL7
  go_wp2_with fail
  refine (HL8.out.sort_none (n := 5) (fan := 3) (how := 0) (by decide) (by decide) (by decide) rfl (by omega) nmNone rfl).mono ?_
  rintro e w9 ⟨rfl, L9, d9⟩
  have HL9 := hide L9
  have R9 := hide (R8.out.hld d9 H1.out)
  have K9 := hide (K8.out.hld d9 H2.out)
  clear L9 d9 R8 K8 HL8
  go_wp2_with fail
  refine (HL9.out.read ⟨#[105, 110]⟩ nmIn (x := ([105, 110], c, c)) rfl (by have := HR.out.len; dsimp only; omega) HR.out.read HR.out.ok (by have := HR.out.few; omega)).mono ?_
  rintro e w10 ⟨av, k10, rfl, r10, L10, d10, hk10, hk10'⟩
  rw [if_pos rfl] at r10
  have HL10 := hide L10
  have A10 := hide r10
  have R10 := hide (R9.out.hld d10 H1.out)
  have K10 := hide (K9.out.hld d10 H2.out)
  have hk10b : k10 ≤ 2000 := by have := HR.out.few; omega
  clear L10 d10 r10 R9 K9 HL9 hk10' hk10
  go_wp2_with fail
  refine (HL10.out.read ⟨#[111, 117, 116]⟩ nmOut (x := ([111, 117, 116], ck, ck)) rfl (by have := HK.out.len; dsimp only; omega) HK.out.read HK.out.ok (by have := HK.out.few; omega)).mono ?_
  rintro e w11 ⟨bv, k11, rfl, r11, L11, d11, hk11, hk11'⟩
  rw [if_pos rfl] at r11
  have HL11 := hide L11
  have Z11 := hide r11
  have A11 := hide (A10.out.hld d11 (fun x hx => by simp [hx]))
  have R11 := hide (R10.out.hld d11 (fun x hx => List.mem_append.2 (.inr (H1.out x hx))))
  have K11 := hide (K10.out.hld d11 (fun x hx => List.mem_append.2 (.inr (H2.out x hx))))
  have hk11b : k11 ≤ 4000 := by have := HK.out.few; omega
  clear L11 d11 r11 A10 R10 K10 HL10 hk11' hk11
  go_wp2_with fail
  refine (HL11.out.list 2 rfl (by omega)).mono ?_
  rintro e w12 ⟨na, ncap, rfl, L12, d12⟩
  have HB := hide L12.bel
  have Z12 := hide (Z11.out.hld d12 (fun x hx => by simp [hx])).isR
  have A12 := hide (A11.out.hld d12 (fun x hx => by simp [hx])).isR
  have R12 := hide (R11.out.hld d12 (fun x hx => List.mem_append.2 (.inr (List.mem_append.2 (.inr (H1.out x hx)))))).isR
  have K12 := hide (K11.out.hld d12 (fun x hx => List.mem_append.2 (.inr (List.mem_append.2 (.inr (H2.out x hx)))))).isR
  clear L12 d12 Z11 A11 R11 K11 HL11
  go_wp2_with fail
  refine (same_recs A12.out R12.out (by have := HR.out.few; omega)).mono ?_
  rintro e w13 ⟨rfl, k13⟩
  rw [decide_eq_true rfl]
  have B13 := hide (k13.below (Nat.le_refl w12.heap.size) (by simp))
  clear k13 A12 R12
  go_wp2_with fail
  refine (same_recs (Z12.out.below B13.out) (K12.out.below B13.out) (by have := HK.out.few; omega)).mono ?_
  rintro e w14 ⟨rfl, k14⟩
  rw [decide_eq_true rfl]
  have B14 := hide (B13.out.trans ((k14.below (Nat.le_refl _) (by simp)).mono B13.out.size))
  clear k14
  go_wp2
  go_ret
  exact ⟨rfl, below_then HB.out B14.out⟩

/-! ### The row's step -/
theorem tab_of {W : World} (h : laidMetH Tryz.prog [("math/bits.deBruijn32tab", Rows.laid_math_bits_deBruijn32tab), ("math/bits.deBruijn64tab", Rows.laid_math_bits_deBruijn64tab), ("internal/strconv.uint64pow10", Rows.laid_internal_strconv_uint64pow10)] W) : Tab W := by
  rw [MakeChecks.laidMetH_plain _ _ _ (by kernel_rfl)] at h
  obtain ⟨ps, ⟨_, _, _, _, p1, q1, _, _, _, _, ⟨_, _, _, _, p2, q2, _, _, _, _, ⟨g, t, cs, fuel, p, q, hg, ht, hvar, hd, _, _⟩, _⟩, _⟩, _⟩ := h
  have hty : (Tryz.prog.globals[gTab]?).map (·.type) = some 209 := by unfold gTab; kernel_rfl
  obtain rfl := Option.some.inj (gTab_is.symm.trans hg)
  obtain rfl := Option.some.inj (hty.symm.trans ht)
  unfold Tab Lib.TabIs
  rw [hvar, ← Lib.cells_of_tab (k := .u64) (zs := Lib.pow10Tab) Tryz.underlying209 Tryz.underlying50 (by kernel_rfl) (by kernel_rfl) hd]

theorem door_met (os : Os) (args : Array Value) : laidMetH Tryz.prog [("math/bits.deBruijn32tab", Rows.laid_math_bits_deBruijn32tab), ("math/bits.deBruijn64tab", Rows.laid_math_bits_deBruijn64tab), ("internal/strconv.uint64pow10", Rows.laid_internal_strconv_uint64pow10)] ((World.doorLaid Tryz.prog 4000 os).forCall (fun _ _ => 0) ⟨#[], args, []⟩).memory :=
  laidMetH_of_parts3 (fuel := 8) (laidMet_of_run' 8 (by kernel_rfl) (by kernel_rfl)) (by kernel_rfl) (by kernel_rfl)

set_option maxRecDepth 100000 in
theorem lifted (os : Os) (started : os.Started) (H : Type) (enc : TypeId × Value → H) :
    ReturnsInHanded {} Tryz.checked os 6 .any (fun w args => (Rows.extsortOutSpec.pre enc Tryz.prog Tryz.f6 [] false w args ∧ laidMetH Tryz.prog [("math/bits.deBruijn32tab", Rows.laid_math_bits_deBruijn32tab), ("math/bits.deBruijn64tab", Rows.laid_math_bits_deBruijn64tab), ("internal/strconv.uint64pow10", Rows.laid_internal_strconv_uint64pow10)] w) ∧ sizedMet enc Tryz.prog Tryz.f6 (OpenSpec.ofChange Rows.extsortOutSpec) false w args)
      (Rows.extsortOutSpec.post enc Tryz.prog Tryz.f6 false true false false) := by
  refine returnsInHanded_of_change_and (C := Tryz.checked) (X := fun w _ => laidMetH Tryz.prog [("math/bits.deBruijn32tab", Rows.laid_math_bits_deBruijn32tab), ("math/bits.deBruijn64tab", Rows.laid_math_bits_deBruijn64tab), ("internal/strconv.uint64pow10", Rows.laid_internal_strconv_uint64pow10)] w) (fun _ _ _ hh h => h.of_heap hh) own started (by kernel_rfl) Tryz.func6
    (ChangeSpec.witness_shaped (enc := enc) (C := Tryz.checked) (os := os) (X := fun w _ => laidMetH Tryz.prog [("math/bits.deBruijn32tab", Rows.laid_math_bits_deBruijn32tab), ("math/bits.deBruijn64tab", Rows.laid_math_bits_deBruijn64tab), ("internal/strconv.uint64pow10", Rows.laid_internal_strconv_uint64pow10)] w) false (World.doorLaid Tryz.prog 4000 os) #[.slice none 0 0, .slice none 0 0] 8 rfl (World.shaped_of_RefB (by kernel_rfl) (by kernel_rfl)) (by kernel_rfl) (by kernel_rfl) (by kernel_rfl) (door_met os _)) ?_
  intro W base args ds gs before hval0 hW hcnd _ hL _
  have hval : ∀ (j : Nat) t v, Tryz.f6.params[j]? = some t → args[j]? = some v → Value.okWide Tryz.prog W .any base t v := hval0
  have hW' := hW
  obtain ⟨p, q, hA0, hV, rfl, hfz, hnd⟩ := hW
  have hA : DataW.TrodAll enc Tryz.prog W 0 (fun _ => true) true Tryz.f6.params.toList args.toList ds p := hA0
  rw [Tryz.params6] at hA hval
  obtain ⟨v0, vs0, d0, ds0, p0, q0, hargs, rfl, rfl, h0, r0⟩ := trodAll_cons hA
  obtain ⟨v1, vs1, d1, ds1, p1, q1, rfl, rfl, rfl, h1, r1⟩ := trodAll_cons r0
  obtain ⟨rfl, rfl, rfl⟩ := trodAll_nil r1
  obtain rfl : args = #[v0, v1] := by cases args; simp_all
  obtain ⟨rfl, rfl⟩ := trodVars_none hV
  obtain ⟨a0, len0, cap0, rfl⟩ := okWide_slice Tryz.underlying22 (hval 0 22 v0 rfl rfl)
  have k0 := h0
  have lt0 : ∀ x ∈ p0, x.block < W.heap.size := by obtain ⟨m, hm⟩ := k0; exact DataW.trod_lt m _ _ _ hm
  obtain ⟨es0, i0, l0, m0⟩ : ∃ es, IsR W (.slice a0 len0 cap0) es ∧ es.length = len0 ∧ len0 ≤ maxLen := by
    obtain ⟨fuel, hf⟩ := h0
    obtain ⟨a, len, cap, es, hcs, h1, h2, h3⟩ := recsIn hf
    simp [Value.cells] at hcs
    obtain ⟨rfl, rfl, rfl⟩ := hcs
    exact ⟨es, h1, h2, h3⟩
  obtain ⟨a1, len1, cap1, rfl⟩ := okWide_slice Tryz.underlying22 (hval 1 22 v1 rfl rfl)
  have k1 := h1
  have lt1 : ∀ x ∈ p1, x.block < W.heap.size := by obtain ⟨m, hm⟩ := k1; exact DataW.trod_lt m _ _ _ hm
  obtain ⟨es1, i1, l1, m1⟩ : ∃ es, IsR W (.slice a1 len1 cap1) es ∧ es.length = len1 ∧ len1 ≤ maxLen := by
    obtain ⟨fuel, hf⟩ := h1
    obtain ⟨a, len, cap, es, hcs, h1, h2, h3⟩ := recsIn hf
    simp [Value.cells] at hcs
    obtain ⟨rfl, rfl, rfl⟩ := hcs
    exact ⟨es, h1, h2, h3⟩
  have hT := tab_of hL
  clear hA0 hval0
  refine (walk a0 len0 cap0 es0 a1 len1 cap1 es1 W i0 l0 m0 i1 l1 m1 hT).mono fun e W' ⟨he, bel⟩ => ?_
  subst he
  exact ⟨_, rfl, _, _, _, [], _, [], hW', trodAll_mk1 (shut_bool Tryz.underlying4 _), (trodAll_cons_mk (Below.trod laidOut (by kernel_rfl) (of_decide_eq_true (by kernel_rfl)) k0 bel lt0) (trodAll_cons_mk (Below.trod laidOut (by kernel_rfl) (of_decide_eq_true (by kernel_rfl)) k1 bel lt1) trodAll_mk0)), rfl, bel.frame _, fun h => by cases h⟩

theorem over : Rows.extsortOutRow.holds Tryz.pinned (OpenSpec.ofChange Rows.extsortOutSpec) :=
  OpenClaim.holds_of_wide 6 Tryz.f6 rfl rfl rfl rfl rfl rfl rfl ⟨rfl, rfl, rfl, rfl, rfl⟩ rfl rfl rfl rfl rfl (by kernel_rfl) Tryz.func6 (by kernel_rfl)
    (of_decide_eq_true (by kernel_rfl)) (by unfold Func.isWrapper; first | (rw [if_pos (by decide +kernel)]; kernel_rfl) | (rw [if_neg (by decide +kernel)]; exact ⟨rfl, rfl⟩))
    (fun os started H enc _ => lifted os started H enc)

/-- The tied card. -/
theorem proved : Rows.ExtsortOutCardSaid :=
  Claim7.holds_tied_plain_at .later [] [.data, .data, .data] true (true, "faa2ecafac8662add5a5fb14381b479056ba2cacb83f709c9c3b464184dd77bf") false
    over (fun _ h => by cases h) (by kernel_rfl) (fun _ h => by cases h) extsortOut_row_tie rfl ⟨rfl, rfl⟩ (by kernel_rfl) rfl
    (fun f fn hf hfn => by
      obtain rfl : f = 6 := Option.some.inj ((show Tryz.prog.funcNamed "cartage/cartagelaw10.ExtsortOut" = some 6 by kernel_rfl).symm.trans hf) |>.symm
      obtain rfl : fn = Tryz.f6 := (Option.some.inj (Tryz.func6.symm.trans hfn)).symm
      exact ⟨by kernel_rfl, fun j t ht => by
        rw [Tryz.params6] at ht
        have hm : t ∈ [22, 22] := by simpa using Array.mem_of_getElem? ht
        have hall : ([22, 22].all fun u => !Tryz.prog.wantsStandIn u) = true := by kernel_rfl
        exact (show Tryz.prog.wantsStandIn t = false by simpa using List.all_eq_true.1 hall t hm)⟩)
    (by kernel_rfl)
#print axioms proved
end Go.Proofs.YtgpbanjammipiaaGreatDoor.extsortOut
