/-
  Proved: for every slice of records and every three integers ExtsortTells returns true and leaves the slice as it was (what is sorted on a disk is what is sorted at once). No condition but the tables that the program's text lays.
-/
import Derived.WalkKit
import Derived.ProofKit
import Derived.OpenShut
import Derived.ShutString
import Derived.Test.YtgpbanjammipiaaGreatDoorXDown
import Derived.Test.YtgpbanjammipiaaGreatDoorTie
import Derived.Test.YtgpbanjammipiaaGreatDoorCards
import Derived.LaidMore
import Derived.SevenTiedAt
namespace Go.Proofs.YtgpbanjammipiaaGreatDoor.extsortTells
open Go.ChangeShapes Go.WideShapes Go.ChangeAt Go.RowKit
open Go.ChangeMaps (open_string shut_string)
set_option linter.unusedVariables false

theorem own : ownKnob Tryz.prog.godebug = none := by kernel_rfl
theorem laidOut : laidOutB Tryz.prog = true := by kernel_rfl


/-! ### The walk -/
set_option maxRecDepth 100000 in
set_option maxHeartbeats 20000000 in
theorem walk (a0 : Option Addr) (len0 cap0 : Nat) (es0 : List Rc) (a1 : Int) (a2 : Int) (a3 : Int) (w : World) (i0 : IsR w (.slice a0 len0 cap0) es0) (l0 : es0.length = len0) (m0 : len0 ≤ maxLen) (w1 : (Lit.int .i64 a1).wf = true) (w2 : (Lit.int .i64 a2).wf = true) (w3 : (Lit.int .i64 a3).wf = true) (hT : Tab w) :
    Calls Tryz.prog 3 #[.slice a0 len0 cap0, .int .i64 a1, .int .i64 a2, .int .i64 a3] w fun e w' => e = .returned (.bool true) ∧ Below w.heap.size w w' := by
  have hmb := min_int a1 100
  obtain ⟨b, hb, hb1⟩ : ∃ b, b = min a1 100 ∧ b ≤ 100 := ⟨_, rfl, by omega⟩
  rw [← hb] at hmb
  have hmf := min_int a2 100
  obtain ⟨f, hf, hf1⟩ : ∃ f, f = min a2 100 ∧ f ≤ 100 := ⟨_, rfl, by omega⟩
  rw [← hf] at hmf
  clear hb hf w1 w2 w3
  have SH := hide (shown10_any w hT)
  have HT := hide hT
  have HI := hide i0
  have hln : es0.length ≤ 9223372036854775807 := by unfold maxLen at m0; omega
  have HLN := hide hln
  clear i0 l0 m0 hln hT
  go_enter Tryz.func3, Tryz.ntmps3
  go_wp2_with fail
  refine SH.out.mono ?_
  rintro e w1 ⟨rfl, b1⟩
  have FW := hide (few10_any (HI.out.below b1) HLN.out)
  have B1 := hide b1
  clear b1
  go_wp2_with fail
  refine FW.out.mono ?_
  rintro e w2 ⟨v, rfl, r2, b2, n2⟩
  obtain ⟨es, hes⟩ : ∃ es, es = es0.take 120 := ⟨_, rfl⟩
  have hel : es.length ≤ 120 := by rw [hes, List.length_take]; omega
  rw [← hes] at r2
  have B2 := hide (below_then B1.out b2)
  have R2 := hide r2
  obtain ⟨c, d, RC⟩ : ∃ c d, Rec10 a3 es c d := ⟨_, _, rec10 a3 hel r2.2⟩
  have HR := hide RC
  obtain ⟨va, vcap, rfl, hvc⟩ := r2.isR.form
  obtain ⟨n, hn⟩ : ∃ n, n = es.length := ⟨_, rfl⟩
  have HN := hide hn
  obtain ⟨S, hS⟩ : ∃ S, S = sec c.length := ⟨_, rfl⟩
  have HS := hide hS
  have hS0 : 0 ≤ S := by rw [hS]; exact RC.secs0
  have hS1 : S ≤ 240 := by have := RC.secs; rw [hS]; omega
  rw [← hn] at R2 hvc ⊢
  have hn120 : n ≤ 120 := by omega
  clear hes hel r2 b2 n2 SH FW B1 hn hS RC
  go_wp2_with fail
  refine (Lw.new (w0 := w) (w := w2) (hs := YtgpbanjammipiaaGreatDoor.own (.slice va n vcap)) 10000 (by omega) B2.out (fun x hx => R2.out.low x hx)).mono ?_
  rintro e w3 ⟨p, rfl, L3, b3⟩
  have HL3 := hide L3
  have R3 := hide (R2.out.hld (Hld.below b3) (hs := YtgpbanjammipiaaGreatDoor.own (.slice va n vcap)) (fun x hx => hx))
  clear L3 b3 R2
  go_wp2_with fail
  refine (HL3.out.write_ok ⟨#[105, 110]⟩ nmIn rfl rfl (by omega) (by have := HS.out; rw [← HR.out.file]; omega) (by have := HN.out; omega) R3.out.isR (fun _ x hx => hx)).mono ?_
  rintro e w4 ⟨k4, rfl, L4, d4, hk4, hk4'⟩
  rw [← HR.out.file, Int.zero_add, ← HS.out] at L4
  have L4' : Lw w w4 p ([([105, 110], c, c)], upS 10000 S k4) (YtgpbanjammipiaaGreatDoor.own (.slice va n vcap)) := L4
  have HL4 := hide L4'
  have R4 := hide (R3.out.hld d4 (fun x hx => hx))
  have hk4b : k4 ≤ 200 := by have := HN.out; omega
  have hk40 : 0 ≤ k4 := by omega
  clear L4 L4' d4 R3 HL3 hk4' hk4
  by_cases hbad : b < 1 ∨ f < 2 ∨ mayH a3 = false
  · go_wp2_with fail
    refine (sort_arg w4 _ _ _ _ b f a3 (by omega) hbad).mono ?_
    rintro e w5 ⟨rfl, b5⟩
    have HL5 := hide (HL4.out.below b5)
    clear b5 HL4 R4
    go_wp2_with fail
    refine (HL5.out.list 1 rfl (by omega)).mono ?_
    rintro e w6 ⟨na, ncap, rfl, L6, d6⟩
    have HB := hide L6.bel
    clear L6 d6 HL5
    have hh : b < 1 ∨ (¬ b < 1 ∧ f < 2) ∨ (¬ b < 1 ∧ ¬ f < 2 ∧ a3 < 0) ∨ (¬ b < 1 ∧ ¬ f < 2 ∧ ¬ a3 < 0 ∧ 2 < a3) := by
      rcases mayH_or a3 with h | h | h
      · omega
      · omega
      · rcases hbad with e | e | e
        · omega
        · omega
        · rw [h] at e; cases e
    clear hbad
    rcases hh with c1 | ⟨c1, c2⟩ | ⟨c1, c2, c3⟩ | ⟨c1, c2, c3, c4⟩
    all_goals
      go_wp2
      go_ret
      exact ⟨rfl, HB.out⟩
  · obtain ⟨bn, rfl⟩ : ∃ bn : Nat, b = (bn : Int) := ⟨b.toNat, by omega⟩
    obtain ⟨fn, rfl⟩ : ∃ fn : Nat, f = (fn : Int) := ⟨f.toNat, by omega⟩
    have hh : mayH a3 = true := by
      cases e : mayH a3 with
      | true => rfl
      | false => exact absurd (.inr (.inr e)) hbad
    obtain ⟨h30, h32⟩ := mayH_in hh
    have hb0 : 0 < bn := by omega
    have hf0 : 2 ≤ fn := by omega
    have SO := HL4.out.sort_ok (n := bn) (fan := fn) (how := a3) (out := ⟨#[111, 117, 116]⟩) (temp := ⟨#[116, 101, 109, 112]⟩) HT.out hb0 (by omega) hf0 (by omega) hh hk40 (by omega) nmIn nmOut (by decide) (x := ([105, 110], c, c)) rfl (by have := HR.out.len; dsimp only; omega) HR.out.read HR.out.ok HR.out.few rfl rfl (by decide) (dot_look (by simp) _) (by have := HN.out; omega)
    obtain ⟨P, hP⟩ : ∃ P, P = passesN (es.length : Nat) bn fn := ⟨_, rfl⟩
    rw [← hP, ← HR.out.out] at SO
    have HSO := hide SO
    have RP := hide (fun W => refPasses_any W (es.length : Nat) bn fn (by have := HN.out; omega) (by omega) (by omega))
    rw [← hP, ← HN.out] at RP
    have c1 : ¬ (bn : Int) < 1 := by omega
    have c2 : ¬ (fn : Int) < 2 := by omega
    have c3 : ¬ a3 < 0 := by omega
    have c4 : ¬ 2 < a3 := by omega
    clear hP SO hbad h30 h32 hh HL4
    go_wp2_with fail
    refine HSO.out.mono ?_
    rintro e w5 ⟨k5, rfl, L5, d5, hk5, hk5'⟩
    have L5' : Lw w w5 p ([([105, 110], c, c), ([111, 117, 116], d, d)], upS 10000 (S + sec d.length) k5) (YtgpbanjammipiaaGreatDoor.own (.slice va n vcap)) := L5
    have HL5 := hide L5'
    have R5 := hide (R4.out.hld d5 (fun x hx => hx))
    clear L5 L5' d5 HSO R4
    go_wp2_with fail
    refine (HL5.out.list 2 rfl (by omega)).mono ?_
    rintro e w6 ⟨na, ncap, rfl, L6, d6⟩
    have HL6 := hide L6
    have R6 := hide (R5.out.hld d6 (fun x hx => hx))
    clear L6 d6 HL5 R5
    go_wp2_with fail
    refine (HL6.out.read ⟨#[111, 117, 116]⟩ nmOut (x := ([111, 117, 116], d, d)) rfl (by have := HR.out.len2; dsimp only; omega) HR.out.read2 HR.out.ok2 (by have := HR.out.few2; omega)).mono ?_
    rintro e w7 ⟨kv, k7, rfl, r7, L7, d7, hk7, hk7'⟩
    rw [if_pos rfl] at r7
    have HL7 := hide L7
    have K7 := hide r7
    have R7 := hide (R6.out.hld d7 (fun x hx => hx))
    have hk7b : k7 ≤ 300000 := by have := HR.out.few2; omega
    clear L7 d7 r7 HL6 R6 hk7'
    go_wp2_with fail
    refine (HL7.out.read ⟨#[105, 110]⟩ nmIn (x := ([105, 110], c, c)) rfl (by have := HR.out.len; dsimp only; omega) HR.out.read HR.out.ok (by have := HR.out.few; omega)).mono ?_
    rintro e w8 ⟨iv, k8, rfl, r8, L8, d8, hk8, hk8'⟩
    rw [if_pos rfl] at r8
    have HB := hide L8.bel
    have I8 := hide r8.isR
    have K8 := hide (K7.out.hld d8 (fun x hx => by simp [hx])).isR
    have R8 := hide (R7.out.hld d8 (fun x hx => by simp [hx])).isR
    clear L8 d8 r8 HL7 R7 K7 hk8 hk8'
    go_wp2_with (go_at_call 17; refine (RP.out _).mono ?_; rintro e w9 ⟨rfl, b9⟩; have B9 := hide b9; clear b9)
    refine (refSorted_any a3 (R8.out.below B9.out) (by have := HR.out.few; omega)).mono ?_
    rintro e w10 ⟨sv, rfl, s10, b10⟩
    have S10 := hide s10
    have B10 := hide (below_then B9.out b10)
    clear s10 b10
    go_wp2_with fail
    refine (same_recs (K8.out.below B10.out) S10.out (by have := HR.out.few2; omega)).mono ?_
    rintro e w11 ⟨rfl, k11⟩
    rw [decide_eq_true rfl]
    have B11 := hide (B10.out.trans ((k11.below (Nat.le_refl _) (by simp)).mono B10.out.size))
    clear k11 S10 K8
    go_wp2_with fail
    refine (same_recs (I8.out.below B11.out) (R8.out.below B11.out) (by have := HR.out.few; omega)).mono ?_
    rintro e w12 ⟨rfl, k12⟩
    rw [decide_eq_true rfl]
    have B12 := hide (B11.out.trans ((k12.below (Nat.le_refl _) (by simp)).mono B11.out.size))
    clear k12
    go_wp2
    go_ret
    exact ⟨rfl, below_then HB.out B12.out⟩

/-! ### The row's step -/
theorem tab_of {W : World} (h : laidMetH Tryz.prog [("math/bits.deBruijn32tab", Rows.laid_math_bits_deBruijn32tab), ("math/bits.deBruijn64tab", Rows.laid_math_bits_deBruijn64tab), ("internal/strconv.uint64pow10", Rows.laid_internal_strconv_uint64pow10)] W) : Tab W := by
  rw [MakeChecks.laidMetH_plain _ _ _ (by kernel_rfl)] at h
  obtain ⟨ps, ⟨_, _, _, _, p1, q1, _, _, _, _, ⟨_, _, _, _, p2, q2, _, _, _, _, ⟨g, t, cs, fuel, p, q, hg, ht, hvar, hd, _, _⟩, _⟩, _⟩, _⟩ := h
  have hty : (Tryz.prog.globals[gTab]?).map (·.type) = some 209 := by unfold gTab; kernel_rfl
  obtain rfl := Option.some.inj (gTab_is.symm.trans hg)
  obtain rfl := Option.some.inj (hty.symm.trans ht)
  unfold Tab Lib.TabIs
  rw [hvar, ← Lib.cells_of_tab (k := .u64) (zs := Lib.pow10Tab) Tryz.underlying209 Tryz.underlying50 (by kernel_rfl) (by kernel_rfl) hd]

theorem door_met (os : Os) (args : Array Value) : laidMetH Tryz.prog [("math/bits.deBruijn32tab", Rows.laid_math_bits_deBruijn32tab), ("math/bits.deBruijn64tab", Rows.laid_math_bits_deBruijn64tab), ("internal/strconv.uint64pow10", Rows.laid_internal_strconv_uint64pow10)] ((World.doorLaid Tryz.prog 4000 os).forCall (fun _ _ => 0) ⟨#[], args, []⟩).memory :=
  laidMetH_of_parts3 (fuel := 8) (laidMet_of_run' 8 (by kernel_rfl) (by kernel_rfl)) (by kernel_rfl) (by kernel_rfl)

set_option maxRecDepth 100000 in
theorem lifted (os : Os) (started : os.Started) (H : Type) (enc : TypeId × Value → H) :
    ReturnsInHanded {} Tryz.checked os 3 .any (fun w args => (Rows.extsortTellsSpec.pre enc Tryz.prog Tryz.f3 [] false w args ∧ laidMetH Tryz.prog [("math/bits.deBruijn32tab", Rows.laid_math_bits_deBruijn32tab), ("math/bits.deBruijn64tab", Rows.laid_math_bits_deBruijn64tab), ("internal/strconv.uint64pow10", Rows.laid_internal_strconv_uint64pow10)] w) ∧ sizedMet enc Tryz.prog Tryz.f3 (OpenSpec.ofChange Rows.extsortTellsSpec) false w args)
      (Rows.extsortTellsSpec.post enc Tryz.prog Tryz.f3 false true false false) := by
  refine returnsInHanded_of_change_and (C := Tryz.checked) (X := fun w _ => laidMetH Tryz.prog [("math/bits.deBruijn32tab", Rows.laid_math_bits_deBruijn32tab), ("math/bits.deBruijn64tab", Rows.laid_math_bits_deBruijn64tab), ("internal/strconv.uint64pow10", Rows.laid_internal_strconv_uint64pow10)] w) (fun _ _ _ hh h => h.of_heap hh) own started (by kernel_rfl) Tryz.func3
    (ChangeSpec.witness_shaped (enc := enc) (C := Tryz.checked) (os := os) (X := fun w _ => laidMetH Tryz.prog [("math/bits.deBruijn32tab", Rows.laid_math_bits_deBruijn32tab), ("math/bits.deBruijn64tab", Rows.laid_math_bits_deBruijn64tab), ("internal/strconv.uint64pow10", Rows.laid_internal_strconv_uint64pow10)] w) false (World.doorLaid Tryz.prog 4000 os) #[.slice none 0 0, .int .i64 0, .int .i64 0, .int .i64 0] 8 rfl (World.shaped_of_RefB (by kernel_rfl) (by kernel_rfl)) (by kernel_rfl) (by kernel_rfl) (by kernel_rfl) (door_met os _)) ?_
  intro W base args ds gs before hval0 hW hcnd _ hL _
  have hval : ∀ (j : Nat) t v, Tryz.f3.params[j]? = some t → args[j]? = some v → Value.okWide Tryz.prog W .any base t v := hval0
  have hW' := hW
  obtain ⟨p, q, hA0, hV, rfl, hfz, hnd⟩ := hW
  have hA : DataW.TrodAll enc Tryz.prog W 0 (fun _ => true) true Tryz.f3.params.toList args.toList ds p := hA0
  rw [Tryz.params3] at hA hval
  obtain ⟨v0, vs0, d0, ds0, p0, q0, hargs, rfl, rfl, h0, r0⟩ := trodAll_cons hA
  obtain ⟨v1, vs1, d1, ds1, p1, q1, rfl, rfl, rfl, h1, r1⟩ := trodAll_cons r0
  obtain ⟨v2, vs2, d2, ds2, p2, q2, rfl, rfl, rfl, h2, r2⟩ := trodAll_cons r1
  obtain ⟨v3, vs3, d3, ds3, p3, q3, rfl, rfl, rfl, h3, r3⟩ := trodAll_cons r2
  obtain ⟨rfl, rfl, rfl⟩ := trodAll_nil r3
  obtain rfl : args = #[v0, v1, v2, v3] := by cases args; simp_all
  obtain ⟨rfl, rfl⟩ := trodVars_none hV
  obtain ⟨a0, len0, cap0, rfl⟩ := okWide_slice Tryz.underlying22 (hval 0 22 v0 rfl rfl)
  have k0 := h0
  have lt0 : ∀ x ∈ p0, x.block < W.heap.size := by obtain ⟨m, hm⟩ := k0; exact DataW.trod_lt m _ _ _ hm
  obtain ⟨es0, i0, l0, m0⟩ : ∃ es, IsR W (.slice a0 len0 cap0) es ∧ es.length = len0 ∧ len0 ≤ maxLen := by
    obtain ⟨fuel, hf⟩ := h0
    obtain ⟨a, len, cap, es, hcs, h1, h2, h3⟩ := recsIn hf
    simp [Value.cells] at hcs
    obtain ⟨rfl, rfl, rfl⟩ := hcs
    exact ⟨es, h1, h2, h3⟩
  obtain ⟨a1, rfl, rfl, rfl, w1⟩ := open_int Tryz.underlying3 (hval 1 3 v1 rfl rfl) h1
  obtain ⟨a2, rfl, rfl, rfl, w2⟩ := open_int Tryz.underlying3 (hval 2 3 v2 rfl rfl) h2
  obtain ⟨a3, rfl, rfl, rfl, w3⟩ := open_int Tryz.underlying3 (hval 3 3 v3 rfl rfl) h3
  have hT := tab_of hL
  clear hA0 hval0
  refine (walk a0 len0 cap0 es0 a1 a2 a3 W i0 l0 m0 w1 w2 w3 hT).mono fun e W' ⟨he, bel⟩ => ?_
  subst he
  exact ⟨_, rfl, _, _, _, [], _, [], hW', trodAll_mk1 (shut_bool Tryz.underlying4 _), (trodAll_cons_mk (Below.trod laidOut (by kernel_rfl) (of_decide_eq_true (by kernel_rfl)) k0 bel lt0) (trodAll_cons_mk (shut_int Tryz.underlying3 w1) (trodAll_cons_mk (shut_int Tryz.underlying3 w2) (trodAll_cons_mk (shut_int Tryz.underlying3 w3) trodAll_mk0)))), rfl, bel.frame _, fun h => by cases h⟩

theorem over : Rows.extsortTellsRow.holds Tryz.pinned (OpenSpec.ofChange Rows.extsortTellsSpec) :=
  OpenClaim.holds_of_wide 3 Tryz.f3 rfl rfl rfl rfl rfl rfl rfl ⟨rfl, rfl, rfl, rfl, rfl⟩ rfl rfl rfl rfl rfl (by kernel_rfl) Tryz.func3 (by kernel_rfl)
    (of_decide_eq_true (by kernel_rfl)) (by unfold Func.isWrapper; first | (rw [if_pos (by decide +kernel)]; kernel_rfl) | (rw [if_neg (by decide +kernel)]; exact ⟨rfl, rfl⟩))
    (fun os started H enc _ => lifted os started H enc)

/-- The tied card. -/
theorem proved : Rows.ExtsortTellsCardSaid :=
  Claim7.holds_tied_plain_at .later [] [.data, .data, .data] true (true, "faa2ecafac8662add5a5fb14381b479056ba2cacb83f709c9c3b464184dd77bf") false
    over (fun _ h => by cases h) (by kernel_rfl) (fun _ h => by cases h) extsortTells_row_tie rfl ⟨rfl, rfl⟩ (by kernel_rfl) rfl
    (fun f fn hf hfn => by
      obtain rfl : f = 3 := Option.some.inj ((show Tryz.prog.funcNamed "cartage/cartagelaw10.ExtsortTells" = some 3 by kernel_rfl).symm.trans hf) |>.symm
      obtain rfl : fn = Tryz.f3 := (Option.some.inj (Tryz.func3.symm.trans hfn)).symm
      exact ⟨by kernel_rfl, fun j t ht => by
        rw [Tryz.params3] at ht
        have hm : t ∈ [22, 3, 3, 3] := by simpa using Array.mem_of_getElem? ht
        have hall : ([22, 3, 3, 3].all fun u => !Tryz.prog.wantsStandIn u) = true := by kernel_rfl
        exact (show Tryz.prog.wantsStandIn t = false by simpa using List.all_eq_true.1 hall t hm)⟩)
    (by kernel_rfl)
#print axioms proved
end Go.Proofs.YtgpbanjammipiaaGreatDoor.extsortTells
