/-
  Proved: for every room and slice of records, RecordRoom returns true and leaves the slice as it was (where there is no room it is ErrSpace, and what was there stays). No condition.
-/
import Derived.WalkKit
import Derived.ProofKit
import Derived.OpenShut
import Derived.ShutString
import Derived.Test.YtdhajmgpakconaaGM
namespace Go.Proofs.Ytdhajmgpakconaa.recordRoom
open Go.ChangeShapes Go.WideShapes Go.ChangeAt Go.RowKit
open Go.ChangeMaps (open_string shut_string)
set_option linter.unusedVariables false

theorem own : ownKnob Try.prog.godebug = none := by kernel_rfl
theorem laidOut : laidOutB Try.prog = true := by kernel_rfl


/-! ### The walk -/
set_option maxRecDepth 100000 in
set_option maxHeartbeats 8000000 in
theorem walk (a0 : Int) (a1 : Option Addr) (len1 cap1 : Nat) (es1 : List Rc) (w : World) (w0 : (Lit.int .i64 a0).wf = true) (i1 : IsR w (.slice a1 len1 cap1) es1) (l1 : es1.length = len1) (m1 : len1 ≤ maxLen) :
    Calls Try.prog 6 #[.int .i64 a0, .slice a1 len1 cap1] w fun e w' => e = .returned (.bool true) ∧ Below w.heap.size w w' := by
  obtain ⟨o0, hc0, ho0⟩ : ∃ o : Nat, (bits .and .i64 a0 65535).tmod 41 = (o : Int) ∧ o < 41 := by
    refine ⟨((a0 % 65536).tmod 41).toNat, ?_, ?_⟩
    · rw [i64_and65535]
      have := Int.tmod_nonneg 41 (show 0 ≤ a0 % 65536 by omega)
      omega
    · have h1 := Int.tmod_nonneg 41 (show 0 ≤ a0 % 65536 by omega)
      have h2 := Int.tmod_lt_of_pos (a0 % 65536) (show (0 : Int) < 41 by omega)
      omega
  have hw9 : IntKind.i64.wrap ((o0 : Int) + 2) = (o0 : Int) + 2 := i64_small _ (by omega) (by omega)
  have SH := hide (shown9_any w)
  have HI := hide i1
  have hln : es1.length ≤ 9223372036854775807 := by unfold maxLen at m1; omega
  have HLN := hide hln
  clear i1 l1 m1 hln
  go_enter Try.func6, Try.ntmps6
  go_wp2_with fail
  refine SH.out.mono ?_
  rintro e w1 ⟨rfl, b1⟩
  have FW := hide (few9_any (HI.out.below b1) HLN.out)
  have B1 := hide b1
  clear b1
  go_wp2_with fail
  refine FW.out.mono ?_
  rintro e w2 ⟨v, rfl, r2, b2, n2⟩
  obtain ⟨es, hes⟩ : ∃ es, es = es1.take 160 := ⟨_, rfl⟩
  have hel : es.length ≤ 160 := by rw [hes, List.length_take]; omega
  rw [← hes] at r2
  have B2 := hide (below_then B1.out b2)
  have R2 := hide r2
  have HEL := hide hel
  obtain ⟨c, hc⟩ : ∃ c, c = fileB es := ⟨_, rfl⟩
  have hcl : c.length ≤ 2584 := by rw [hc]; exact fileB_len160 hel
  have HC := hide hc
  obtain ⟨n, hn⟩ : ∃ n, n = c.length := ⟨_, rfl⟩
  have hnl : n ≤ 2584 := by omega
  have HN := hide hn
  obtain ⟨q, hq⟩ : ∃ q : Nat, q = (n + 15) / 16 := ⟨_, rfl⟩
  have hq1 : IntKind.i64.wrap ((n : Int) + 15) = (n : Int) + 15 := i64_small _ (by omega) (by omega)
  have hq2 : ((n : Int) + 15).tdiv 16 = (q : Int) := by rw [Int.tdiv_eq_ediv_of_nonneg (by omega)]; omega
  have hq3 : IntKind.i64.wrap (q : Int) = (q : Int) := i64_small _ (by omega) (by omega)
  have HQ : Hid (sec c.length = (q : Int)) := by show _ = _; rw [← hn, hq]; rfl
  obtain ⟨c1, hc1⟩ : ∃ c1, c1 = fileB [(1, 0)] := ⟨_, rfl⟩
  have hl1 : c1.length = 22 := by rw [hc1, fileB_length]; rfl
  have hok1 : ∀ y ∈ [((1 : Int), (0 : Int))], okR y := by intro y hy; simp at hy; subst hy; exact ⟨⟨by decide, by decide⟩, by decide, by decide⟩
  have HRD : Hid (readB false c1 = ([(1, 0)], 0)) := by show _ = _; rw [hc1]; exact readB_file _ hok1
  have HC1 := hide (And.intro hc1 (And.intro hl1 hok1))
  clear hes hel r2 b2 hc hcl hn hq SH FW B1 hc1 hl1 hok1
  go_wp2_with fail
  refine (Lw.new (w0 := w) (w := w2) (hs := Ytdhajmgpakconaa.own v) ((o0 : Int) + 2) (by omega) B2.out (fun x hx => R2.out.low x hx)).mono ?_
  rintro e w3 ⟨p, rfl, L3, b3⟩
  have R3 := hide (R2.out.hld (Hld.below b3) (hs := Ytdhajmgpakconaa.own v) (fun x hx => hx))
  have HL3 := hide (L3.hold (hs' := [w3.heap.size]) ((Below.refl _ w3).alloc (Nat.le_refl _) (.cells #[.int .u64 1, .int .u64 0] 48)) (by simp))
  have HI3 := hide (isR_one w3 1 0 ⟨⟨by decide, by decide⟩, by decide, by decide⟩)
  have R3' := hide (R3.out.hld (Hld.below ((Below.refl _ w3).alloc (Nat.le_refl _) (.cells #[.int .u64 1, .int .u64 0] 48))) (hs := Ytdhajmgpakconaa.own v) (fun x hx => hx))
  clear L3 b3 R2 R3
  go_wp2_with fail
  refine (HL3.out.write_ok ⟨#[102, 105, 114, 115, 116]⟩ nmFirst rfl rfl (by omega) (by rw [← HC1.out.1, HC1.out.2.1]; simp [sec]; omega) (by simp) HI3.out (by intro _ x hx; simp only [Ytdhajmgpakconaa.own, Value.ownBlock, Option.toList_some, List.mem_singleton] at hx; simp [hx])).mono ?_
  rintro e w4 ⟨k4, rfl, L4, d4, hk4, hk4'⟩
  rw [← HC1.out.1, HC1.out.2.1, Int.zero_add] at L4
  have L4' : Lw w w4 p ([([102, 105, 114, 115, 116], c1, c1)], upS ((o0 : Int) + 2) 2 k4) ([w3.heap.size] ++ Ytdhajmgpakconaa.own v) := L4
  have HL4 := hide (L4'.sub (hs' := Ytdhajmgpakconaa.own v) (fun x hx => by simp [hx]))
  have R4 := hide (R3'.out.hld d4 (fun x hx => by simp [hx]))
  have hkb : k4 ≤ 100 := by simp at hk4'; omega
  clear L4 L4' d4 R3' HL3 hk4' HI3
  go_wp2_with fail
  refine (HL4.out.write_room ⟨#[102]⟩ nmF (l := es) (by simp [lookA]) rfl (by omega) (by have := HEL.out; omega) R4.out.isR (fun _ x hx => hx)).mono ?_
  rintro e w5 ⟨E, cf, sf, U5, k5, rfl, hE0, hE6, L5, d5, hU5, hk5, hk5'⟩
  rw [← HC.out, HQ.out] at hE0 hE6
  have HL5 := hide L5
  have R5 := hide (R4.out.hld d5 (fun x hx => hx))
  have hkb5 : k5 ≤ 300 := by have := HEL.out; omega
  clear L5 d5 R4 HL4 hk5'
  go_wp2_with fail
  refine (refBytes_any R5.out.isR (by have := HEL.out; omega)).mono ?_
  rintro e w6 ⟨u, rfl, t6, b6, n6⟩
  rw [← HC.out] at t6
  obtain ⟨ua, ucap, rfl, _⟩ := t6.isB.form
  have HL6 := hide (HL5.out.below b6)
  clear t6 n6 b6 R5 HL5
  rw [← HN.out]
  go_wp2_with fail
  refine (HL6.out.read ⟨#[102, 105, 114, 115, 116]⟩ nmFirst (x := ([102, 105, 114, 115, 116], c1, c1)) (by rw [lookA_insO _ _ _ (by show ([102] : List UInt8) ≠ [102, 105, 114, 115, 116]; decide)]; rfl) (by rw [HC1.out.2.1]; omega) HRD.out HC1.out.2.2 (by simp; omega)).mono ?_
  rintro e w7 ⟨rv, k7, rfl, r7, L7, d7, hk7, hk7'⟩
  rw [if_pos rfl] at r7
  simp only [List.length_cons, List.length_nil] at hk7'
  obtain ⟨g, gcap, rfl, _⟩ := r7.blk (by simp)
  have HL7 := hide L7
  clear r7 L7 d7 HL6
  go_wp2_with fail
  refine (HL7.out.newReader_no ⟨#[110, 111, 110, 101]⟩ nmNone (by rw [lookA_insO _ _ _ (by show ([102] : List UInt8) ≠ [110, 111, 110, 101]; decide)]; rfl) (by omega)).mono ?_
  rintro e w8 ⟨rfl, L8, d8⟩
  have HB := hide L8.bel
  have US := hide L8.used
  simp only [upS] at US
  have HU5 : U5 ≤ (o0 : Int) + 2 := hU5
  clear L8 d8 HL7
  by_cases hf : (q : Int) ≤ (o0 : Int)
  · obtain rfl : E = 0 := hE0 (by omega)
    have hqn : q ≤ o0 := by omega
    clear hE0 hE6
    go_wp2_with (go_at_call 28; refine US.out.mono ?_; rintro e w9 ⟨rfl, rfl⟩)
    go_ret
    exact ⟨rfl, HB.out⟩
  · obtain rfl : E = 6 := hE6 (by omega)
    have hqn : ¬ q ≤ o0 := by omega
    clear hE0 hE6
    go_wp2_with (go_at_call 28; refine US.out.mono ?_; rintro e w9 ⟨rfl, rfl⟩)
    go_ret
    exact ⟨rfl, HB.out⟩

/-! ### The row's step -/
set_option maxRecDepth 100000 in
theorem lifted (os : Os) (started : os.Started) (H : Type) (enc : TypeId × Value → H) :
    ReturnsInHanded {} Try.checked os 6 .any (Rows.recordRoomSpec.pre6 enc Try.prog Try.f6 Rows.recordRoomRow.domain false) (Rows.recordRoomSpec.post enc Try.prog Try.f6 false true false false) := by
  refine returnsInHanded_of_change (C := Try.checked) own started (by kernel_rfl) Try.func6
    (ChangeSpec.witness6 (enc := enc) (C := Try.checked) false ⟨#[], #[.int .i64 0, .slice none 0 0], []⟩ 8 (by kernel_rfl) (by kernel_rfl) (by kernel_rfl) (by kernel_rfl)) ?_
  intro W base args ds gs before hval0 hW hcnd _
  have hval : ∀ (j : Nat) t v, Try.f6.params[j]? = some t → args[j]? = some v → Value.okWide Try.prog W .any base t v := hval0
  have hW' := hW
  obtain ⟨p, q, hA0, hV, rfl, hfz, hnd⟩ := hW
  have hA : DataW.TrodAll enc Try.prog W 0 (fun _ => true) true Try.f6.params.toList args.toList ds p := hA0
  rw [Try.params6] at hA hval
  obtain ⟨v0, vs0, d0, ds0, p0, q0, hargs, rfl, rfl, h0, r0⟩ := trodAll_cons hA
  obtain ⟨v1, vs1, d1, ds1, p1, q1, rfl, rfl, rfl, h1, r1⟩ := trodAll_cons r0
  obtain ⟨rfl, rfl, rfl⟩ := trodAll_nil r1
  obtain rfl : args = #[v0, v1] := by cases args; simp_all
  obtain ⟨rfl, rfl⟩ := trodVars_none hV
  obtain ⟨a0, rfl, rfl, rfl, w0⟩ := open_int Try.underlying3 (hval 0 3 v0 rfl rfl) h0
  obtain ⟨a1, len1, cap1, rfl⟩ := okWide_slice Try.underlying22 (hval 1 22 v1 rfl rfl)
  have k1 := h1
  have lt1 : ∀ x ∈ p1, x.block < W.heap.size := by obtain ⟨m, hm⟩ := k1; exact DataW.trod_lt m _ _ _ hm
  obtain ⟨es1, i1, l1, m1⟩ : ∃ es, IsR W (.slice a1 len1 cap1) es ∧ es.length = len1 ∧ len1 ≤ maxLen := by
    obtain ⟨fuel, hf⟩ := h1
    obtain ⟨a, len, cap, es, hcs, h1, h2, h3⟩ := recsIn hf
    simp [Value.cells] at hcs
    obtain ⟨rfl, rfl, rfl⟩ := hcs
    exact ⟨es, h1, h2, h3⟩
  clear hA0 hval0
  refine (walk a0 a1 len1 cap1 es1 W w0 i1 l1 m1).mono fun e W' ⟨he, bel⟩ => ?_
  subst he
  exact ⟨_, rfl, _, _, _, [], _, [], hW', trodAll_mk1 (shut_bool Try.underlying4 _), (trodAll_cons_mk (shut_int Try.underlying3 w0) (trodAll_cons_mk (Below.trod laidOut (by kernel_rfl) (of_decide_eq_true (by kernel_rfl)) k1 bel lt1) trodAll_mk0)), rfl, bel.frame _, fun h => by cases h⟩

theorem over : Rows.recordRoomRow.holds Try.pinned (OpenSpec.ofChange Rows.recordRoomSpec) :=
  OpenClaim.holds_of_wide 6 Try.f6 rfl rfl rfl rfl rfl rfl rfl ⟨rfl, rfl, rfl, rfl, rfl⟩ rfl rfl rfl rfl rfl (by kernel_rfl) Try.func6 (by kernel_rfl)
    (of_decide_eq_true (by kernel_rfl)) (by unfold Func.isWrapper; first | (rw [if_pos (by decide +kernel)]; kernel_rfl) | (rw [if_neg (by decide +kernel)]; exact ⟨rfl, rfl⟩))
    (fun os started H enc _ => lifted os started H enc)

/-- The statement. -/
theorem proved : Rows.RecordRoomSaid := over
#print axioms proved
end Go.Proofs.Ytdhajmgpakconaa.recordRoom
