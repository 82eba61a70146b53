/-
  Proved: for every slice of records, RecordOne returns true and leaves it as it was (written one by one it is the same). No condition.
-/
import Derived.Deep.QuietTactic
import Derived.BigQuiet
import Derived.WalkKit
import Derived.ProofKit
import Derived.OpenShut
import Derived.ShutString
import Derived.Test.YtdhajmgpakconaaGM
namespace Go.Proofs.Ytdhajmgpakconaa.recordOne
open Go.ChangeShapes Go.WideShapes Go.ChangeAt Go.RowKit
open Go.ChangeMaps (open_string shut_string)
set_option linter.unusedVariables false

theorem own : ownKnob Try.prog.godebug = none := by kernel_rfl
theorem laidOut : laidOutB Try.prog = true := by kernel_rfl


/-! ### The walk -/
set_option maxRecDepth 100000 in
set_option maxHeartbeats 20000000 in
theorem walk (a0 : Option Addr) (len0 cap0 : Nat) (es0 : List Rc) (w : World) (i0 : IsR w (.slice a0 len0 cap0) es0) (l0 : es0.length = len0) (m0 : len0 ≤ maxLen) :
    Calls Try.prog 5 #[.slice a0 len0 cap0] w fun e w' => e = .returned (.bool true) ∧ Below w.heap.size w w' := by
  have SH := hide (shown9_any w)
  have HI := hide i0
  have hln : es0.length ≤ 9223372036854775807 := by unfold maxLen at m0; omega
  have HLN := hide hln
  clear i0 l0 m0 hln
  go_enter Try.func5, Try.ntmps5
  go_wp2_with fail
  refine SH.out.mono ?_
  rintro e w1 ⟨rfl, b1⟩
  have FW := hide (few9_any (HI.out.below b1) HLN.out)
  have B1 := hide b1
  clear b1
  go_wp2_with fail
  refine FW.out.mono ?_
  rintro e w2 ⟨v, rfl, r2, b2, n2⟩
  obtain ⟨es, hes⟩ : ∃ es, es = es0.take 160 := ⟨_, rfl⟩
  have hel : es.length ≤ 160 := by rw [hes, List.length_take]; omega
  rw [← hes] at r2
  have B2 := hide (below_then B1.out b2)
  have HEL := hide hel
  have HOK := hide r2.2
  obtain ⟨c, hc⟩ : ∃ c, c = fileB es := ⟨_, rfl⟩
  have hcl : c.length ≤ 2584 := by rw [hc]; exact fileB_len160 hel
  have HCL := hide hcl
  have HC := hide hc
  have HRD : Hid (readB false c = (es, 0)) := by show _ = _; rw [hc]; exact readB_file es r2.2
  have hsec := sec_small hcl
  have HSEC : Hid (sec c.length ≤ 200) := by show _ ≤ _; omega
  obtain ⟨va, vcap, rfl, hvc⟩ := r2.isR.form
  obtain ⟨n, hn⟩ : ∃ n, n = es.length := ⟨_, rfl⟩
  have hnl : n ≤ 160 := by omega
  have HN := hide hn
  rw [← hn] at r2 hvc ⊢
  have R2 := hide r2
  clear hes hel r2 b2 n2 hc hcl hsec SH FW B1 hn
  go_wp2_with fail
  refine (Lw.new (w0 := w) (w := w2) (hs := Ytdhajmgpakconaa.own (.slice va n vcap)) 1000 (by omega) B2.out (fun x hx => R2.out.low x hx)).mono ?_
  rintro e w3 ⟨p, rfl, L3, b3⟩
  have HL3 := hide L3
  have R3 := hide (R2.out.hld (Hld.below b3) (hs := Ytdhajmgpakconaa.own (.slice va n vcap)) (fun x hx => hx))
  clear L3 b3 R2
  go_wp2_with fail
  refine (HL3.out.newWriter (by simp [upS]) ⟨#[97]⟩ nmA (B := (insA [] ([97], [], []), upS 1000 (0 + sec ([] : List Int).length) 1)) rfl).mono ?_
  rintro e w4 ⟨q, rfl, L4, d4⟩
  have HL4 := hide L4
  have R4 := hide (R3.out.hld d4 (fun x hx => hx))
  clear L4 d4 R3 HL3
  go_wp2
  go_loopw [7] (fun v7 wr => ∃ (i : Nat) (F : List Int) (ts : List Rc) (k : Int), v7 = .int .i64 i ∧ i ≤ n ∧ k ≤ 1 + (i : Int) ∧ Hid (LwW w wr p q (insA [] ([97], F, []), upS 1000 (0 + sec F.length) k) ⟨#[97]⟩ (textB ts) (Ytdhajmgpakconaa.own (.slice va n vcap)) ∧ F ++ fileB (ts ++ es.drop i) = c ∧ ts.length < 50 ∧ RowR wr (.slice va n vcap) es)) (fun v7 _ => n + 1 - numR v7)
  case atStart => exact ⟨0, [], [], 1, by first | rfl | go_num, Nat.zero_le _, by simp, HL4.out, by rw [List.drop_zero]; exact HC.out.symm, by simp, R4.out⟩
  case round =>
    obtain ⟨i, F, ts, k, rfl, hi, hk, HH⟩ := hrel
    have hw1 : IntKind.i64.wrap ((i : Int) + 1) = (i : Int) + 1 := i64_small _ (by omega) (by omega)
    by_cases hin : i < n
    · have hin' : (i : Int) < (n : Int) := by omega
      have hil : i < es.length := by have := HN.out; omega
      have hf := HH.out.2.1
      rw [drop_rec hil] at hf
      have ra := HH.out.2.2.2
      obtain ⟨g, gcap, hge, _⟩ := ra.blk (by omega)
      simp only [Value.slice.injEq] at hge
      obtain ⟨rfl, hge2, rfl⟩ := hge
      clear hge2
      obtain ⟨c1, c2⟩ := ra.cell2 i hil
      have hok := ra.okAt i hil
      obtain ⟨⟨x1, x2⟩, hx⟩ : ∃ x, x = es[i]! := ⟨_, rfl⟩
      rw [← hx] at hf c1 c2 hok
      dsimp only at c1 c2
      obtain ⟨F', ts', k', e1, e2, e3, e4, e5⟩ := put_up (l0 := []) (n := [97]) (R := 1000) (U := 0) (k := k) (F := F) (S := []) rfl HH.out.2.2.1 (x1, x2) (es.drop (i + 1)) (by rw [hf]; have := HSEC.out; omega)
      have PT := HH.out.1.put nmA (by simp only [upS]; omega) (x1, x2) hok (by have := HH.out.2.2.1; rw [textB_length]; omega) e1
      dsimp only at PT
      have HPT := hide PT
      have HE := hide (And.intro (e2.trans hf) e3)
      have HR := hide ra
      clear hf ra hx hok e1 e2 e3 PT
      go_wp2_with fail
      refine HPT.out.mono ?_
      rintro e w5 ⟨rfl, L5, d5⟩
      have HL5 := hide L5
      have R5 := hide (HR.out.hld d5 (fun x hx => hx))
      clear L5 d5
      go_wp2
      go_roundw
      case rel => exact ⟨i + 1, F', ts', k', by go_num, by omega, by push_cast; omega, HL5.out, HE.out.1, HE.out.2, R5.out⟩
      case measure => simp [numR]; omega
    · obtain rfl : i = n := by omega
      have hf := HH.out.2.1
      rw [List.drop_of_length_le (by have := HN.out; omega), List.append_nil] at hf
      have hse : sec F.length ≤ sec c.length := by rw [← hf]; exact sec_le_append _ _
      obtain ⟨k', e1, e2, e3⟩ := close_up (l0 := []) (n := [97]) (R := 1000) (U := 0) (k := k) (F := F) (S := []) rfl HH.out.2.2.1 (by have := HSEC.out; omega)
      rw [hf, if_pos (by have := HSEC.out; omega)] at e1
      have CL := hide (HH.out.1.close nmA (by simp only [upS]; omega) (by have := HH.out.2.2.1; rw [textB_length]; omega) e1)
      have R4 := hide HH.out.2.2.2
      clear hf hse e1
      go_wp2_with fail
      refine CL.out.mono ?_
      rintro e w5 ⟨rfl, L5, d5⟩
      have HL5 := hide L5
      have R5 := hide (R4.out.hld d5 (fun x hx => hx))
      clear L5 d5 CL
      go_wp2_with fail
      refine (HL5.out.put (0, 0)).mono ?_
      rintro e w6 ⟨rfl, L6, d6⟩
      have HL6 := hide L6
      have R6 := hide (R5.out.hld d6 (fun x hx => hx))
      clear L6 d6 HL5 R5
      go_wp2_with fail
      refine HL6.out.close.mono ?_
      rintro e w7 ⟨rfl, rfl⟩
      have HL7 := hide HL6.out.lw
      rw [Int.zero_add] at HL7
      clear HL6
      go_wp2_with fail
      refine (HL7.out.write_ok ⟨#[98]⟩ nmB (l := es) (by rw [lookA_insO _ _ _ (by show ([97] : List UInt8) ≠ [98]; decide)]; rfl) rfl (by have := HSEC.out; omega) (by have := HSEC.out; rw [← HC.out]; omega) (by have := HEL.out; omega) R6.out.isR (fun _ x hx => hx)).mono ?_
      rintro e w8 ⟨k8, rfl, L8, d8, hk8, hk8'⟩
      rw [← HC.out] at L8
      have hkb : k8 ≤ 600 := by have := HEL.out; omega
      have la : Hid (lookA (insA (insA [] ([97], c, c)) ((⟨#[98]⟩ : ByteArray).data.toList, c, c)) [97] = some ([97], c, c)) := by show _ = _; rw [lookA_insO _ _ _ (by show ([98] : List UInt8) ≠ [97]; decide)]; exact lookA_ins [] ([97], c, c) rfl
      have lb : Hid (lookA (insA (insA [] ([97], c, c)) ((⟨#[98]⟩ : ByteArray).data.toList, c, c)) [98] = some ([98], c, c)) := lookA_ins _ ([98], c, c) (by rw [lookA_insO _ _ _ (by show ([97] : List UInt8) ≠ [98]; decide)]; rfl)
      generalize insA (insA [] ([97], c, c)) ((⟨#[98]⟩ : ByteArray).data.toList, c, c) = LL at L8 la lb
      generalize sec c.length + sec c.length = UU at L8
      have HL8 := hide L8
      have R8 := hide (R6.out.hld d8 (fun x hx => hx))
      obtain ⟨cn, hcn⟩ : ∃ cn, cn = c.length := ⟨_, rfl⟩
      have HCN := hide hcn
      clear L8 d8 R6 HL7 hk8' hcn
      go_wp2_with fail
      refine (HL8.out.size (by simp only [upS]; omega) ⟨#[97]⟩ nmA (m := (cn : Int)) (k := 0) (begin_up _ _ _ _) (size_up la.out HCN.out)).mono ?_
      rintro e w9 ⟨rfl, L9, d9⟩
      have HL9 := hide L9
      have R9 := hide (R8.out.hld d9 (fun x hx => hx))
      clear L9 d9 R8 HL8
      go_wp2_with fail
      refine (HL9.out.size (by simp only [upS]; omega) ⟨#[98]⟩ nmB (m := (cn : Int)) (k := 0) (begin_up _ _ _ _) (size_up lb.out HCN.out)).mono ?_
      rintro e w10 ⟨rfl, L10, d10⟩
      have HL10 := hide L10
      have R10 := hide (R9.out.hld d10 (fun x hx => hx))
      clear L10 d10 R9 HL9
      go_wp2_with fail
      refine (HL10.out.readAll (by omega) ⟨#[97]⟩ nmA (x := ([97], c, c)) la.out cn HCN.out).mono ?_
      rintro e w11 ⟨ba, rfl, q11, L11, d11⟩
      have HL11 := hide L11
      have R11 := hide (R10.out.hld d11 (fun x hx => hx))
      have Q11 := hide q11
      clear L11 d11 R10 HL10 q11
      go_wp2_with fail
      refine (HL11.out.readAll (by omega) ⟨#[98]⟩ nmB (x := ([98], c, c)) lb.out cn HCN.out).mono ?_
      rintro e w12 ⟨bb, rfl, q12, L12, d12⟩
      have HL12 := hide (L12.sub (hs' := Ytdhajmgpakconaa.own (.slice va i vcap)) (fun x hx => by simp [hx]))
      have R12 := hide (R11.out.hld d12 (fun x hx => by simp [hx]))
      have cv1 := conv_isB (Q11.out.hld d12 (fun x hx => by simp [hx])).isB
      have cv2 := conv_isB q12.isB
      clear L12 d12 R11 Q11 HL11 q12
      go_wp2_with fail
      refine (HL12.out.newReader (by omega) ⟨#[97]⟩ nmA (x := ([97], c, c)) la.out (by have := HCL.out; dsimp only; omega)).mono ?_
      rintro e w13 ⟨q2, k13, rfl, L13, d13, hk13, hk13'⟩
      have HL13 := hide L13
      have R13 := hide (R12.out.hld d13 (fun x hx => hx))
      have W13 := hide (wil_start c)
      rw [HRD.out] at W13
      obtain ⟨N9, hN9⟩ : ∃ N9, N9 = i := ⟨_, rfl⟩
      clear L13 d13 R12 HL12 cv1 cv2 hin hw1
      subst hN9
      go_wp2
      obtain ⟨wo, hwo⟩ : ∃ wo, wo = wr := ⟨_, rfl⟩
      subst hwo
      go_loopw [23] (fun v9 wr => ∃ (i : Nat) (st : Rst) (k : Int), v9 = .int .i64 i ∧ i ≤ N9 ∧ k ≤ k13 + 2 * (i : Int) ∧ Hid (LwR w wr p q2 LL 1000 UU k ⟨#[97]⟩ c st (Ytdhajmgpakconaa.own (.slice va N9 vcap)) ∧ Wil c st (es.drop i) 0 ∧ RowR wr (.slice va N9 vcap) es)) (fun v9 _ => N9 + 1 - numR v9)
      case atStart => exact ⟨0, rst0, k13, by first | rfl | go_num, Nat.zero_le _, by simp, HL13.out, by rw [List.drop_zero]; exact W13.out, R13.out⟩
      case round =>
        obtain ⟨i, st, k, rfl, hi, hk, HH⟩ := hrel
        have hw1 : IntKind.i64.wrap ((i : Int) + 1) = (i : Int) + 1 := i64_small _ (by omega) (by omega)
        by_cases hin : i < N9
        · have hin' : (i : Int) < (N9 : Int) := by omega
          have hil : i < es.length := by have := HN.out; omega
          have hw := HH.out.2.1
          rw [drop_rec hil] at hw
          obtain ⟨⟨x1, x2⟩, hx⟩ : ∃ x, x = es[i]! := ⟨_, rfl⟩
          rw [← hx] at hw
          have NX := HH.out.1.next_some (by omega) nmA hw
          dsimp only at NX
          have HNX := hide NX
          have HX := hide hx
          clear hw hx NX
          go_wp2_with fail
          refine HNX.out.mono ?_
          rintro e w7 ⟨st', k', rfl, L7, hw7, d7, hk7, hk7'⟩
          have r7 := HH.out.2.2.hld d7 (fun x hx => hx)
          have ra := r7.kept ((Kept.refl [] w7).alloc (.cells #[.int .u64 x1, .int .u64 x2] 48)) (fun _ _ => by simp)
          obtain ⟨g, gcap, hge, _⟩ := ra.blk (by omega)
          simp only [Value.slice.injEq] at hge
          obtain ⟨rfl, hge3, rfl⟩ := hge
          clear hge3
          obtain ⟨c1, c2⟩ := ra.cell2 i hil
          rw [← HX.out] at c1 c2
          dsimp only at c1 c2
          have hb := heap_alloc_new w7 (.cells #[.int .u64 x1, .int .u64 x2] 48)
          have d1 := (cell_of_heap hb 0).trans (rfl : _ = some (Value.int .u64 x1))
          have d2 := (cell_of_heap hb 1).trans (rfl : _ = some (Value.int .u64 x2))
          have HL7 := hide (L7.below ((Below.refl _ w7).alloc (Nat.le_refl _) (.cells #[.int .u64 x1, .int .u64 x2] 48)))
          have HW7 := hide (And.intro hw7 ra)
          clear L7 hw7 d7 r7 ra hb
          go_wp2
          go_quiet (fail)
          go_wp2
          go_roundw
          case rel => exact ⟨i + 1, st', k', by go_num, by omega, by push_cast; omega, HL7.out.below (below_drewN _ _), HW7.out.1, HW7.out.2.kept ((Kept.refl [] _).drewN _) (fun _ _ => by simp)⟩
          case measure => simp [numR]; omega
        · obtain rfl : i = N9 := by omega
          have hw := HH.out.2.1
          rw [List.drop_of_length_le (by have := HN.out; omega)] at hw
          have NX := hide (HH.out.1.next_none (by omega) nmA hw)
          clear hw
          go_wp2_with fail
          refine NX.out.mono ?_
          rintro e w7 ⟨st', k', rfl, L7, hw7, d7, hk7, hk7'⟩
          have HB := hide L7.bel
          clear L7 hw7 d7
          go_wp2
          go_ret
          exact ⟨rfl, HB.out.alloc HB.out.size _⟩

/-! ### The row's step -/
set_option maxRecDepth 100000 in
theorem lifted (os : Os) (started : os.Started) (H : Type) (enc : TypeId × Value → H) :
    ReturnsInHanded {} Try.checked os 5 .any (Rows.recordOneSpec.pre6 enc Try.prog Try.f5 Rows.recordOneRow.domain false) (Rows.recordOneSpec.post enc Try.prog Try.f5 false true false false) := by
  refine returnsInHanded_of_change (C := Try.checked) own started (by kernel_rfl) Try.func5
    (ChangeSpec.witness6 (enc := enc) (C := Try.checked) false ⟨#[], #[.slice none 0 0], []⟩ 8 (by kernel_rfl) (by kernel_rfl) (by kernel_rfl) (by kernel_rfl)) ?_
  intro W base args ds gs before hval0 hW hcnd _
  have hval : ∀ (j : Nat) t v, Try.f5.params[j]? = some t → args[j]? = some v → Value.okWide Try.prog W .any base t v := hval0
  have hW' := hW
  obtain ⟨p, q, hA0, hV, rfl, hfz, hnd⟩ := hW
  have hA : DataW.TrodAll enc Try.prog W 0 (fun _ => true) true Try.f5.params.toList args.toList ds p := hA0
  rw [Try.params5] at hA hval
  obtain ⟨v0, vs0, d0, ds0, p0, q0, hargs, rfl, rfl, h0, r0⟩ := trodAll_cons hA
  obtain ⟨rfl, rfl, rfl⟩ := trodAll_nil r0
  obtain rfl : args = #[v0] := by cases args; simp_all
  obtain ⟨rfl, rfl⟩ := trodVars_none hV
  obtain ⟨a0, len0, cap0, rfl⟩ := okWide_slice Try.underlying22 (hval 0 22 v0 rfl rfl)
  have k0 := h0
  have lt0 : ∀ x ∈ p0, x.block < W.heap.size := by obtain ⟨m, hm⟩ := k0; exact DataW.trod_lt m _ _ _ hm
  obtain ⟨es0, i0, l0, m0⟩ : ∃ es, IsR W (.slice a0 len0 cap0) es ∧ es.length = len0 ∧ len0 ≤ maxLen := by
    obtain ⟨fuel, hf⟩ := h0
    obtain ⟨a, len, cap, es, hcs, h1, h2, h3⟩ := recsIn hf
    simp [Value.cells] at hcs
    obtain ⟨rfl, rfl, rfl⟩ := hcs
    exact ⟨es, h1, h2, h3⟩
  clear hA0 hval0
  refine (walk a0 len0 cap0 es0 W i0 l0 m0).mono fun e W' ⟨he, bel⟩ => ?_
  subst he
  exact ⟨_, rfl, _, _, _, [], _, [], hW', trodAll_mk1 (shut_bool Try.underlying4 _), (trodAll_cons_mk (Below.trod laidOut (by kernel_rfl) (of_decide_eq_true (by kernel_rfl)) k0 bel lt0) trodAll_mk0), rfl, bel.frame _, fun h => by cases h⟩

theorem over : Rows.recordOneRow.holds Try.pinned (OpenSpec.ofChange Rows.recordOneSpec) :=
  OpenClaim.holds_of_wide 5 Try.f5 rfl rfl rfl rfl rfl rfl rfl ⟨rfl, rfl, rfl, rfl, rfl⟩ rfl rfl rfl rfl rfl (by kernel_rfl) Try.func5 (by kernel_rfl)
    (of_decide_eq_true (by kernel_rfl)) (by unfold Func.isWrapper; first | (rw [if_pos (by decide +kernel)]; kernel_rfl) | (rw [if_neg (by decide +kernel)]; exact ⟨rfl, rfl⟩))
    (fun os started H enc _ => lifted os started H enc)

/-- The statement. -/
theorem proved : Rows.RecordOneSaid := over
#print axioms proved
end Go.Proofs.Ytdhajmgpakconaa.recordOne
