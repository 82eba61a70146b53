/-
  Proved: for all two slices of bytes, PoolDrops returns true and leaves them as they were (what is dropped is as the disk has it; what was flushed ahead of that is there). No condition.
-/
import Derived.WalkKit
import Derived.ProofKit
import Derived.OpenShut
import Derived.ShutString
import Derived.Test.YtbhjdcoehgajcaaGJ
namespace Go.Proofs.Ytbhjdcoehgajcaa.poolDrops
open Go.ChangeShapes Go.WideShapes Go.ChangeAt Go.RowKit
open Go.ChangeMaps (open_string shut_string)
set_option linter.unusedVariables false

theorem own : ownKnob Try.prog.godebug = none := by kernel_rfl
theorem laidOut : laidOutB Try.prog = true := by kernel_rfl

/-- WHAT THE WALK IS TOLD OF A SLICE OF INTEGERS THAT CAME IN. -/
def IsRow (k : IntKind) (w : World) (a : Option Addr) (len cap : Nat) (zs : List Int) : Prop :=
  (a = none ∧ len = 0 ∧ cap = 0 ∧ zs = []) ∨
  ∃ x, a = some x ∧ len ≤ cap ∧ cap ≤ maxLen ∧ zs.length = cap ∧ (∀ i, i < zs.length → w.cell? (x.add i) = some (.int k (zs.getD i 0))) ∧ ∀ n ∈ zs, (Lit.int k n).wf = true

theorem isB_of {w : World} {a : Option Addr} {len cap : Nat} {zs : List Int} (h : IsRow .u8 w a len cap zs) : IsB w (.slice a len cap) (zs.take len) ∧ (zs.take len).length = len ∧ len ≤ cap := by
  rcases h with ⟨rfl, rfl, rfl, rfl⟩ | ⟨x, rfl, hl, hm, hz, hc, hw⟩
  · exact ⟨IsB.nil w, rfl, Nat.le_refl _⟩
  · have e : (zs.take len).length = len := by simp; omega
    refine ⟨⟨_, cap, by rw [e], by omega, by simp, fun y hy j hj => ?_, fun z hz => ?_⟩, e, hl⟩
    · simp only [Option.some.injEq] at hy
      subst hy
      rw [hc j (by omega), List.getElem?_take_of_lt (by omega)]
      rfl
    · have := hw z (List.mem_of_mem_take hz)
      exact bounds_u8 this

/-- What is left of a slice that is cut to at most m bytes. -/
theorem cut_to {w : World} {a : Option Addr} {len cap : Nat} {zs : List Int} (h : IsRow .u8 w a len cap zs) (m : Nat) (hm : m ≤ len) : ∃ bs, IsB w (.slice a m cap) bs ∧ bs.length = m := by
  obtain ⟨h1, h2, h3⟩ := isB_of h
  exact ⟨_, h1.take m hm, by simp only [List.length_take, h2]; omega⟩

/-- The same, the length named: as the walk reckons it. -/
theorem cut_min {w : World} {a : Option Addr} {len cap : Nat} {zs : List Int} (h : IsRow .u8 w a len cap zs) (k : Nat) (K : Int) (hK : K = (k : Int)) :
    ∃ (m : Nat) (bs : List Int), (∀ (ts : Array TypeId) (t : TypeId) (w : World), (Builtin.min_ ts t #[.int .i64 (len : Int), .int .i64 K]).run Try.prog w = .ok (.int .i64 (m : Int)) w) ∧ IsB w (.slice a m cap) bs ∧ bs.length = m ∧ m ≤ len ∧ m ≤ k ∧ m ≤ cap := by
  obtain ⟨h1, h2, h3⟩ := isB_of h
  refine ⟨min len k, _, fun ts t w => ?_, h1.take (min len k) (by omega), by simp only [List.length_take, h2]; omega, by omega, by omega, by omega⟩
  rw [run_min_int2, hK]
  congr 2
  split <;> omega

open Go.Proofs.Ytbhjdcoehgajcaa.L.P
def numOf : Value → Nat | .int _ q => q.toNat | _ => 0

/-! ### The walk -/
set_option maxRecDepth 100000 in
set_option maxHeartbeats 4000000 in
theorem walk (a0 : Option Addr) (len0 cap0 : Nat) (z0 : List Int) (a1 : Option Addr) (len1 cap1 : Nat) (z1 : List Int) (w : World) (w0 : IsRow .u8 w a0 len0 cap0 z0) (w1 : IsRow .u8 w a1 len1 cap1 z1) :
    Calls Try.prog 4 #[.slice a0 len0 cap0, .slice a1 len1 cap1] w fun e w' => e = .returned (.bool true) ∧ Below w.heap.size w w' := by
  obtain ⟨m, ms, hmin, hI, hml, hm1, hm2, hm3⟩ := cut_min w0 100 100 rfl
  obtain ⟨n, ns, hmin2, hJ, hnl, hn1, hn2, hn3⟩ := cut_min w1 100 100 rfl
  have hmc : (m : Int) ≤ (cap0 : Int) := by omega
  have hnc : (n : Int) ≤ (cap1 : Int) := by omega
  have SH := hide (shown_any w)
  have HI := hide hI
  have HJ := hide hJ
  have HML := hide hml
  have HNL := hide hnl
  clear w0 w1 hI hml hJ hnl
  go_enter Try.func4, Try.ntmps4
  go_wp2_with (go_at_call 9; refine SH.out.mono ?_; rintro e w1 ⟨rfl, b1'⟩; have B1 := hide b1'; clear b1')
  refine (made_any w w1 300 0 (by omega) (by omega) B1.out).mono ?_
  rintro e w2 ⟨d, rfl, d2⟩
  have D2 := hide d2
  clear d2 SH
  go_wp2_with fail
  refine (Lp.new (m := 4) (C := CA (allOf fA 300)) D2.out 10 rfl rfl (two_len (by rw [allOf_length]; omega) (by rw [allOf_length]; omega)) (by simp [S7]) (Ct_look _ _)).mono ?_
  rintro e w3 ⟨q, rfl, l3⟩
  have L3 := hide l3
  clear l3 D2
  go_wp2_with fail
  refine (bytes_any _ 300 0 (by omega) (by omega)).mono ?_
  rintro e w4 ⟨va, vb, rfl, t4⟩
  have L4 := hide (L3.out.hold t4.bel (Ytbhjdcoehgajcaa.own va) (fun z hz => ⟨t4.nx z hz, t4.rx.lt z hz⟩))
  have R4 := hide t4.rx
  have HNW : Hid (∀ z ∈ Ytbhjdcoehgajcaa.own va, w.heap.size ≤ z) := fun z hz => Nat.le_trans L3.out.bel.size (t4.nx z hz)
  clear t4 L3
  have hcl : Hid ((allOf fA 300).length = 300) := allOf_length _ _
  generalize allOf fA 300 = xA at L4 R4 hcl
  obtain ⟨og, oc, hva⟩ : ∃ og oc, va = .slice (some ⟨og, 0, none⟩) 300 oc := by
    rcases R4.out.form with ⟨_, e⟩ | ⟨g, cap, e, _⟩
    · have := hcl.out; rw [e] at this; simp at this
    · exact ⟨g, cap, by rw [e, hcl.out]⟩
  subst hva
  go_wp2_with fail
  have WR := L4.out.write ⟨#[97]⟩ (strP 97) (CA_a _) (by decide) 0 a0 cap0 ms (by rw [HML.out]; exact HI.out.below L4.out.bel) (fun hne z hz => .inl ((HI.out.lt hne) z (by rw [HML.out] at hz; exact hz))) (by rw [hcl.out, HML.out]; omega) (by rw [HML.out]; omega)
  rw [HML.out, CA_put] at WR
  refine WR.mono ?_
  rintro e w5 ⟨rfl, l5, b5⟩
  clear WR
  have R5 := hide (b5.row R4.out (by intro z hz; simpa using hz))
  have L5 := hide l5
  clear l5 L4 R4 b5
  go_wp2_with fail
  refine (L5.out.flush (by decide) (by omega) ⟨#[97]⟩).mono ?_
  rintro e w6 ⟨rfl, l6, b6⟩
  have R6 := hide (b6.row R5.out (by intro z hz; simpa using hz))
  have L6 := hide l6
  clear l6 L5 R5 b6
  have HPL : Hid ((putA xA 0 ms).length = 300) := by show _ = _; rw [putA_length _ _ _ (Nat.zero_le _), hcl.out, HML.out]; omega
  go_wp2
  go_loopw [12] (fun v wr => ∃ i : Nat, v = .int .i64 i ∧ i ≤ m ∧ Hid (Lp w wr (Ytbhjdcoehgajcaa.own (.slice (some ⟨og, 0, none⟩) 300 oc)) q d (max 10 1) (CA (putA xA 0 ms)) (fun x => True ∧ x ≠ [97]) False (4 + 2 * m + 127 + (max 10 1 : Int).toNat)) ∧ Hid (RowB wr (.slice (some ⟨og, 0, none⟩) 300 oc) (putA xA 0 (ms.take i)))) (fun v _ => m + 1 - numOf v)
  case atStart => exact ⟨0, by first | rfl | go_num, Nat.zero_le _, L6.out.less (by intro x hx; simpa using hx), by simpa [putA, Hid] using R6.out⟩
  case round =>
    obtain ⟨i, rfl, hi, NI, RI⟩ := hrel
    have hw2 : IntKind.i64.wrap ((i : Int) + 1) = (i : Int) + 1 := i64_small _ (by omega) (by omega)
    by_cases hin : i < m
    · have hin' : (i : Int) < (m : Int) := by omega
      have him : i < ms.length := by rw [HML.out]; exact hin
      have hi3 : i < 300 := by omega
      obtain ⟨xb, xo, xc, hxx, _, hxcell⟩ := (HI.out.below NI.out.bel).opened (by omega)
      rw [HML.out] at hxx
      simp only [Value.slice.injEq, true_and] at hxx
      obtain ⟨rfl, rfl⟩ := hxx
      have g1 := hxcell i him
      obtain ⟨z, hz⟩ : ∃ z, z = ms[i] := ⟨_, rfl⟩
      rw [List.getElem?_eq_getElem him, Option.getD_some, ← hz] at g1
      have hzb : 0 ≤ z ∧ z ≤ 255 := by rw [hz]; exact HI.out.bytes _ (List.getElem_mem him)
      have HZ := hide (And.intro hz hzb)
      clear hz hzb hxcell
      have hpl : (putA xA 0 (ms.take i)).length = 300 := by rw [putA_length _ _ _ (Nat.zero_le _), hcl.out, List.length_take, HML.out]; omega
      obtain ⟨⟨z2, g2⟩, g3⟩ := row_cell RI.out i (by omega)
      clear hpl
      go_wp2
      go_roundw
      case rel =>
        refine ⟨i + 1, by go_num, by omega, ?_, ?_⟩
        · exact NI.out.stored (by simp [Ytbhjdcoehgajcaa.own, Value.ownBlock]) (HNW.out _ (by simp [Ytbhjdcoehgajcaa.own, Value.ownBlock])) _
        · have q2 := L.P.RowB.stored RI.out i z HZ.out.2
          have hst := putA_step (c := xA) (buf := ms) (at_ := 0) (k := i) (by rw [hcl.out, HML.out]; omega) him
          rw [Nat.zero_add, ← HZ.out.1] at hst
          rw [hst] at q2
          exact q2
      case measure => simp [numOf]; omega
    · obtain rfl : i = m := by omega
      have r7 := RI.out
      rw [List.take_of_length_le (by rw [HML.out]; omega)] at r7
      have R7 := hide r7
      have D7 := hide (NI.out.ld (fun h => h.2 rfl))
      clear r7 NI RI
      go_wp2_with fail
      refine (D7.out.write HPL.out (by decide) (by decide) 100 n a1 cap1 ns HNL.out (HJ.out.below (by obtain ⟨_, _, _, _, _, _, _, _, _, _, _, _, b, _, _⟩ := D7.out; exact b)) (fun hne => HJ.out.lt hne) (by omega) (by omega)).mono ?_
      rintro e w8 ⟨rfl, d8, b8⟩
      have D8 := hide d8
      have R8 := hide (b8.row R7.out (fun z hz => hz))
      clear d8 b8
      go_wp2_with fail
      refine (D8.out.drop (by decide)).mono ?_
      rintro e w9 ⟨rfl, d9, b9⟩
      have D9 := hide d9
      have R9 := hide (b9.row R8.out (fun z hz => hz))
      clear d9 b9
      go_wp2_with fail
      refine (D9.out.read HPL.out (by decide) (by decide) (by omega)).mono ?_
      rintro e w10 ⟨ca, cu, rfl, ic, d10, b10⟩
      have r10 := b10.row R9.out (fun z hz => hz)
      have X10 : (convert 28 9 (.slice ca 300 cu)).run Try.prog w10 = .ok (.string (strOfNums (putA xA 0 ms))) w10 := conv_isB ic
      have Y10 : (convert 28 9 (.slice (some ⟨og, 0, none⟩) 300 oc)).run Try.prog w10 = .ok (.string (strOfNums (putA xA 0 ms))) w10 := conv_isB r10.isB
      generalize strOfNums (putA xA 0 ms) = str at X10 Y10
      have D10 := hide d10
      clear ic d10 b10 r10
      go_wp2_with fail
      refine (D10.out.dirty (by decide)).mono ?_
      rintro e w11 ⟨rfl, b11⟩
      have B11 := hide b11
      clear b11
      go_wp2
      go_ret
      exact ⟨rfl, B11.out⟩

/-! ### The row's step -/
set_option maxRecDepth 100000 in
theorem lifted (os : Os) (started : os.Started) (H : Type) (enc : TypeId × Value → H) :
    ReturnsInHanded {} Try.checked os 4 .any (Rows.poolDropsSpec.pre6 enc Try.prog Try.f4 Rows.poolDropsRow.domain false) (Rows.poolDropsSpec.post enc Try.prog Try.f4 false true false false) := by
  refine returnsInHanded_of_change (C := Try.checked) own started (by kernel_rfl) Try.func4
    (ChangeSpec.witness6 (enc := enc) (C := Try.checked) false ⟨#[], #[.slice none 0 0, .slice none 0 0], []⟩ 8 (by kernel_rfl) (by kernel_rfl) (by kernel_rfl) (by kernel_rfl)) ?_
  intro W base args ds gs before hval0 hW hcnd _
  have hval : ∀ (j : Nat) t v, Try.f4.params[j]? = some t → args[j]? = some v → Value.okWide Try.prog W .any base t v := hval0
  have hW' := hW
  obtain ⟨p, q, hA0, hV, rfl, hfz, hnd⟩ := hW
  have hA : DataW.TrodAll enc Try.prog W 0 (fun _ => true) true Try.f4.params.toList args.toList ds p := hA0
  rw [Try.params4] at hA hval
  obtain ⟨v0, vs0, d0, ds0, p0, q0, hargs, rfl, rfl, h0, r0⟩ := trodAll_cons hA
  obtain ⟨v1, vs1, d1, ds1, p1, q1, rfl, rfl, rfl, h1, r1⟩ := trodAll_cons r0
  obtain ⟨rfl, rfl, rfl⟩ := trodAll_nil r1
  obtain rfl : args = #[v0, v1] := by cases args; simp_all
  obtain ⟨rfl, rfl⟩ := trodVars_none hV
  obtain ⟨a0, len0, cap0, rfl⟩ := okWide_slice Try.underlying28 (hval 0 28 v0 rfl rfl)
  have k0 := h0
  have lt0 : ∀ x ∈ p0, x.block < W.heap.size := by obtain ⟨m, hm⟩ := k0; exact DataW.trod_lt m _ _ _ hm
  obtain ⟨z0, w0⟩ : ∃ zs, IsRow .u8 W a0 len0 cap0 zs := by
    obtain ⟨fuel, hf⟩ := h0
    rcases open_ints Try.underlying28 Try.underlying5 (by kernel_rfl) hf with ⟨hcs, _⟩ | ⟨x, l, c, zs, hcs, _, hl, hm, hz, _, hcell, hwz⟩
    · simp [Value.cells] at hcs
      obtain ⟨rfl, rfl, rfl⟩ := hcs
      exact ⟨[], .inl ⟨rfl, rfl, rfl, rfl⟩⟩
    · simp [Value.cells] at hcs
      obtain ⟨rfl, rfl, rfl⟩ := hcs
      exact ⟨zs, .inr ⟨_, rfl, hl, hm, by simpa using hz, hcell, hwz⟩⟩
  obtain ⟨a1, len1, cap1, rfl⟩ := okWide_slice Try.underlying28 (hval 1 28 v1 rfl rfl)
  have k1 := h1
  have lt1 : ∀ x ∈ p1, x.block < W.heap.size := by obtain ⟨m, hm⟩ := k1; exact DataW.trod_lt m _ _ _ hm
  obtain ⟨z1, w1⟩ : ∃ zs, IsRow .u8 W a1 len1 cap1 zs := by
    obtain ⟨fuel, hf⟩ := h1
    rcases open_ints Try.underlying28 Try.underlying5 (by kernel_rfl) hf with ⟨hcs, _⟩ | ⟨x, l, c, zs, hcs, _, hl, hm, hz, _, hcell, hwz⟩
    · simp [Value.cells] at hcs
      obtain ⟨rfl, rfl, rfl⟩ := hcs
      exact ⟨[], .inl ⟨rfl, rfl, rfl, rfl⟩⟩
    · simp [Value.cells] at hcs
      obtain ⟨rfl, rfl, rfl⟩ := hcs
      exact ⟨zs, .inr ⟨_, rfl, hl, hm, by simpa using hz, hcell, hwz⟩⟩
  clear hA0 hval0
  refine (walk a0 len0 cap0 z0 a1 len1 cap1 z1 W w0 w1).mono fun e W' ⟨he, bel⟩ => ?_
  subst he
  exact ⟨_, rfl, _, _, _, [], _, [], hW', trodAll_mk1 (shut_bool Try.underlying4 _), (trodAll_cons_mk (Below.trod laidOut (by kernel_rfl) (of_decide_eq_true (by kernel_rfl)) k0 bel lt0) (trodAll_cons_mk (Below.trod laidOut (by kernel_rfl) (of_decide_eq_true (by kernel_rfl)) k1 bel lt1) trodAll_mk0)), rfl, bel.frame _, fun h => by cases h⟩

theorem over : Rows.poolDropsRow.holds Try.pinned (OpenSpec.ofChange Rows.poolDropsSpec) :=
  OpenClaim.holds_of_wide 4 Try.f4 rfl rfl rfl rfl rfl rfl rfl ⟨rfl, rfl, rfl, rfl, rfl⟩ rfl rfl rfl rfl rfl (by kernel_rfl) Try.func4 (by kernel_rfl)
    (of_decide_eq_true (by kernel_rfl)) (by unfold Func.isWrapper; first | (rw [if_pos (by decide +kernel)]; kernel_rfl) | (rw [if_neg (by decide +kernel)]; exact ⟨rfl, rfl⟩))
    (fun os started H enc _ => lifted os started H enc)

/-- The statement. -/
theorem proved : Rows.PoolDropsSaid := over
#print axioms proved
end Go.Proofs.Ytbhjdcoehgajcaa.poolDrops
