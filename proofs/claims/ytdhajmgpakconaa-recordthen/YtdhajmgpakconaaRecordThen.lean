/-
  Proved: for every slice of records and slice of bytes, RecordThen returns true and leaves them as they were (a reader reads a file as it was when it was made). No condition.
-/
import Derived.Deep.QuietTactic
import Derived.BigQuiet
import Derived.WalkKit
import Derived.ProofKit
import Derived.OpenShut
import Derived.ShutString
import Derived.Test.YtdhajmgpakconaaGM
namespace Go.Proofs.Ytdhajmgpakconaa.recordThen
open Go.ChangeShapes Go.WideShapes Go.ChangeAt Go.RowKit
open Go.ChangeMaps (open_string shut_string)
set_option linter.unusedVariables false

theorem own : ownKnob Try.prog.godebug = none := by kernel_rfl
theorem laidOut : laidOutB Try.prog = true := by kernel_rfl

/-- WHAT THE WALK IS TOLD OF A SLICE OF INTEGERS THAT CAME IN. -/
def IsRow (k : IntKind) (w : World) (a : Option Addr) (len cap : Nat) (zs : List Int) : Prop :=
  (a = none ∧ len = 0 ∧ cap = 0 ∧ zs = []) ∨
  ∃ x, a = some x ∧ len ≤ cap ∧ cap ≤ maxLen ∧ zs.length = cap ∧ (∀ i, i < zs.length → w.cell? (x.add i) = some (.int k (zs.getD i 0))) ∧ ∀ n ∈ zs, (Lit.int k n).wf = true

theorem isB_of {w : World} {a : Option Addr} {len cap : Nat} {zs : List Int} (h : IsRow .u8 w a len cap zs) : IsB w (.slice a len cap) (zs.take len) ∧ (zs.take len).length = len ∧ len ≤ cap := by
  rcases h with ⟨rfl, rfl, rfl, rfl⟩ | ⟨x, rfl, hl, hm, hz, hc, hw⟩
  · exact ⟨IsB.nil w, rfl, Nat.le_refl _⟩
  · have e : (zs.take len).length = len := by simp; omega
    refine ⟨⟨_, cap, by rw [e], by omega, by simp, fun y hy j hj => ?_, fun z hz => ?_⟩, e, hl⟩
    · simp only [Option.some.injEq] at hy
      subst hy
      rw [hc j (by omega), List.getElem?_take_of_lt (by omega)]
      rfl
    · have := hw z (List.mem_of_mem_take hz)
      exact bounds_u8 this

/-- What is left of a slice that is cut to at most m bytes. -/
theorem cut_to {w : World} {a : Option Addr} {len cap : Nat} {zs : List Int} (h : IsRow .u8 w a len cap zs) (m : Nat) (hm : m ≤ len) : ∃ bs, IsB w (.slice a m cap) bs ∧ bs.length = m := by
  obtain ⟨h1, h2, h3⟩ := isB_of h
  exact ⟨_, h1.take m hm, by simp only [List.length_take, h2]; omega⟩

/-- The same, the length named: as the walk reckons it. -/
theorem cut_min {w : World} {a : Option Addr} {len cap : Nat} {zs : List Int} (h : IsRow .u8 w a len cap zs) (k : Nat) (K : Int) (hK : K = (k : Int)) :
    ∃ (m : Nat) (bs : List Int), (∀ (ts : Array TypeId) (t : TypeId) (w : World), (Builtin.min_ ts t #[.int .i64 (len : Int), .int .i64 K]).run Try.prog w = .ok (.int .i64 (m : Int)) w) ∧ IsB w (.slice a m cap) bs ∧ bs.length = m ∧ m ≤ len ∧ m ≤ k ∧ m ≤ cap := by
  obtain ⟨h1, h2, h3⟩ := isB_of h
  refine ⟨min len k, _, fun ts t w => ?_, h1.take (min len k) (by omega), by simp only [List.length_take, h2]; omega, by omega, by omega, by omega⟩
  rw [run_min_int2, hK]
  congr 2
  split <;> omega

theorem app_then (c m : List Int) (k : Int) (hf : sec (c ++ m).length ≤ 1000) : appendA (beginA [([102], c, c)] (upS 1000 (sec c.length) k)) (⟨#[102]⟩ : ByteArray).data.toList m = (0, ([([102], c ++ m, c)], upS 1000 (sec (c ++ m).length) (k + 1))) := by
  rw [begin_up]
  have := append_up (l0 := []) (n := [102]) (R := 1000) (U := 0) (k := k + 1) (F := c) (S := c) rfl m
  rw [if_pos (by omega), Int.zero_add, Int.zero_add] at this
  exact this

/-! ### The walk -/
set_option maxRecDepth 100000 in
set_option maxHeartbeats 8000000 in
theorem walk (a0 : Option Addr) (len0 cap0 : Nat) (es0 : List Rc) (a1 : Option Addr) (len1 cap1 : Nat) (z1 : List Int) (w : World) (i0 : IsR w (.slice a0 len0 cap0) es0) (l0 : es0.length = len0) (m0 : len0 ≤ maxLen) (w1 : IsRow .u8 w a1 len1 cap1 z1) :
    Calls Try.prog 8 #[.slice a0 len0 cap0, .slice a1 len1 cap1] w fun e w' => e = .returned (.bool true) ∧ Below w.heap.size w w' := by
  obtain ⟨bm, bms, hmin, hIB, hbl, hm1, hm2, hm3⟩ := cut_min w1 60 60 rfl
  have hbc : (bm : Int) ≤ (cap1 : Int) := by omega
  have SH := hide (shown9_any w)
  have HI := hide i0
  have HIB := hide hIB
  have HBL := hide hbl
  have hln : es0.length ≤ 9223372036854775807 := by unfold maxLen at m0; omega
  have HLN := hide hln
  clear i0 l0 m0 hln w1 hIB hbl
  go_enter Try.func8, Try.ntmps8
  go_wp2_with fail
  refine SH.out.mono ?_
  rintro e w1 ⟨rfl, b1⟩
  have FW := hide (few9_any (HI.out.below b1) HLN.out)
  have B1 := hide b1
  clear b1
  go_wp2_with fail
  refine FW.out.mono ?_
  rintro e w2 ⟨v, rfl, r2, b2, n2⟩
  obtain ⟨es, hes⟩ : ∃ es, es = es0.take 160 := ⟨_, rfl⟩
  have hel : es.length ≤ 160 := by rw [hes, List.length_take]; omega
  rw [← hes] at r2
  have B2 := hide (below_then B1.out b2)
  have HEL := hide hel
  have HOK := hide r2.2
  obtain ⟨c, hc⟩ : ∃ c, c = fileB es := ⟨_, rfl⟩
  have hcl : c.length ≤ 2584 := by rw [hc]; exact fileB_len160 hel
  have HCL := hide hcl
  have HC := hide hc
  have HRD : Hid (readB false c = (es, 0)) := by show _ = _; rw [hc]; exact readB_file es r2.2
  have hsec := sec_small hcl
  have HSEC : Hid (sec c.length ≤ 200) := by show _ ≤ _; omega
  have hsec2 := sec_small (n := (c ++ bms).length) (N := 2700) (by rw [List.length_append]; have := HBL.out; omega)
  have HSEC2 : Hid (sec (c ++ bms).length ≤ 1000) := by show _ ≤ _; omega
  obtain ⟨va, vcap, rfl, hvc⟩ := r2.isR.form
  obtain ⟨n, hn⟩ : ∃ n, n = es.length := ⟨_, rfl⟩
  have hnl : n ≤ 160 := by omega
  have HN := hide hn
  rw [← hn] at r2 hvc ⊢
  have R2 := hide r2
  clear hes hel r2 b2 n2 hc hcl hsec hsec2 SH FW B1 hn
  go_wp2_with fail
  refine (Lw.new (w0 := w) (w := w2) (hs := Ytdhajmgpakconaa.own (.slice va n vcap)) 1000 (by omega) B2.out (fun x hx => R2.out.low x hx)).mono ?_
  rintro e w3 ⟨p, rfl, L3, b3⟩
  have HL3 := hide L3
  have R3 := hide (R2.out.hld (Hld.below b3) (hs := Ytdhajmgpakconaa.own (.slice va n vcap)) (fun x hx => hx))
  clear L3 b3 R2
  go_wp2_with fail
  refine (HL3.out.write_ok ⟨#[102]⟩ nmF (l := es) rfl rfl (by omega) (by have := HSEC.out; rw [← HC.out]; omega) (by have := HEL.out; omega) R3.out.isR (fun _ x hx => hx)).mono ?_
  rintro e w4 ⟨k4, rfl, L4, d4, hk4, hk4'⟩
  rw [← HC.out, Int.zero_add] at L4
  have L4' : Lw w w4 p ([([102], c, c)], upS 1000 (sec c.length) k4) (Ytdhajmgpakconaa.own (.slice va n vcap)) := L4
  have HL4 := hide L4'
  have R4 := hide (R3.out.hld d4 (fun x hx => hx))
  have hkb : k4 ≤ 200 := by have := HEL.out; omega
  clear L4 L4' d4 R3 HL3 hk4'
  go_wp2_with fail
  refine (HL4.out.newReader (by omega) ⟨#[102]⟩ nmF (x := ([102], c, c)) (by simp [lookA]) (by have := HCL.out; dsimp only; omega)).mono ?_
  rintro e w5 ⟨q, k5, rfl, L5, d5, hk5, hk5'⟩
  have HL5 := hide L5
  have R5 := hide (R4.out.hld d5 (fun x hx => hx))
  clear L5 d5 R4 HL4
  go_wp2_with fail
  refine (HL5.out.append (k' := k5 + 1) (by omega) nmF (.slice a1 bm cap1) bms (HIB.out.below HL5.out.bel) (by have := HBL.out; omega) (fun hne x hx => (HIB.out.lt hne) x hx) (app_then c bms k5 HSEC2.out) ⟨_, by simp [lookA]; rfl, List.prefix_append _ _⟩).mono ?_
  rintro e w6 ⟨rfl, L6, d6⟩
  have HL6 := hide L6
  have R6 := hide (R5.out.hld d6 (fun x hx => hx))
  have W6 := hide (wil_start c)
  rw [HRD.out] at W6
  clear L6 d6 R5 HL5
  go_wp2
  go_loopw [9] (fun v9 wr => ∃ (i : Nat) (st : Rst) (k : Int), v9 = .int .i64 i ∧ i ≤ n ∧ k ≤ k5 + 1 + 2 * (i : Int) ∧ Hid (LwR w wr p q [([102], c ++ bms, c)] 1000 (sec (c ++ bms).length) k ⟨#[102]⟩ c st (Ytdhajmgpakconaa.own (.slice va n vcap)) ∧ Wil c st (es.drop i) 0 ∧ RowR wr (.slice va n vcap) es)) (fun v9 _ => n + 1 - numR v9)
  case atStart => exact ⟨0, rst0, k5 + 1, by first | rfl | go_num, Nat.zero_le _, by simp, HL6.out, by rw [List.drop_zero]; exact W6.out, R6.out⟩
  case round =>
    obtain ⟨i, st, k, rfl, hi, hk, HH⟩ := hrel
    have hw1 : IntKind.i64.wrap ((i : Int) + 1) = (i : Int) + 1 := i64_small _ (by omega) (by omega)
    by_cases hin : i < n
    · have hin' : (i : Int) < (n : Int) := by omega
      have hil : i < es.length := by have := HN.out; omega
      have hw := HH.out.2.1
      rw [drop_rec hil] at hw
      obtain ⟨⟨x1, x2⟩, hx⟩ : ∃ x, x = es[i]! := ⟨_, rfl⟩
      rw [← hx] at hw
      have NX := HH.out.1.next_some (by omega) nmF hw
      dsimp only at NX
      have HNX := hide NX
      have HX := hide hx
      clear hw hx NX
      go_wp2_with fail
      refine HNX.out.mono ?_
      rintro e w7 ⟨st', k', rfl, L7, hw7, d7, hk7, hk7'⟩
      have r7 := HH.out.2.2.hld d7 (fun x hx => hx)
      have ra := r7.kept ((Kept.refl [] w7).alloc (.cells #[.int .u64 x1, .int .u64 x2] 48)) (fun _ _ => by simp)
      obtain ⟨g, gcap, hge, _⟩ := ra.blk (by omega)
      simp only [Value.slice.injEq] at hge
      obtain ⟨rfl, hge2, rfl⟩ := hge
      clear hge2
      obtain ⟨c1, c2⟩ := ra.cell2 i hil
      rw [← HX.out] at c1 c2
      dsimp only at c1 c2
      have hb := heap_alloc_new w7 (.cells #[.int .u64 x1, .int .u64 x2] 48)
      have d1 := (cell_of_heap hb 0).trans (rfl : _ = some (Value.int .u64 x1))
      have d2 := (cell_of_heap hb 1).trans (rfl : _ = some (Value.int .u64 x2))
      have HL7 := hide (L7.below ((Below.refl _ w7).alloc (Nat.le_refl _) (.cells #[.int .u64 x1, .int .u64 x2] 48)))
      have HW7 := hide (And.intro hw7 ra)
      clear L7 hw7 d7 r7 ra hb
      go_wp2
      go_quiet (fail)
      go_wp2
      go_roundw
      case rel => exact ⟨i + 1, st', k', by go_num, by omega, by push_cast; omega, HL7.out.below (below_drewN _ _), HW7.out.1, HW7.out.2.kept ((Kept.refl [] _).drewN _) (fun _ _ => by simp)⟩
      case measure => simp [numR]; omega
    · obtain rfl : i = n := by omega
      have hw := HH.out.2.1
      rw [List.drop_of_length_le (by have := HN.out; omega)] at hw
      have NX := hide (HH.out.1.next_none (by omega) nmF hw)
      clear hw
      go_wp2_with fail
      refine NX.out.mono ?_
      rintro e w7 ⟨st', k', rfl, L7, hw7, d7, hk7, hk7'⟩
      have HB := hide L7.bel
      clear L7 hw7 d7
      go_wp2
      go_ret
      exact ⟨rfl, HB.out.alloc HB.out.size _⟩

/-! ### The row's step -/
set_option maxRecDepth 100000 in
theorem lifted (os : Os) (started : os.Started) (H : Type) (enc : TypeId × Value → H) :
    ReturnsInHanded {} Try.checked os 8 .any (Rows.recordThenSpec.pre6 enc Try.prog Try.f8 Rows.recordThenRow.domain false) (Rows.recordThenSpec.post enc Try.prog Try.f8 false true false false) := by
  refine returnsInHanded_of_change (C := Try.checked) own started (by kernel_rfl) Try.func8
    (ChangeSpec.witness6 (enc := enc) (C := Try.checked) false ⟨#[], #[.slice none 0 0, .slice none 0 0], []⟩ 8 (by kernel_rfl) (by kernel_rfl) (by kernel_rfl) (by kernel_rfl)) ?_
  intro W base args ds gs before hval0 hW hcnd _
  have hval : ∀ (j : Nat) t v, Try.f8.params[j]? = some t → args[j]? = some v → Value.okWide Try.prog W .any base t v := hval0
  have hW' := hW
  obtain ⟨p, q, hA0, hV, rfl, hfz, hnd⟩ := hW
  have hA : DataW.TrodAll enc Try.prog W 0 (fun _ => true) true Try.f8.params.toList args.toList ds p := hA0
  rw [Try.params8] at hA hval
  obtain ⟨v0, vs0, d0, ds0, p0, q0, hargs, rfl, rfl, h0, r0⟩ := trodAll_cons hA
  obtain ⟨v1, vs1, d1, ds1, p1, q1, rfl, rfl, rfl, h1, r1⟩ := trodAll_cons r0
  obtain ⟨rfl, rfl, rfl⟩ := trodAll_nil r1
  obtain rfl : args = #[v0, v1] := by cases args; simp_all
  obtain ⟨rfl, rfl⟩ := trodVars_none hV
  obtain ⟨a0, len0, cap0, rfl⟩ := okWide_slice Try.underlying22 (hval 0 22 v0 rfl rfl)
  have k0 := h0
  have lt0 : ∀ x ∈ p0, x.block < W.heap.size := by obtain ⟨m, hm⟩ := k0; exact DataW.trod_lt m _ _ _ hm
  obtain ⟨es0, i0, l0, m0⟩ : ∃ es, IsR W (.slice a0 len0 cap0) es ∧ es.length = len0 ∧ len0 ≤ maxLen := by
    obtain ⟨fuel, hf⟩ := h0
    obtain ⟨a, len, cap, es, hcs, h1, h2, h3⟩ := recsIn hf
    simp [Value.cells] at hcs
    obtain ⟨rfl, rfl, rfl⟩ := hcs
    exact ⟨es, h1, h2, h3⟩
  obtain ⟨a1, len1, cap1, rfl⟩ := okWide_slice Try.underlying30 (hval 1 30 v1 rfl rfl)
  have k1 := h1
  have lt1 : ∀ x ∈ p1, x.block < W.heap.size := by obtain ⟨m, hm⟩ := k1; exact DataW.trod_lt m _ _ _ hm
  obtain ⟨z1, w1⟩ : ∃ zs, IsRow .u8 W a1 len1 cap1 zs := by
    obtain ⟨fuel, hf⟩ := h1
    rcases open_ints Try.underlying30 Try.underlying5 (by kernel_rfl) hf with ⟨hcs, _⟩ | ⟨x, l, c, zs, hcs, _, hl, hm, hz, _, hcell, hwz⟩
    · simp [Value.cells] at hcs
      obtain ⟨rfl, rfl, rfl⟩ := hcs
      exact ⟨[], .inl ⟨rfl, rfl, rfl, rfl⟩⟩
    · simp [Value.cells] at hcs
      obtain ⟨rfl, rfl, rfl⟩ := hcs
      exact ⟨zs, .inr ⟨_, rfl, hl, hm, by simpa using hz, hcell, hwz⟩⟩
  clear hA0 hval0
  refine (walk a0 len0 cap0 es0 a1 len1 cap1 z1 W i0 l0 m0 w1).mono fun e W' ⟨he, bel⟩ => ?_
  subst he
  exact ⟨_, rfl, _, _, _, [], _, [], hW', trodAll_mk1 (shut_bool Try.underlying4 _), (trodAll_cons_mk (Below.trod laidOut (by kernel_rfl) (of_decide_eq_true (by kernel_rfl)) k0 bel lt0) (trodAll_cons_mk (Below.trod laidOut (by kernel_rfl) (of_decide_eq_true (by kernel_rfl)) k1 bel lt1) trodAll_mk0)), rfl, bel.frame _, fun h => by cases h⟩

theorem over : Rows.recordThenRow.holds Try.pinned (OpenSpec.ofChange Rows.recordThenSpec) :=
  OpenClaim.holds_of_wide 8 Try.f8 rfl rfl rfl rfl rfl rfl rfl ⟨rfl, rfl, rfl, rfl, rfl⟩ rfl rfl rfl rfl rfl (by kernel_rfl) Try.func8 (by kernel_rfl)
    (of_decide_eq_true (by kernel_rfl)) (by unfold Func.isWrapper; first | (rw [if_pos (by decide +kernel)]; kernel_rfl) | (rw [if_neg (by decide +kernel)]; exact ⟨rfl, rfl⟩))
    (fun os started H enc _ => lifted os started H enc)

/-- The statement. -/
theorem proved : Rows.RecordThenSaid := over
#print axioms proved
end Go.Proofs.Ytdhajmgpakconaa.recordThen
