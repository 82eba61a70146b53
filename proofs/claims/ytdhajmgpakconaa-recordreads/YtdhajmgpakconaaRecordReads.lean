/-
  Proved: for every slice of bytes, RecordReads returns true and leaves it as it was (whatever bytes a file has, it is the records that the document says, or an error). No condition.
-/
import Derived.Deep.QuietTactic
import Derived.BigQuiet
import Derived.WalkKit
import Derived.ProofKit
import Derived.OpenShut
import Derived.ShutString
import Derived.Test.YtdhajmgpakconaaGM
namespace Go.Proofs.Ytdhajmgpakconaa.recordReads
open Go.ChangeShapes Go.WideShapes Go.ChangeAt Go.RowKit
open Go.ChangeMaps (open_string shut_string)
set_option linter.unusedVariables false

theorem own : ownKnob Try.prog.godebug = none := by kernel_rfl
theorem laidOut : laidOutB Try.prog = true := by kernel_rfl

/-- WHAT THE WALK IS TOLD OF A SLICE OF INTEGERS THAT CAME IN. -/
def IsRow (k : IntKind) (w : World) (a : Option Addr) (len cap : Nat) (zs : List Int) : Prop :=
  (a = none ∧ len = 0 ∧ cap = 0 ∧ zs = []) ∨
  ∃ x, a = some x ∧ len ≤ cap ∧ cap ≤ maxLen ∧ zs.length = cap ∧ (∀ i, i < zs.length → w.cell? (x.add i) = some (.int k (zs.getD i 0))) ∧ ∀ n ∈ zs, (Lit.int k n).wf = true

theorem isB_of {w : World} {a : Option Addr} {len cap : Nat} {zs : List Int} (h : IsRow .u8 w a len cap zs) : IsB w (.slice a len cap) (zs.take len) ∧ (zs.take len).length = len ∧ len ≤ cap := by
  rcases h with ⟨rfl, rfl, rfl, rfl⟩ | ⟨x, rfl, hl, hm, hz, hc, hw⟩
  · exact ⟨IsB.nil w, rfl, Nat.le_refl _⟩
  · have e : (zs.take len).length = len := by simp; omega
    refine ⟨⟨_, cap, by rw [e], by omega, by simp, fun y hy j hj => ?_, fun z hz => ?_⟩, e, hl⟩
    · simp only [Option.some.injEq] at hy
      subst hy
      rw [hc j (by omega), List.getElem?_take_of_lt (by omega)]
      rfl
    · have := hw z (List.mem_of_mem_take hz)
      exact bounds_u8 this

/-- What is left of a slice that is cut to at most m bytes. -/
theorem cut_to {w : World} {a : Option Addr} {len cap : Nat} {zs : List Int} (h : IsRow .u8 w a len cap zs) (m : Nat) (hm : m ≤ len) : ∃ bs, IsB w (.slice a m cap) bs ∧ bs.length = m := by
  obtain ⟨h1, h2, h3⟩ := isB_of h
  exact ⟨_, h1.take m hm, by simp only [List.length_take, h2]; omega⟩

/-- The same, the length named: as the walk reckons it. -/
theorem cut_min {w : World} {a : Option Addr} {len cap : Nat} {zs : List Int} (h : IsRow .u8 w a len cap zs) (k : Nat) (K : Int) (hK : K = (k : Int)) :
    ∃ (m : Nat) (bs : List Int), (∀ (ts : Array TypeId) (t : TypeId) (w : World), (Builtin.min_ ts t #[.int .i64 (len : Int), .int .i64 K]).run Try.prog w = .ok (.int .i64 (m : Int)) w) ∧ IsB w (.slice a m cap) bs ∧ bs.length = m ∧ m ≤ len ∧ m ≤ k ∧ m ≤ cap := by
  obtain ⟨h1, h2, h3⟩ := isB_of h
  refine ⟨min len k, _, fun ts t w => ?_, h1.take (min len k) (by omega), by simp only [List.length_take, h2]; omega, by omega, by omega, by omega⟩
  rw [run_min_int2, hK]
  congr 2
  split <;> omega

theorem create_f (R : Int) : createA (beginA [] (upS R 0 0)) (⟨#[102]⟩ : ByteArray).data.toList = (0, ([([102], [], [])], upS R 0 1)) := by rfl
theorem append_f (c : List Int) (hf : sec c.length ≤ 1000) : appendA (beginA [([102], [], [])] (upS 1000 0 1)) (⟨#[102]⟩ : ByteArray).data.toList c = (0, ([([102], c, [])], upS 1000 (sec c.length) 2)) := by
  rw [begin_up]
  have := append_up (l0 := []) (n := [102]) (R := 1000) (U := 0) (k := 1 + 1) (F := []) (S := []) rfl c
  rw [List.nil_append, if_pos (by omega), Int.zero_add, Int.zero_add] at this
  exact this

/-! ### The walk -/
set_option maxRecDepth 100000 in
set_option maxHeartbeats 20000000 in
theorem walk (a0 : Option Addr) (len0 cap0 : Nat) (z0 : List Int) (w : World) (w0 : IsRow .u8 w a0 len0 cap0 z0) :
    Calls Try.prog 4 #[.slice a0 len0 cap0] w fun e w' => e = .returned (.bool true) ∧ Below w.heap.size w w' := by
  obtain ⟨bn, c, hmin, hIB, hbl, hm1, hm2, hm3⟩ := cut_min w0 3000 3000 rfl
  have hbc : (bn : Int) ≤ (cap0 : Int) := by omega
  have SH := hide (shown9_any w)
  have HIB := hide hIB
  have HBL := hide hbl
  have hcl : c.length ≤ 3000 := by omega
  have HCL := hide hcl
  have hsec := sec_small hcl
  have HSEC : Hid (sec c.length ≤ 1000) := by show _ ≤ _; omega
  obtain ⟨rs, er, hrd⟩ : ∃ rs er, readB false c = (rs, er) := ⟨_, _, rfl⟩
  have hok := readB_ok false c hIB.bytes
  have hrl := readB_len16 false c
  rw [hrd] at hok hrl
  have HRD := hide hrd
  have HOK := hide hok
  have hrl2 : rs.length ≤ 200 := by dsimp only at hrl; omega
  have HRL := hide hrl2
  obtain ⟨wt, hwt⟩ : ∃ wt, wt = (if er = 0 then rs else []) := ⟨_, rfl⟩
  have HWT := hide hwt
  clear w0 hIB hbl hcl hsec hrd hok hrl hrl2 hwt
  go_enter Try.func4, Try.ntmps4
  go_wp2_with fail
  refine SH.out.mono ?_
  rintro e w1 ⟨rfl, b1⟩
  have B1 := hide b1
  clear b1 SH
  go_wp2_with fail
  refine (Lw.new (w0 := w) (w := w1) (hs := []) 1000 (by omega) B1.out (by simp)).mono ?_
  rintro e w2 ⟨p, rfl, L2, b2⟩
  have HL2 := hide L2
  clear L2 b2 B1
  go_wp2_with fail
  refine (HL2.out.create (by simp [upS]) ⟨#[102]⟩ nmF (create_f 1000)).mono ?_
  rintro e w3 ⟨rfl, L3, d3⟩
  have HL3 := hide L3
  clear L3 d3 HL2
  go_wp2_with fail
  refine (HL3.out.append (by simp [upS]) ⟨#[102]⟩ nmF (.slice a0 bn cap0) c (HIB.out.below HL3.out.bel) (by have := HCL.out; omega) (fun hne x hx => (HIB.out.lt hne) x hx) (append_f c HSEC.out)).mono ?_
  rintro e w4 ⟨rfl, L4, d4⟩
  have HL4 := hide L4
  clear L4 d4 HL3
  go_wp2_with fail
  refine (HL4.out.read ⟨#[102]⟩ nmF (x := ([102], c, [])) (by simp [lookA]) (by have := HCL.out; dsimp only; omega) HRD.out HOK.out (by have := HRL.out; omega)).mono ?_
  rintro e w5 ⟨rv, k5, rfl, r5, L5, d5, hk5, hk5'⟩
  rw [← HWT.out] at r5
  have HL5 := hide L5
  have R5 := hide r5
  have hkb : k5 ≤ 1000 := by have := HRL.out; omega
  clear L5 d5 r5 HL4 hk5'
  go_wp2_with fail
  refine (refRead_any (HIB.out.below HL5.out.bel) (by have := HCL.out; omega) HRD.out).mono ?_
  rintro e w6 ⟨u, rfl, r6, b6, n6⟩
  rw [← HWT.out] at r6
  have HL6 := hide (HL5.out.hold (hs' := Ytdhajmgpakconaa.own u) b6 (fun x hx => ⟨n6 x hx, r6.low x hx⟩))
  have R6 := hide (R5.out.hld (Hld.below b6) (hs := Ytdhajmgpakconaa.own rv) (fun x hx => hx))
  have U6 := hide r6
  have SM := same_recs R6.out.isR r6.isR (by rw [HWT.out]; have := HRL.out; split <;> simp <;> omega)
  rw [decide_eq_true rfl] at SM
  have HSM := hide SM
  obtain ⟨ua, ucap, rfl, _⟩ := r6.isR.form
  obtain ⟨n, hn⟩ : ∃ n, n = wt.length := ⟨_, rfl⟩
  have HN := hide hn
  rw [← hn] at HSM U6 HL6 ⊢
  clear r6 b6 n6 R5 HL5 SM hn
  go_wp2_with (go_at_call 19; refine HSM.out.mono ?_; rintro e w7 ⟨rfl, k7⟩; have K7 := hide k7; clear k7)
  have B7 := hide (K7.out.below (Nat.le_refl _) (by simp))
  have HL7 := hide ((HL6.out.below B7.out).sub (hs' := Ytdhajmgpakconaa.own (.slice ua n ucap)) (fun x hx => by simp only [List.mem_append]; exact .inl hx))
  have U7 := hide (U6.out.hld (Hld.below B7.out) (hs := Ytdhajmgpakconaa.own (.slice ua n ucap)) (fun x hx => hx))
  clear R6 U6 HL6 K7 HSM
  refine (HL7.out.newReader (by omega) ⟨#[102]⟩ nmF (x := ([102], c, [])) (by simp [lookA]) (by have := HCL.out; dsimp only; omega)).mono ?_
  rintro e w8 ⟨q, k8, rfl, L8, d8, hk8, hk8'⟩
  have HL8 := hide L8
  have U8 := hide (U7.out.hld d8 (fun x hx => hx))
  have W8 := hide (wil_start c)
  rw [HRD.out] at W8
  clear L8 d8 U7 HL7
  go_wp2
  go_loopw [11, 12] (fun v11 v12 wr => ∃ (i m : Nat) (st : Rst) (k : Int), v11 = .int .i64 m ∧ v12 = .int .i64 i ∧ i ≤ 400 ∧ m ≤ 400 ∧ k ≤ k8 + 2 * (i : Int) ∧ Hid (m = min i rs.length) ∧ Hid (LwR w wr p q [([102], c, [])] 1000 (sec c.length) k ⟨#[102]⟩ c st (Ytdhajmgpakconaa.own (.slice ua n ucap)) ∧ Wil c st (rs.drop m) er ∧ RowR wr (.slice ua n ucap) wt)) (fun _ v12 _ => 401 - numR v12)
  case atStart => exact ⟨0, 0, rst0, k8, by first | rfl | go_num, by first | rfl | go_num, by omega, by omega, by simp, by show _ = _; omega, HL8.out, by rw [List.drop_zero]; exact W8.out, U8.out⟩
  case round =>
    obtain ⟨i, m, st, k, rfl, rfl, hi, hm, hk, HM, HH⟩ := hrel
    have hw1 : IntKind.i64.wrap ((i : Int) + 1) = (i : Int) + 1 := i64_small _ (by omega) (by omega)
    have hw2 : IntKind.i64.wrap ((m : Int) + 1) = (m : Int) + 1 := i64_small _ (by omega) (by omega)
    by_cases hin : i < 400
    · have hin' : (i : Int) < 400 := by omega
      by_cases hmr : m < rs.length
      · have hw := HH.out.2.1
        rw [drop_rec hmr] at hw
        obtain ⟨⟨x1, x2⟩, hx⟩ : ∃ x, x = rs[m]! := ⟨_, rfl⟩
        rw [← hx] at hw
        have NX := HH.out.1.next_some (by omega) nmF hw
        dsimp only at NX
        have HNX := hide NX
        have HX := hide hx
        have HMR := hide hmr
        clear hw hx NX hmr
        by_cases he : er = 0
        · subst he
          have hwr : wt = rs := HWT.out.trans (if_pos rfl)
          have hmn : m < n := by have := HN.out; have := HMR.out; rw [hwr] at *; omega
          have hmn' : (m : Int) < (n : Int) := by omega
          have hmn2 : ¬ (n : Int) ≤ (m : Int) := by omega
          have hmn3 : ¬ n ≤ m := by omega
          have HWR := hide hwr
          clear hwr
          go_wp2_with fail
          refine HNX.out.mono ?_
          rintro e w9 ⟨st', k', rfl, L9, hw9, d9, hk9, hk9'⟩
          have r9 := HH.out.2.2.hld d9 (fun x hx => hx)
          have ra := r9.kept ((Kept.refl [] w9).alloc (.cells #[.int .u64 x1, .int .u64 x2] 48)) (fun _ _ => by simp)
          obtain ⟨g, gcap, hge, _⟩ := ra.blk (by have := HN.out; omega)
          simp only [Value.slice.injEq] at hge
          obtain ⟨rfl, hge2, rfl⟩ := hge
          clear hge2
          obtain ⟨c1, c2⟩ := ra.cell2 m (by have := HN.out; omega)
          rw [HWR.out, ← HX.out] at c1 c2
          dsimp only at c1 c2
          have hb := heap_alloc_new w9 (.cells #[.int .u64 x1, .int .u64 x2] 48)
          have d1 := (cell_of_heap hb 0).trans (rfl : _ = some (Value.int .u64 x1))
          have d2 := (cell_of_heap hb 1).trans (rfl : _ = some (Value.int .u64 x2))
          have HL9 := hide (L9.below ((Below.refl _ w9).alloc (Nat.le_refl _) (.cells #[.int .u64 x1, .int .u64 x2] 48)))
          have HW9 := hide (And.intro hw9 ra)
          clear L9 hw9 d9 r9 ra hb
          go_wp2
          go_quiet (fail)
          go_wp2
          go_roundw
          case rel => exact ⟨i + 1, m + 1, st', k', by go_num, by go_num, by omega, by have := HMR.out; have := HRL.out; omega, by push_cast; omega, by show _ = _; have := HM.out; have := HMR.out; omega, HL9.out.below (below_drewN _ _), HW9.out.1, HW9.out.2.kept ((Kept.refl [] _).drewN _) (fun _ _ => by simp)⟩
          case measure => simp [numR]; omega
        · have heb : (er == 0) = false := by simpa using he
          go_wp2_with fail
          refine HNX.out.mono ?_
          rintro e w9 ⟨st', k', rfl, L9, hw9, d9, hk9, hk9'⟩
          have r9 := HH.out.2.2.hld d9 (fun x hx => hx)
          have ra := r9.kept ((Kept.refl [] w9).alloc (.cells #[.int .u64 x1, .int .u64 x2] 48)) (fun _ _ => by simp)
          have HL9 := hide (L9.below ((Below.refl _ w9).alloc (Nat.le_refl _) (.cells #[.int .u64 x1, .int .u64 x2] 48)))
          have HW9 := hide (And.intro hw9 ra)
          clear L9 hw9 d9 r9 ra
          go_wp2
          go_quiet (fail)
          go_wp2
          go_roundw
          case rel => exact ⟨i + 1, m + 1, st', k', by go_num, by go_num, by omega, by have := HMR.out; have := HRL.out; omega, by push_cast; omega, by show _ = _; have := HM.out; have := HMR.out; omega, HL9.out.below (below_drewN _ _), HW9.out.1, HW9.out.2.kept ((Kept.refl [] _).drewN _) (fun _ _ => by simp)⟩
          case measure => simp [numR]; omega
      · have hw := HH.out.2.1
        rw [List.drop_of_length_le (by omega)] at hw
        have NX := hide (HH.out.1.next_none (by omega) nmF hw)
        have HMR := hide hmr
        clear hw hmr
        go_wp2_with fail
        refine NX.out.mono ?_
        rintro e w9 ⟨st', k', rfl, L9, hw9, d9, hk9, hk9'⟩
        have r9 := HH.out.2.2.hld d9 (fun x hx => hx)
        have ra := r9.kept ((Kept.refl [] w9).alloc (.cells #[.int .u64 0, .int .u64 0] 48)) (fun _ _ => by simp)
        have hb := heap_alloc_new w9 (.cells #[.int .u64 0, .int .u64 0] 48)
        have d1 := (cell_of_heap hb 0).trans (rfl : _ = some (Value.int .u64 0))
        have d2 := (cell_of_heap hb 1).trans (rfl : _ = some (Value.int .u64 0))
        have HL9 := hide (L9.below ((Below.refl _ w9).alloc (Nat.le_refl _) (.cells #[.int .u64 0, .int .u64 0] 48)))
        have HW9 := hide (And.intro hw9 ra)
        clear L9 hw9 d9 r9 ra hb
        go_wp2
        go_quiet (fail)
        go_wp2
        go_roundw
        case rel => exact ⟨i + 1, m, st', k', by first | rfl | go_num, by go_num, by omega, by omega, by push_cast; omega, by show _ = _; have := HM.out; have := HMR.out; omega, HL9.out.below (below_drewN _ _), by rw [List.drop_of_length_le (by have := HMR.out; omega)]; exact HW9.out.1, HW9.out.2.kept ((Kept.refl [] _).drewN _) (fun _ _ => by simp)⟩
        case measure => simp [numR]; omega
    · have hi4 : i = 400 := by omega
      have HB := hide HH.out.1.bel
      by_cases he : er = 0
      · subst he
        have hmn : m = n := by have := HN.out; have := HM.out; have := HRL.out; have := HWT.out; rw [if_pos rfl] at this; subst this; omega
        subst hmn
        go_wp2
        go_ret
        exact ⟨rfl, HB.out⟩
      · have heb : (er == 0) = false := by simpa using he
        have hen : (er != 0) = true := by simpa using he
        go_wp2
        go_ret
        exact ⟨rfl, HB.out⟩

/-! ### The row's step -/
set_option maxRecDepth 100000 in
theorem lifted (os : Os) (started : os.Started) (H : Type) (enc : TypeId × Value → H) :
    ReturnsInHanded {} Try.checked os 4 .any (Rows.recordReadsSpec.pre6 enc Try.prog Try.f4 Rows.recordReadsRow.domain false) (Rows.recordReadsSpec.post enc Try.prog Try.f4 false true false false) := by
  refine returnsInHanded_of_change (C := Try.checked) own started (by kernel_rfl) Try.func4
    (ChangeSpec.witness6 (enc := enc) (C := Try.checked) false ⟨#[], #[.slice none 0 0], []⟩ 8 (by kernel_rfl) (by kernel_rfl) (by kernel_rfl) (by kernel_rfl)) ?_
  intro W base args ds gs before hval0 hW hcnd _
  have hval : ∀ (j : Nat) t v, Try.f4.params[j]? = some t → args[j]? = some v → Value.okWide Try.prog W .any base t v := hval0
  have hW' := hW
  obtain ⟨p, q, hA0, hV, rfl, hfz, hnd⟩ := hW
  have hA : DataW.TrodAll enc Try.prog W 0 (fun _ => true) true Try.f4.params.toList args.toList ds p := hA0
  rw [Try.params4] at hA hval
  obtain ⟨v0, vs0, d0, ds0, p0, q0, hargs, rfl, rfl, h0, r0⟩ := trodAll_cons hA
  obtain ⟨rfl, rfl, rfl⟩ := trodAll_nil r0
  obtain rfl : args = #[v0] := by cases args; simp_all
  obtain ⟨rfl, rfl⟩ := trodVars_none hV
  obtain ⟨a0, len0, cap0, rfl⟩ := okWide_slice Try.underlying30 (hval 0 30 v0 rfl rfl)
  have k0 := h0
  have lt0 : ∀ x ∈ p0, x.block < W.heap.size := by obtain ⟨m, hm⟩ := k0; exact DataW.trod_lt m _ _ _ hm
  obtain ⟨z0, w0⟩ : ∃ zs, IsRow .u8 W a0 len0 cap0 zs := by
    obtain ⟨fuel, hf⟩ := h0
    rcases open_ints Try.underlying30 Try.underlying5 (by kernel_rfl) hf with ⟨hcs, _⟩ | ⟨x, l, c, zs, hcs, _, hl, hm, hz, _, hcell, hwz⟩
    · simp [Value.cells] at hcs
      obtain ⟨rfl, rfl, rfl⟩ := hcs
      exact ⟨[], .inl ⟨rfl, rfl, rfl, rfl⟩⟩
    · simp [Value.cells] at hcs
      obtain ⟨rfl, rfl, rfl⟩ := hcs
      exact ⟨zs, .inr ⟨_, rfl, hl, hm, by simpa using hz, hcell, hwz⟩⟩
  clear hA0 hval0
  refine (walk a0 len0 cap0 z0 W w0).mono fun e W' ⟨he, bel⟩ => ?_
  subst he
  exact ⟨_, rfl, _, _, _, [], _, [], hW', trodAll_mk1 (shut_bool Try.underlying4 _), (trodAll_cons_mk (Below.trod laidOut (by kernel_rfl) (of_decide_eq_true (by kernel_rfl)) k0 bel lt0) trodAll_mk0), rfl, bel.frame _, fun h => by cases h⟩

theorem over : Rows.recordReadsRow.holds Try.pinned (OpenSpec.ofChange Rows.recordReadsSpec) :=
  OpenClaim.holds_of_wide 4 Try.f4 rfl rfl rfl rfl rfl rfl rfl ⟨rfl, rfl, rfl, rfl, rfl⟩ rfl rfl rfl rfl rfl (by kernel_rfl) Try.func4 (by kernel_rfl)
    (of_decide_eq_true (by kernel_rfl)) (by unfold Func.isWrapper; first | (rw [if_pos (by decide +kernel)]; kernel_rfl) | (rw [if_neg (by decide +kernel)]; exact ⟨rfl, rfl⟩))
    (fun os started H enc _ => lifted os started H enc)

/-- The statement. -/
theorem proved : Rows.RecordReadsSaid := over
#print axioms proved
end Go.Proofs.Ytdhajmgpakconaa.recordReads
