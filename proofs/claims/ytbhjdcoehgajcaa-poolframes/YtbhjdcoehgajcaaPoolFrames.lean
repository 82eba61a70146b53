/-
  Proved: for every number and every slice of numbers, PoolFrames returns true and leaves them as they were (a page that is held is not read again). No condition.
-/
import Derived.WalkKit
import Derived.ProofKit
import Derived.OpenShut
import Derived.ShutString
import Derived.Test.YtbhjdcoehgajcaaGI
namespace Go.Proofs.Ytbhjdcoehgajcaa.poolFrames
open Go.ChangeShapes Go.WideShapes Go.ChangeAt Go.RowKit
open Go.ChangeMaps (open_string shut_string)
set_option linter.unusedVariables false

theorem own : ownKnob Try.prog.godebug = none := by kernel_rfl
theorem laidOut : laidOutB Try.prog = true := by kernel_rfl

/-- WHAT THE WALK IS TOLD OF A SLICE OF INTEGERS THAT CAME IN. -/
def IsRow (k : IntKind) (w : World) (a : Option Addr) (len cap : Nat) (zs : List Int) : Prop :=
  (a = none ∧ len = 0 ∧ cap = 0 ∧ zs = []) ∨
  ∃ x, a = some x ∧ len ≤ cap ∧ cap ≤ maxLen ∧ zs.length = cap ∧ (∀ i, i < zs.length → w.cell? (x.add i) = some (.int k (zs.getD i 0))) ∧ ∀ n ∈ zs, (Lit.int k n).wf = true

/-- An element of a slice of numbers that came in. -/
theorem ints_at {w : World} {a : Option Addr} {len cap : Nat} {zs : List Int} (h : IsRow .i64 w a len cap zs) (i : Nat) (hi : i < len) : ∃ b off, a = some ⟨b, off, none⟩ ∧ (∀ w', Below w.heap.size w w' → w'.cell? ⟨b, off + i, none⟩ = some (.int .i64 (zs.getD i 0))) ∧ -9223372036854775808 ≤ zs.getD i 0 ∧ zs.getD i 0 ≤ 9223372036854775807 := by
  rcases h with ⟨rfl, rfl, rfl, rfl⟩ | ⟨x, rfl, hl, hm, hz, hc, hw⟩
  · omega
  · obtain ⟨b, off, spot⟩ := x
    have h1 := hc i (by omega)
    have hspot : spot = none := by simpa [Addr.add] using World.cell?_spot (hc 0 (by omega))
    subst hspot
    have e : (Addr.add ⟨b, off, none⟩ i) = ⟨b, off + i, none⟩ := by
      unfold Addr.add
      split
      · simp_all
      · rfl
    rw [e] at h1
    refine ⟨b, off, rfl, fun w' hb => ?_, ?_⟩
    · exact (Kept.of_below (fp := []) hb).cell h1 (by simp)
    · have hmem : zs.getD i 0 ∈ zs := by
        rw [List.getD_eq_getElem?_getD, List.getElem?_eq_getElem (by omega)]
        exact List.getElem_mem _
      exact bounds_i64 (hw _ hmem)
open Go.Proofs.Ytbhjdcoehgajcaa.L.P
def numOf : Value → Nat | .int _ q => q.toNat | _ => 0
theorem i64_and65535 (n : Int) : bits .and .i64 n 65535 = n % 65536 := by
  have hm : (BitVec.ofInt 64 65535).toNat = 2 ^ 16 - 1 := by decide
  have key : (BitVec.ofInt 64 n &&& BitVec.ofInt 64 65535).toNat = (n % ((2 ^ 64 : Nat) : Int)).toNat % 2 ^ 16 := by
    rw [BitVec.toNat_and, BitVec.toNat_ofInt, hm, Nat.and_two_pow_sub_one_eq_mod]
  show IntKind.i64.wrap ((BitVec.ofInt 64 n &&& BitVec.ofInt 64 65535).toNat : Nat) = n % 65536
  rw [key, IntKind.wrap_i64]
  omega

theorem modN (a : Int) (n : Int) (hn : 0 < n) : ∃ r : Nat, (bits .and .i64 a 65535).tmod n = (r : Int) ∧ (r : Int) < n := by
  refine ⟨((a % 65536).tmod n).toNat, ?_, ?_⟩
  · rw [i64_and65535]
    have := Int.tmod_nonneg n (show 0 ≤ a % 65536 by omega)
    omega
  · have h1 := Int.tmod_nonneg n (show 0 ≤ a % 65536 by omega)
    have h2 := Int.tmod_lt_of_pos (a % 65536) hn
    omega
theorem min60 (len : Nat) : ∃ m : Nat, m = min len 60 ∧ (∀ (ts : Array TypeId) (t : TypeId) (w : World), (Builtin.min_ ts t #[.int .i64 (len : Int), .int .i64 60]).run Try.prog w = .ok (.int .i64 (m : Int)) w) := by
  refine ⟨min len 60, rfl, fun ts t w => ?_⟩
  rw [run_min_int2]
  congr 2
  split <;> omega
def CA (c : List Int) : List UInt8 → Option (List Int) := Ct c (allOf fB 0)
theorem CA_a (c : List Int) : CA c (⟨#[97]⟩ : ByteArray).data.toList = some c := rfl

/-! ### The walk -/
set_option maxRecDepth 100000 in
set_option maxHeartbeats 4000000 in
theorem walk (a0 : Int) (a1 : Option Addr) (len1 cap1 : Nat) (z1 : List Int) (w : World) (w0 : (Lit.int .i64 a0).wf = true) (w1 : IsRow .i64 w a1 len1 cap1 z1) :
    Calls Try.prog 5 #[.int .i64 a0, .slice a1 len1 cap1] w fun e w' => e = .returned (.bool true) ∧ Below w.heap.size w w' := by
  obtain ⟨r, hr, hr6⟩ := modN a0 6 (by omega)
  obtain ⟨n, hn, hmin⟩ := min60 len1
  have hw1 : IntKind.i64.wrap (5 + (r : Int)) = 5 + (r : Int) := i64_small _ (by omega) (by omega)
  have hn60 : n ≤ 60 := by omega
  have hnl : n ≤ len1 := by omega
  have SH := hide (shown_any w)
  have HZ := hide w1
  clear w0 w1 hn
  go_enter Try.func5, Try.ntmps5
  go_wp2_with (go_at_call 9; refine SH.out.mono ?_; rintro e w1 ⟨rfl, b1'⟩; have B1 := hide b1'; clear b1')
  refine (made_any w w1 300 0 (by omega) (by omega) B1.out).mono ?_
  rintro e w2 ⟨d, rfl, d2⟩
  have D2 := hide d2
  clear d2 SH
  go_wp2_with fail
  refine (Lf.new (b0 := 4) (C := CA (allOf fA 300)) D2.out (5 + (r : Int)) rfl rfl (two_len (by rw [allOf_length]; omega) (by rw [allOf_length]; omega)) (by simp [S7]) (Ct_look _ _)).mono ?_
  rintro e w3 ⟨q, rfl, l3⟩
  have L3 := hide l3
  clear l3 D2
  go_wp2_with fail
  refine L3.out.ops.mono ?_
  rintro e w3' ⟨g0, rfl, _, rfl, rfl⟩
  go_wp2_with fail
  refine (bytes_any _ 300 0 (by omega) (by omega)).mono ?_
  rintro e w4 ⟨va, vb, rfl, t4⟩
  have L4 := hide (L3.out.hold t4.bel (Ytbhjdcoehgajcaa.own va) (fun z hz => ⟨t4.nx z hz, t4.rx.lt z hz⟩))
  have R4 := hide t4.rx
  clear t4 L3
  have hBd : Hid (Bd (CA (allOf fA 300)) 5) := Bd_five _ (allOf_length _ _)
  have hcl : Hid ((allOf fA 300).length = 300) := allOf_length _ _
  generalize allOf fA 300 = xA at L4 R4 hBd hcl
  obtain ⟨og, oc, hva⟩ : ∃ og oc, va = .slice (some ⟨og, 0, none⟩) 300 oc := by
    rcases R4.out.form with ⟨_, e⟩ | ⟨g, cap, e, _⟩
    · have := hcl.out; rw [e] at this; simp at this
    · exact ⟨g, cap, by rw [e, hcl.out]⟩
  subst hva
  have hfr5 : ((5 : Nat) : Int) ≤ max (5 + (r : Int)) 1 := by omega
  have hfr9 : max (5 + (r : Int)) 1 ≤ 100000 := by omega
  go_wp2
  go_loopw [12] (fun v wr => ∃ i : Nat, v = .int .i64 i ∧ i ≤ n ∧ Hid (Lf w wr (Ytbhjdcoehgajcaa.own (.slice (some ⟨og, 0, none⟩) 300 oc)) q d (max (5 + (r : Int)) 1) (CA xA) 4 i (fun _ => True)) ∧ Hid (RowB wr (.slice (some ⟨og, 0, none⟩) 300 oc) xA)) (fun v _ => n + 1 - numOf v)
  case atStart => exact ⟨0, by first | rfl | go_num, Nat.zero_le _, L4.out.any (by intro x hx; simpa using hx), R4⟩
  case round =>
    obtain ⟨i, rfl, hi, NI, RI⟩ := hrel
    have hw2 : IntKind.i64.wrap ((i : Int) + 1) = (i : Int) + 1 := i64_small _ (by omega) (by omega)
    by_cases hin : i < n
    · have hin' : (i : Int) < (n : Int) := by omega
      have hil : i < len1 := by omega
      obtain ⟨b, off, rfl, hcell, hz0, hz1⟩ := ints_at HZ.out i hil
      have c1 := hcell wr NI.out.bel
      generalize z1.getD i 0 = z at c1 hz0 hz1
      obtain ⟨at_, hat, hat3⟩ := modN z 300 (by omega)
      have hatl : at_ < xA.length := by have := hcl.out; omega
      have hat4 : at_ < 300 := by omega
      clear hcell
      go_wp2_with fail
      refine (NI.out.read hBd.out hfr5 hfr9 (by omega) (by omega) (by omega) ⟨#[97]⟩ (strP 97) (CA_a xA) at_ hatl).mono ?_
      rintro e w5 ⟨g, u, rfl, cg, l5, b5⟩
      have r5 := b5.row RI.out (fun z hz => hz)
      have co : w5.cell? ⟨og, at_, none⟩ = some (.int .u8 xA[at_]) := by
        obtain ⟨a2, c2, e3, _, _, h3, _⟩ := r5.isB
        simp only [Value.slice.injEq] at e3
        have := h3 ⟨og, 0, none⟩ e3.1.symm at_ hatl
        rw [Addr.add_lit, Nat.zero_add, List.getElem?_eq_getElem hatl, Option.getD_some] at this
        exact this
      have N5 := hide l5
      have R5 := hide r5
      generalize xA[at_] = zz at cg co
      clear l5 b5 r5
      go_wp2
      go_quiet (fail)
      go_wp2
      go_roundw
      case rel => exact ⟨i + 1, by go_num, by omega, N5.out.drewN _, R5.out.kept (fp := []) (Kept.of_below (below_drewN (Below.refl _ _) _)) (by simp)⟩
      case measure => simp [numOf]; omega
    · obtain rfl : i = n := by omega
      go_wp2_with fail
      refine NI.out.ops.mono ?_
      rintro e w5 ⟨g, _, hg, rfl, rfl⟩
      have hg5 := hg 5 hBd.out
      have hw3 : IntKind.i64.wrap (4 + (i : Int) + (g : Int) - 4) = (i : Int) + (g : Int) := by rw [i64_small _ (by omega) (by omega)]; omega
      have hw4 : IntKind.i64.wrap ((i : Int) + 5) = (i : Int) + 5 := i64_small _ (by omega) (by omega)
      have hgi : (i : Int) + (g : Int) ≤ (i : Int) + 5 := by omega
      clear hg
      go_wp2_with fail
      refine (NI.out.resident hBd.out).mono ?_
      rintro e w6 ⟨k, rfl, rfl, hk⟩
      have hk5 : (k : Int) ≤ 5 := by omega
      go_wp2
      go_ret
      exact ⟨rfl, NI.out.bel⟩

/-! ### The row's step -/
set_option maxRecDepth 100000 in
theorem lifted (os : Os) (started : os.Started) (H : Type) (enc : TypeId × Value → H) :
    ReturnsInHanded {} Try.checked os 5 .any (Rows.poolFramesSpec.pre6 enc Try.prog Try.f5 Rows.poolFramesRow.domain false) (Rows.poolFramesSpec.post enc Try.prog Try.f5 false true false false) := by
  refine returnsInHanded_of_change (C := Try.checked) own started (by kernel_rfl) Try.func5
    (ChangeSpec.witness6 (enc := enc) (C := Try.checked) false ⟨#[], #[.int .i64 0, .slice none 0 0], []⟩ 8 (by kernel_rfl) (by kernel_rfl) (by kernel_rfl) (by kernel_rfl)) ?_
  intro W base args ds gs before hval0 hW hcnd _
  have hval : ∀ (j : Nat) t v, Try.f5.params[j]? = some t → args[j]? = some v → Value.okWide Try.prog W .any base t v := hval0
  have hW' := hW
  obtain ⟨p, q, hA0, hV, rfl, hfz, hnd⟩ := hW
  have hA : DataW.TrodAll enc Try.prog W 0 (fun _ => true) true Try.f5.params.toList args.toList ds p := hA0
  rw [Try.params5] at hA hval
  obtain ⟨v0, vs0, d0, ds0, p0, q0, hargs, rfl, rfl, h0, r0⟩ := trodAll_cons hA
  obtain ⟨v1, vs1, d1, ds1, p1, q1, rfl, rfl, rfl, h1, r1⟩ := trodAll_cons r0
  obtain ⟨rfl, rfl, rfl⟩ := trodAll_nil r1
  obtain rfl : args = #[v0, v1] := by cases args; simp_all
  obtain ⟨rfl, rfl⟩ := trodVars_none hV
  obtain ⟨a0, rfl, rfl, rfl, w0⟩ := open_int Try.underlying3 (hval 0 3 v0 rfl rfl) h0
  obtain ⟨a1, len1, cap1, rfl⟩ := okWide_slice Try.underlying42 (hval 1 42 v1 rfl rfl)
  have k1 := h1
  have lt1 : ∀ x ∈ p1, x.block < W.heap.size := by obtain ⟨m, hm⟩ := k1; exact DataW.trod_lt m _ _ _ hm
  obtain ⟨z1, w1⟩ : ∃ zs, IsRow .i64 W a1 len1 cap1 zs := by
    obtain ⟨fuel, hf⟩ := h1
    rcases open_ints Try.underlying42 Try.underlying3 (by kernel_rfl) hf with ⟨hcs, _⟩ | ⟨x, l, c, zs, hcs, _, hl, hm, hz, _, hcell, hwz⟩
    · simp [Value.cells] at hcs
      obtain ⟨rfl, rfl, rfl⟩ := hcs
      exact ⟨[], .inl ⟨rfl, rfl, rfl, rfl⟩⟩
    · simp [Value.cells] at hcs
      obtain ⟨rfl, rfl, rfl⟩ := hcs
      exact ⟨zs, .inr ⟨_, rfl, hl, hm, by simpa using hz, hcell, hwz⟩⟩
  clear hA0 hval0
  refine (walk a0 a1 len1 cap1 z1 W w0 w1).mono fun e W' ⟨he, bel⟩ => ?_
  subst he
  exact ⟨_, rfl, _, _, _, [], _, [], hW', trodAll_mk1 (shut_bool Try.underlying4 _), (trodAll_cons_mk (shut_int Try.underlying3 w0) (trodAll_cons_mk (Below.trod laidOut (by kernel_rfl) (of_decide_eq_true (by kernel_rfl)) k1 bel lt1) trodAll_mk0)), rfl, bel.frame _, fun h => by cases h⟩

theorem over : Rows.poolFramesRow.holds Try.pinned (OpenSpec.ofChange Rows.poolFramesSpec) :=
  OpenClaim.holds_of_wide 5 Try.f5 rfl rfl rfl rfl rfl rfl rfl ⟨rfl, rfl, rfl, rfl, rfl⟩ rfl rfl rfl rfl rfl (by kernel_rfl) Try.func5 (by kernel_rfl)
    (of_decide_eq_true (by kernel_rfl)) (by unfold Func.isWrapper; first | (rw [if_pos (by decide +kernel)]; kernel_rfl) | (rw [if_neg (by decide +kernel)]; exact ⟨rfl, rfl⟩))
    (fun os started H enc _ => lifted os started H enc)

/-- The statement. -/
theorem proved : Rows.PoolFramesSaid := over
#print axioms proved
end Go.Proofs.Ytbhjdcoehgajcaa.poolFrames
