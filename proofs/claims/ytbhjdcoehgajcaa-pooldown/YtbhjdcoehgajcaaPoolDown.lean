/-
  Proved: for every slice of bytes and every number, PoolDown returns true and leaves them as they were (what is down answers so, and nothing is lost that was flushed). No condition.
-/
import Derived.WalkKit
import Derived.ProofKit
import Derived.OpenShut
import Derived.ShutString
import Derived.Test.YtbhjdcoehgajcaaGH
namespace Go.Proofs.Ytbhjdcoehgajcaa.poolDown
open Go.ChangeShapes Go.WideShapes Go.ChangeAt Go.RowKit
open Go.ChangeMaps (open_string shut_string)
set_option linter.unusedVariables false

theorem own : ownKnob Try.prog.godebug = none := by kernel_rfl
theorem laidOut : laidOutB Try.prog = true := by kernel_rfl

/-- WHAT THE WALK IS TOLD OF A SLICE OF INTEGERS THAT CAME IN. -/
def IsRow (k : IntKind) (w : World) (a : Option Addr) (len cap : Nat) (zs : List Int) : Prop :=
  (a = none ∧ len = 0 ∧ cap = 0 ∧ zs = []) ∨
  ∃ x, a = some x ∧ len ≤ cap ∧ cap ≤ maxLen ∧ zs.length = cap ∧ (∀ i, i < zs.length → w.cell? (x.add i) = some (.int k (zs.getD i 0))) ∧ ∀ n ∈ zs, (Lit.int k n).wf = true

theorem isB_of {w : World} {a : Option Addr} {len cap : Nat} {zs : List Int} (h : IsRow .u8 w a len cap zs) : IsB w (.slice a len cap) (zs.take len) ∧ (zs.take len).length = len ∧ len ≤ cap := by
  rcases h with ⟨rfl, rfl, rfl, rfl⟩ | ⟨x, rfl, hl, hm, hz, hc, hw⟩
  · exact ⟨IsB.nil w, rfl, Nat.le_refl _⟩
  · have e : (zs.take len).length = len := by simp; omega
    refine ⟨⟨_, cap, by rw [e], by omega, by simp, fun y hy j hj => ?_, fun z hz => ?_⟩, e, hl⟩
    · simp only [Option.some.injEq] at hy
      subst hy
      rw [hc j (by omega), List.getElem?_take_of_lt (by omega)]
      rfl
    · have := hw z (List.mem_of_mem_take hz)
      exact bounds_u8 this

/-- What is left of a slice that is cut to at most m bytes. -/
theorem cut_to {w : World} {a : Option Addr} {len cap : Nat} {zs : List Int} (h : IsRow .u8 w a len cap zs) (m : Nat) (hm : m ≤ len) : ∃ bs, IsB w (.slice a m cap) bs ∧ bs.length = m := by
  obtain ⟨h1, h2, h3⟩ := isB_of h
  exact ⟨_, h1.take m hm, by simp only [List.length_take, h2]; omega⟩

/-- The same, the length named: as the walk reckons it. -/
theorem cut_min {w : World} {a : Option Addr} {len cap : Nat} {zs : List Int} (h : IsRow .u8 w a len cap zs) (k : Nat) (K : Int) (hK : K = (k : Int)) :
    ∃ (m : Nat) (bs : List Int), (∀ (ts : Array TypeId) (t : TypeId) (w : World), (Builtin.min_ ts t #[.int .i64 (len : Int), .int .i64 K]).run Try.prog w = .ok (.int .i64 (m : Int)) w) ∧ IsB w (.slice a m cap) bs ∧ bs.length = m ∧ m ≤ len ∧ m ≤ k ∧ m ≤ cap := by
  obtain ⟨h1, h2, h3⟩ := isB_of h
  refine ⟨min len k, _, fun ts t w => ?_, h1.take (min len k) (by omega), by simp only [List.length_take, h2]; omega, by omega, by omega, by omega⟩
  rw [run_min_int2, hK]
  congr 2
  split <;> omega

open Go.Proofs.Ytbhjdcoehgajcaa.L.P
theorem i64_and65535 (n : Int) : bits .and .i64 n 65535 = n % 65536 := by
  have hm : (BitVec.ofInt 64 65535).toNat = 2 ^ 16 - 1 := by decide
  have key : (BitVec.ofInt 64 n &&& BitVec.ofInt 64 65535).toNat = (n % ((2 ^ 64 : Nat) : Int)).toNat % 2 ^ 16 := by
    rw [BitVec.toNat_and, BitVec.toNat_ofInt, hm, Nat.and_two_pow_sub_one_eq_mod]
  show IntKind.i64.wrap ((BitVec.ofInt 64 n &&& BitVec.ofInt 64 65535).toNat : Nat) = n % 65536
  rw [key, IntKind.wrap_i64]
  omega

theorem mod5 (a : Int) : ∃ r : Nat, (bits .and .i64 a 65535).tmod 5 = (r : Int) ∧ r ≤ 4 := by
  refine ⟨((a % 65536).tmod 5).toNat, ?_, ?_⟩
  · rw [i64_and65535]
    have := Int.tmod_nonneg 5 (show 0 ≤ a % 65536 by omega)
    omega
  · have h1 := Int.tmod_nonneg 5 (show 0 ≤ a % 65536 by omega)
    have h2 := Int.tmod_lt_of_pos (a % 65536) (show (0 : Int) < 5 by omega)
    omega
/-- What the file a has. -/
def CA (c : List Int) : List UInt8 → Option (List Int) := Ct c (allOf fB 0)
theorem CA_a (c : List Int) : CA c (⟨#[97]⟩ : ByteArray).data.toList = some c := rfl
theorem CA_put (c c' : List Int) : putC (CA c) (⟨#[97]⟩ : ByteArray).data.toList c' = CA c' := Ct_put false c (allOf fB 0) c'

/-! ### The walk -/
set_option maxRecDepth 100000 in
set_option maxHeartbeats 4000000 in
theorem walk (a0 : Option Addr) (len0 cap0 : Nat) (z0 : List Int) (a1 : Int) (w : World) (w0 : IsRow .u8 w a0 len0 cap0 z0) (w1 : (Lit.int .i64 a1).wf = true) :
    Calls Try.prog 6 #[.slice a0 len0 cap0, .int .i64 a1] w fun e w' => e = .returned (.bool true) ∧ Below w.heap.size w w' := by
  obtain ⟨m, ms, hmin, hI, hml, hm1, hm2, hm3⟩ := cut_min w0 100 100 rfl
  obtain ⟨r, hr, hr4⟩ := mod5 a1
  have hmc : (m : Int) ≤ (cap0 : Int) := by omega
  have hw1 : IntKind.i64.wrap (1 + (r : Int)) = 1 + (r : Int) := i64_small _ (by omega) (by omega)
  have kc := fun (w : World) (C : Array Value) (n c : Nat) => Lib.run_convert_bytes_const (P := Try.prog) w 28 5 C n c Try.underlying28 Try.underlying5
  have SH := hide (shown_any w)
  have HI := hide hI
  have HML := hide hml
  clear w0 w1 hI hml
  go_enter Try.func6, Try.ntmps6
  go_wp2_with (go_at_call 9; refine SH.out.mono ?_; rintro e w1 ⟨rfl, b1'⟩; have B1 := hide b1'; clear b1')
  refine (made_any w w1 300 0 (by omega) (by omega) B1.out).mono ?_
  rintro e w2 ⟨d, rfl, d2⟩
  have D2 := hide d2
  clear d2 SH
  go_wp2_with fail
  refine (Lp.new (m := 4) (C := CA (allOf fA 300)) D2.out (1 + (r : Int)) rfl rfl (two_len (by rw [allOf_length]; omega) (by rw [allOf_length]; omega)) (by simp [S7]) (Ct_look _ _)).mono ?_
  rintro e w3 ⟨q, rfl, l3⟩
  have L3 := hide l3
  clear l3 D2
  go_wp2_with fail
  have WR := L3.out.write ⟨#[97]⟩ (strP 97) (CA_a _) (by omega) 50 a0 cap0 ms (by rw [HML.out]; exact HI.out.below L3.out.bel) (fun hne z hz => .inl ((HI.out.lt hne) z (by rw [HML.out] at hz; exact hz))) (by rw [allOf_length, HML.out]; omega) (by rw [HML.out]; omega)
  rw [HML.out, CA_put] at WR
  refine WR.mono ?_
  rintro e w4 ⟨rfl, l4, _⟩
  clear WR
  have L4 := hide l4
  clear l4 L3
  go_wp2_with fail
  refine (L4.out.flush (by omega) (by omega) ⟨#[97]⟩).mono ?_
  rintro e w5 ⟨rfl, l5, _⟩
  have L5 := hide l5
  clear l5 L4
  go_wp2_with fail
  refine (L5.out.sync (by omega) ⟨#[97]⟩ (strP 97) (CA_a _) (fun h => h.2 rfl)).mono ?_
  rintro e w6 ⟨rfl, l, s, l6, h6, h7, h8, h9⟩
  have L6 := hide (And.intro l6 (And.intro h6 (And.intro h7 (And.intro h8 h9))))
  clear l6 L5 h6 h7 h8 h9
  go_wp2_with fail
  refine (L6.out.1.crash (by have := L6.out.2.2.2.1; omega) L6.out.2.1).mono ?_
  rintro e w7 ⟨rfl, s7, l7, h1, h2, h3⟩
  have L7 := hide (And.intro l7 (And.intro h1 (And.intro h2 (And.intro (show s7.ops ≤ 1000 by have := L6.out.2.2.2.1; omega) (torn_look [] l [97] _ L6.out.2.2.2.2 0)))))
  clear l7 h1 h2 h3 L6
  generalize (torn [] l 0).1 = l7 at L7
  go_wp2_with fail
  refine (L7.out.1.down_read (by have := L7.out.2.2.2.1; omega) L7.out.2.1 L7.out.2.2.1 ⟨#[97]⟩ (strP 97) 0 1).mono ?_
  rintro e w8 ⟨rfl, l8⟩
  have L8 := hide l8
  clear l8
  go_wp2_with fail
  refine (Lx.down_write (L8.out.below ((Below.refl _ w8).alloc (Nat.le_refl _) _)) (by show s7.ops + 1 ≤ _; have := L7.out.2.2.2.1; omega) L7.out.2.1 L7.out.2.2.1 ⟨#[97]⟩ (strP 97) 0 _ _ _).mono ?_
  rintro e w9 ⟨rfl, l9⟩
  have L9 := hide l9
  clear l9
  go_wp2_with fail
  refine (L9.out.restart).mono ?_
  rintro e w10 ⟨rfl, l10⟩
  have L10 := hide l10
  clear l10
  go_wp2_with fail
  refine (L10.out.read (by show s7.ops + 1 + 1 ≤ _; have := L7.out.2.2.2.1; omega) rfl L7.out.2.2.1 ⟨#[97]⟩ (strP 97) L7.out.2.2.2.2 50 m (by rw [putA_length _ _ _ (by rw [allOf_length]; omega), allOf_length, HML.out]; omega)).mono ?_
  rintro e w11 ⟨va, u, rfl, i11, b11⟩
  have e11 : ((putA (allOf fA 300) 50 ms).drop 50).take m = ms := by
    unfold putA
    have e0 : ((allOf fA 300).take 50).length = 50 := by rw [List.length_take, allOf_length]; rfl
    rw [List.drop_append_of_le_length (by omega), List.drop_of_length_le (by omega), List.nil_append, List.take_append_of_le_length (by rw [HML.out]; omega), List.take_of_length_le (by rw [HML.out]; omega)]
  rw [e11] at i11
  have X11 : (convert 28 9 (.slice va m u)).run Try.prog w11 = .ok (.string (strOfNums ms)) w11 := conv_isB i11
  have Y11 : (convert 28 9 (.slice a0 m cap0)).run Try.prog w11 = .ok (.string (strOfNums ms)) w11 := conv_isB (HI.out.below b11)
  generalize strOfNums ms = str at X11 Y11
  have B11 := hide b11
  clear i11 b11 e11
  go_wp2
  go_ret
  exact ⟨rfl, B11.out⟩

/-! ### The row's step -/
set_option maxRecDepth 100000 in
theorem lifted (os : Os) (started : os.Started) (H : Type) (enc : TypeId × Value → H) :
    ReturnsInHanded {} Try.checked os 6 .any (Rows.poolDownSpec.pre6 enc Try.prog Try.f6 Rows.poolDownRow.domain false) (Rows.poolDownSpec.post enc Try.prog Try.f6 false true false false) := by
  refine returnsInHanded_of_change (C := Try.checked) own started (by kernel_rfl) Try.func6
    (ChangeSpec.witness6 (enc := enc) (C := Try.checked) false ⟨#[], #[.slice none 0 0, .int .i64 0], []⟩ 8 (by kernel_rfl) (by kernel_rfl) (by kernel_rfl) (by kernel_rfl)) ?_
  intro W base args ds gs before hval0 hW hcnd _
  have hval : ∀ (j : Nat) t v, Try.f6.params[j]? = some t → args[j]? = some v → Value.okWide Try.prog W .any base t v := hval0
  have hW' := hW
  obtain ⟨p, q, hA0, hV, rfl, hfz, hnd⟩ := hW
  have hA : DataW.TrodAll enc Try.prog W 0 (fun _ => true) true Try.f6.params.toList args.toList ds p := hA0
  rw [Try.params6] at hA hval
  obtain ⟨v0, vs0, d0, ds0, p0, q0, hargs, rfl, rfl, h0, r0⟩ := trodAll_cons hA
  obtain ⟨v1, vs1, d1, ds1, p1, q1, rfl, rfl, rfl, h1, r1⟩ := trodAll_cons r0
  obtain ⟨rfl, rfl, rfl⟩ := trodAll_nil r1
  obtain rfl : args = #[v0, v1] := by cases args; simp_all
  obtain ⟨rfl, rfl⟩ := trodVars_none hV
  obtain ⟨a0, len0, cap0, rfl⟩ := okWide_slice Try.underlying28 (hval 0 28 v0 rfl rfl)
  have k0 := h0
  have lt0 : ∀ x ∈ p0, x.block < W.heap.size := by obtain ⟨m, hm⟩ := k0; exact DataW.trod_lt m _ _ _ hm
  obtain ⟨z0, w0⟩ : ∃ zs, IsRow .u8 W a0 len0 cap0 zs := by
    obtain ⟨fuel, hf⟩ := h0
    rcases open_ints Try.underlying28 Try.underlying5 (by kernel_rfl) hf with ⟨hcs, _⟩ | ⟨x, l, c, zs, hcs, _, hl, hm, hz, _, hcell, hwz⟩
    · simp [Value.cells] at hcs
      obtain ⟨rfl, rfl, rfl⟩ := hcs
      exact ⟨[], .inl ⟨rfl, rfl, rfl, rfl⟩⟩
    · simp [Value.cells] at hcs
      obtain ⟨rfl, rfl, rfl⟩ := hcs
      exact ⟨zs, .inr ⟨_, rfl, hl, hm, by simpa using hz, hcell, hwz⟩⟩
  obtain ⟨a1, rfl, rfl, rfl, w1⟩ := open_int Try.underlying3 (hval 1 3 v1 rfl rfl) h1
  clear hA0 hval0
  refine (walk a0 len0 cap0 z0 a1 W w0 w1).mono fun e W' ⟨he, bel⟩ => ?_
  subst he
  exact ⟨_, rfl, _, _, _, [], _, [], hW', trodAll_mk1 (shut_bool Try.underlying4 _), (trodAll_cons_mk (Below.trod laidOut (by kernel_rfl) (of_decide_eq_true (by kernel_rfl)) k0 bel lt0) (trodAll_cons_mk (shut_int Try.underlying3 w1) trodAll_mk0)), rfl, bel.frame _, fun h => by cases h⟩

theorem over : Rows.poolDownRow.holds Try.pinned (OpenSpec.ofChange Rows.poolDownSpec) :=
  OpenClaim.holds_of_wide 6 Try.f6 rfl rfl rfl rfl rfl rfl rfl ⟨rfl, rfl, rfl, rfl, rfl⟩ rfl rfl rfl rfl rfl (by kernel_rfl) Try.func6 (by kernel_rfl)
    (of_decide_eq_true (by kernel_rfl)) (by unfold Func.isWrapper; first | (rw [if_pos (by decide +kernel)]; kernel_rfl) | (rw [if_neg (by decide +kernel)]; exact ⟨rfl, rfl⟩))
    (fun os started H enc _ => lifted os started H enc)

/-- The statement. -/
theorem proved : Rows.PoolDownSaid := over
#print axioms proved
end Go.Proofs.Ytbhjdcoehgajcaa.poolDown
