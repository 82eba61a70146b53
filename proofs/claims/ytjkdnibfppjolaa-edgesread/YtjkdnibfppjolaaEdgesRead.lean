/-
  Proved: for every slice of bytes, EdgesRead returns true and leaves the bytes as they were (bytes are graphs, or wrong somewhere, as the document says). No condition.
-/
import Derived.Deep.RegionHeld
import Derived.Test.YtjkdnibfppjolaaRefDec
import Derived.WalkKit
import Derived.ProofKit
import Derived.OpenShut
import Derived.ShutString
import Derived.ChangeOld
import Derived.Below
namespace Go.Proofs.Ytjkdnibfppjolaa.edgesRead
open Go.ChangeShapes Go.WideShapes Go.ChangeAt Go.RowKit
open Go.ChangeMaps (open_string shut_string)
set_option linter.unusedVariables false

theorem own : ownKnob Try.prog.godebug = none := by kernel_rfl
theorem laidOut : laidOutB Try.prog = true := by kernel_rfl

/-- WHAT THE WALK IS TOLD OF A SLICE OF INTEGERS THAT CAME IN: it is nil; or it leads to a row of 'cap' cells, the numbers 'zs' (the first 'len' are its elements, the rest its spare room), each fitting its kind. -/
def IsRow (k : IntKind) (w : World) (a : Option Addr) (len cap : Nat) (zs : List Int) : Prop :=
  (a = none ∧ len = 0 ∧ cap = 0 ∧ zs = []) ∨
  ∃ x, a = some x ∧ len ≤ cap ∧ cap ≤ maxLen ∧ zs.length = cap ∧ (∀ i, i < zs.length → w.cell? (x.add i) = some (.int k (zs.getD i 0))) ∧ ∀ n ∈ zs, (Lit.int k n).wf = true

theorem isB_of {w : World} {a : Option Addr} {len cap : Nat} {zs : List Int} (h : IsRow .u8 w a len cap zs) : IsB w (.slice a len cap) (zs.take len) ∧ (zs.take len).length = len ∧ len ≤ cap := by
  rcases h with ⟨rfl, rfl, rfl, rfl⟩ | ⟨x, rfl, hl, hm, hz, hc, hw⟩
  · exact ⟨IsB.nil w, rfl, Nat.le_refl _⟩
  · have e : (zs.take len).length = len := by simp; omega
    refine ⟨⟨_, cap, by rw [e], by omega, by simp, fun y hy j hj => ?_, fun z hz => ?_⟩, e, hl⟩
    · simp only [Option.some.injEq] at hy
      subst hy
      rw [hc j (by omega), List.getElem?_take_of_lt (by omega)]
      rfl
    · have := hw z (List.mem_of_mem_take hz)
      exact bounds_u8 this

/-- What is left of a slice that is cut to at most m bytes. -/
theorem cut_to {w : World} {a : Option Addr} {len cap : Nat} {zs : List Int} (h : IsRow .u8 w a len cap zs) (m : Nat) (hm : m ≤ len) : ∃ bs, IsB w (.slice a m cap) bs ∧ bs.length = m := by
  obtain ⟨h1, h2, h3⟩ := isB_of h
  exact ⟨_, h1.take m hm, by simp only [List.length_take, h2]; omega⟩

/-- The same, the length named: as the walk reckons it. -/
theorem cut_min {w : World} {a : Option Addr} {len cap : Nat} {zs : List Int} (h : IsRow .u8 w a len cap zs) (k : Nat) (K : Int) (hK : K = (k : Int)) :
    ∃ (m : Nat) (bs : List Int), (∀ (ts : Array TypeId) (t : TypeId) (w : World), (Builtin.min_ ts t #[.int .i64 (len : Int), .int .i64 K]).run Try.prog w = .ok (.int .i64 (m : Int)) w) ∧ IsB w (.slice a m cap) bs ∧ bs.length = m ∧ m ≤ len ∧ m ≤ k ∧ m ≤ cap := by
  obtain ⟨h1, h2, h3⟩ := isB_of h
  refine ⟨min len k, _, fun ts t w => ?_, h1.take (min len k) (by omega), by simp only [List.length_take, h2]; omega, by omega, by omega, by omega⟩
  rw [run_min_int2, hK]
  congr 2
  split <;> omega


/-! ### The walk -/
set_option maxRecDepth 100000 in
set_option maxHeartbeats 4000000 in
theorem walk (a0 : Option Addr) (len0 cap0 : Nat) (z0 : List Int) (w : World) (w0 : IsRow .u8 w a0 len0 cap0 z0) :
    Calls Try.prog 4 #[.slice a0 len0 cap0] w fun e w' => e = .returned (.bool true) ∧ Below w.heap.size w w' := by
  obtain ⟨p, bs, hm0, hI, hL, hp1, hp2, hlc0⟩ := cut_min w0 1000 1000 rfl
  have hbl : bs.length ≤ 1000 := by omega
  have hp0 : (0 : Int) ≤ (p : Int) := by omega
  have hpc : (p : Int) ≤ (cap0 : Int) := by omega
  have D1 := hide fun v w hI => decode_any v bs w hI (by omega)
  have D2 := hide fun v w hI => rdecode_any v bs w hI (by omega)
  obtain ⟨⟨n, es, at_, er⟩, hD⟩ : ∃ D, dec bs = D := ⟨_, rfl⟩
  rw [hD] at D1 D2
  have hel : es.length ≤ 1048576 := by
    have : es = (dec bs).2.1 := by rw [hD]
    rw [this]
    unfold dec
    split
    · simp
    · split
      · simp
      · split
        · simp
        · split
          · simp
          · rw [edgesOf_length]; omega
  obtain ⟨str, hstr⟩ : ∃ str, str = strOfNums bs := ⟨_, rfl⟩
  have cv := fun w' (h : IsB w' (.slice a0 p cap0) bs) => conv_isB h
  simp only [← hstr] at cv
  have CV := hide cv
  clear w0 hL hD hstr cv
  go_enter Try.func4, Try.ntmps4
  go_wp2_with fail
  refine (shown_any _).mono ?_
  rintro e w1 ⟨rfl, B1⟩
  have I1 := hide (hI.below B1)
  have HB1 := hide B1
  have x1 := CV.out w1 I1.out
  clear B1
  go_wp2_with fail
  refine (D1.out _ _ I1.out).mono ?_
  rintro e w2 ⟨v2, rfl, i2, b2⟩
  obtain ⟨a2, cap2, rfl, _⟩ := i2.form
  have b2' := b2.alloc b2.size (.cells #[.int .i64 n, .slice a2 es.length cap2] 24)
  have I2 := hide (I1.out.below b2')
  have J2 := hide (i2.below ((Below.refl _ w2).alloc (Nat.le_refl _) (.cells #[.int .i64 n, .slice a2 es.length cap2] 24)))
  have HB2 := hide (below_then HB1.out b2')
  clear i2 b2 b2' x1 hm0
  go_wp2_with fail
  refine (D2.out _ _ I2.out).mono ?_
  rintro e w3 ⟨v3, rfl, i3, b3⟩
  obtain ⟨a3, cap3, rfl, _⟩ := i3.form
  have q3 : w3.heap[w2.heap.size]? = some (.cells #[.int .i64 n, .slice a2 es.length cap2] 24 (0, 0)) := block_then (heap_alloc_new w2 _) b3
  have b3' := b3.alloc b3.size (.cells #[.int .i64 n, .slice a3 es.length cap3] 24)
  have hq3 := (Array.getElem?_eq_some_iff.1 q3).1
  have q4 : ∀ o, (w3.alloc o).heap[w2.heap.size]? = some (.cells #[.int .i64 n, .slice a2 es.length cap2] 24 (0, 0)) := fun o => (Below.heap_alloc w3 o _ hq3).trans q3
  have c40 : ∀ o, (w3.alloc o).cell? ⟨w2.heap.size, 0, none⟩ = some (.int .i64 n) := fun o => (cells2 (q4 o)).1
  have c41 : ∀ o, (w3.alloc o).cell? ⟨w2.heap.size, 1, none⟩ = some (.slice a2 es.length cap2) := fun o => (cells2 (q4 o)).2.1
  have I3 := hide (I2.out.below b3')
  have J3 := hide (J2.out.below b3')
  have K3 := hide (i3.below ((Below.refl _ w3).alloc (Nat.le_refl _) (.cells #[.int .i64 n, .slice a3 es.length cap3] 24)))
  have HB3 := hide (below_then HB2.out b3')
  clear i3 b3 b3' q3 q4
  go_wp2_with fail
  have hA := alike_any _ _ _ _ _ J3.out K3.out (by omega)
  rw [decide_eq_true (rfl : es = es)] at hA
  refine hA.mono ?_
  clear hA
  rintro e w5 ⟨rfl, b5⟩
  have x5 := CV.out w5 (I3.out.below b5)
  have HB5 := hide (below_then HB3.out b5)
  clear b5 c40 c41
  go_wp2
  go_ret
  exact ⟨rfl, HB5.out⟩

/-! ### THE ROW's STEP: WRITTEN OUT: LEAVE IT -/
set_option maxRecDepth 100000 in
theorem lifted (os : Os) (started : os.Started) (H : Type) (enc : TypeId × Value → H) :
    ReturnsInHanded {} Try.checked os 4 .any (Rows.edgesReadSpec.pre6 enc Try.prog Try.f4 Rows.edgesReadRow.domain false) (Rows.edgesReadSpec.post enc Try.prog Try.f4 false true false false) := by
  refine returnsInHanded_of_change (C := Try.checked) own started (by kernel_rfl) Try.func4
    (ChangeSpec.witness6 (enc := enc) (C := Try.checked) false ⟨#[], #[.slice none 0 0], []⟩ 8 (by kernel_rfl) (by kernel_rfl) (by kernel_rfl) (by kernel_rfl)) ?_
  intro W base args ds gs before hval0 hW hcnd _
  have hval : ∀ (j : Nat) t v, Try.f4.params[j]? = some t → args[j]? = some v → Value.okWide Try.prog W .any base t v := hval0
  have hW' := hW
  obtain ⟨p, q, hA0, hV, rfl, hfz, hnd⟩ := hW
  have hA : DataW.TrodAll enc Try.prog W 0 (fun _ => true) true Try.f4.params.toList args.toList ds p := hA0
  rw [Try.params4] at hA hval
  obtain ⟨v0, vs0, d0, ds0, p0, q0, hargs, rfl, rfl, h0, r0⟩ := trodAll_cons hA
  obtain ⟨rfl, rfl, rfl⟩ := trodAll_nil r0
  obtain rfl : args = #[v0] := by cases args; simp_all
  obtain ⟨rfl, rfl⟩ := trodVars_none hV
  obtain ⟨a0, len0, cap0, rfl⟩ := okWide_slice Try.underlying27 (hval 0 27 v0 rfl rfl)
  have k0 := h0
  have lt0 : ∀ x ∈ p0, x.block < W.heap.size := by obtain ⟨m, hm⟩ := k0; exact DataW.trod_lt m _ _ _ hm
  obtain ⟨z0, w0⟩ : ∃ zs, IsRow .u8 W a0 len0 cap0 zs := by
    obtain ⟨fuel, hf⟩ := h0
    rcases open_ints Try.underlying27 Try.underlying5 (by kernel_rfl) hf with ⟨hcs, _⟩ | ⟨x, l, c, zs, hcs, _, hl, hm, hz, _, hcell, hwz⟩
    · simp [Value.cells] at hcs
      obtain ⟨rfl, rfl, rfl⟩ := hcs
      exact ⟨[], .inl ⟨rfl, rfl, rfl, rfl⟩⟩
    · simp [Value.cells] at hcs
      obtain ⟨rfl, rfl, rfl⟩ := hcs
      exact ⟨zs, .inr ⟨_, rfl, hl, hm, by simpa using hz, hcell, hwz⟩⟩
  clear hA0 hval0
  refine (walk a0 len0 cap0 z0 W w0).mono fun e W' ⟨he, bel⟩ => ?_
  subst he
  exact ⟨_, rfl, _, _, _, [], _, [], hW', trodAll_mk1 (shut_bool Try.underlying4 _), (trodAll_cons_mk (Below.trod laidOut (by kernel_rfl) (of_decide_eq_true (by kernel_rfl)) k0 bel lt0) trodAll_mk0), rfl, bel.frame _, fun h => by cases h⟩

theorem over : Rows.edgesReadRow.holds Try.pinned (OpenSpec.ofChange Rows.edgesReadSpec) :=
  OpenClaim.holds_of_wide 4 Try.f4 rfl rfl rfl rfl rfl rfl rfl ⟨rfl, rfl, rfl, rfl, rfl⟩ rfl rfl rfl rfl rfl (by kernel_rfl) Try.func4 (by kernel_rfl)
    (of_decide_eq_true (by kernel_rfl)) (by unfold Func.isWrapper; first | (rw [if_pos (by decide +kernel)]; kernel_rfl) | (rw [if_neg (by decide +kernel)]; exact ⟨rfl, rfl⟩))
    (fun os started H enc _ => lifted os started H enc)

/-- ████ THE STATEMENT ████ -/
theorem proved : Rows.EdgesReadSaid := over
#print axioms proved
end Go.Proofs.Ytjkdnibfppjolaa.edgesRead
