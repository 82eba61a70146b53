/-
  Proved: for every graph, number and slice of bytes, EdgesCut returns true and leaves its arguments as they were (bytes that are no whole edges are refused at their end). No condition.
-/
import Derived.Deep.RegionHeld
import Derived.Deep.RegionHeldLaw
import Derived.Test.YtjkdnibfppjolaaDecEnc
namespace Go.Proofs.Ytjkdnibfppjolaa.edgesCut
open Go.ChangeShapes Go.WideShapes Go.ChangeAt Go.RowKit
open Go.ChangeMaps (open_string shut_string)
set_option linter.unusedVariables false

theorem own : ownKnob Try.prog.godebug = none := by kernel_rfl
theorem laidOut : laidOutB Try.prog = true := by kernel_rfl

/-- WHAT THE WALK IS TOLD OF A SLICE OF INTEGERS THAT CAME IN. -/
def IsRow (k : IntKind) (w : World) (a : Option Addr) (len cap : Nat) (zs : List Int) : Prop :=
  (a = none ∧ len = 0 ∧ cap = 0 ∧ zs = []) ∨
  ∃ x, a = some x ∧ len ≤ cap ∧ cap ≤ maxLen ∧ zs.length = cap ∧ (∀ i, i < zs.length → w.cell? (x.add i) = some (.int k (zs.getD i 0))) ∧ ∀ n ∈ zs, (Lit.int k n).wf = true

theorem isB_of {w : World} {a : Option Addr} {len cap : Nat} {zs : List Int} (h : IsRow .u8 w a len cap zs) : IsB w (.slice a len cap) (zs.take len) ∧ (zs.take len).length = len ∧ len ≤ cap := by
  rcases h with ⟨rfl, rfl, rfl, rfl⟩ | ⟨x, rfl, hl, hm, hz, hc, hw⟩
  · exact ⟨IsB.nil w, rfl, Nat.le_refl _⟩
  · have e : (zs.take len).length = len := by simp; omega
    refine ⟨⟨_, cap, by rw [e], by omega, by simp, fun y hy j hj => ?_, fun z hz => ?_⟩, e, hl⟩
    · simp only [Option.some.injEq] at hy
      subst hy
      rw [hc j (by omega), List.getElem?_take_of_lt (by omega)]
      rfl
    · have := hw z (List.mem_of_mem_take hz)
      exact bounds_u8 this

/-- What is left of a slice that is cut to at most m bytes. -/
theorem cut_to {w : World} {a : Option Addr} {len cap : Nat} {zs : List Int} (h : IsRow .u8 w a len cap zs) (m : Nat) (hm : m ≤ len) : ∃ bs, IsB w (.slice a m cap) bs ∧ bs.length = m := by
  obtain ⟨h1, h2, h3⟩ := isB_of h
  exact ⟨_, h1.take m hm, by simp only [List.length_take, h2]; omega⟩

/-- The same, the length named: as the walk reckons it. -/
theorem cut_min {w : World} {a : Option Addr} {len cap : Nat} {zs : List Int} (h : IsRow .u8 w a len cap zs) (k : Nat) (K : Int) (hK : K = (k : Int)) :
    ∃ (m : Nat) (bs : List Int), (∀ (ts : Array TypeId) (t : TypeId) (w : World), (Builtin.min_ ts t #[.int .i64 (len : Int), .int .i64 K]).run Try.prog w = .ok (.int .i64 (m : Int)) w) ∧ IsB w (.slice a m cap) bs ∧ bs.length = m ∧ m ≤ len ∧ m ≤ k ∧ m ≤ cap := by
  obtain ⟨h1, h2, h3⟩ := isB_of h
  refine ⟨min len k, _, fun ts t w => ?_, h1.take (min len k) (by omega), by simp only [List.length_take, h2]; omega, by omega, by omega, by omega⟩
  rw [run_min_int2, hK]
  congr 2
  split <;> omega


/-! ### The walk -/
set_option maxRecDepth 100000 in
set_option maxHeartbeats 4000000 in
theorem walk (n0 : Int) (a0 : Option Addr) (len0 cap0 : Nat) (es0 : List Ed) (a1 : Int) (a2 : Option Addr) (len2 cap2 : Nat) (z2 : List Int) (w : World) (w0 : (Lit.int .i64 n0).wf = true) (i0 : IsE w (.slice a0 len0 cap0) es0) (l0 : es0.length = len0) (m0 : len0 ≤ maxLen) (w1 : (Lit.int .i64 a1).wf = true) (w2 : IsRow .u8 w a2 len2 cap2 z2) :
    Calls Try.prog 9 #[.agg #[.int .i64 n0, .slice a0 len0 cap0], .int .i64 a1, .slice a2 len2 cap2] w fun e w' => e = .returned (.bool true) ∧ Below w.heap.size w w' := by
  obtain ⟨m, ms, hmin, hJ, hM, hq1, hq2, hlc1⟩ := cut_min w2 11 11 rfl
  obtain ⟨hms0, hms1⟩ : (len2 = 0 → ms = []) ∧ (len2 ≠ 0 → 1 ≤ m) := by
    refine ⟨fun h => List.eq_nil_of_length_eq_zero (by omega), fun h => ?_⟩
    have e := hmin #[] 0 w
    rw [run_min_int2] at e
    simp only [Result.ok.injEq, Value.int.injEq, true_and, and_true] at e
    split at e <;> omega
  obtain ⟨r, hcr, hr11⟩ : ∃ r : Nat, (bits .and .i64 a1 65535).tmod 11 = (r : Int) ∧ r < 11 := by
    refine ⟨((a1 % 65536).tmod 11).toNat, ?_, ?_⟩
    · rw [i64_and65535]
      have := Int.tmod_nonneg 11 (show 0 ≤ a1 % 65536 by omega)
      omega
    · have h1 := Int.tmod_nonneg 11 (show 0 ≤ a1 % 65536 by omega)
      have h2 := Int.tmod_lt_of_pos (a1 % 65536) (show (0 : Int) < 11 by omega)
      omega
  have HJ := hide hJ
  have HM := hide hM
  have HMS0 := hide hms0
  have HMS1 := hide hms1
  clear w2 hJ hM hms0 hms1
  obtain ⟨hn0, hn1⟩ := bounds_i64 w0
  subst l0
  unfold maxLen at m0
  go_enter Try.func9, Try.ntmps9
  go_wp2_with fail
  refine (shown_any _).mono ?_
  rintro e w1 ⟨rfl, b1⟩
  have B1 := below_after (Below.refl _ w) b1
  have s1 : w1.heap[w.heap.size]? = some (.cells #[.int .i64 n0, .slice a0 es0.length cap0] 24 (0, 0)) := block_then (heap_alloc_new w _) b1
  have hs1 := (Array.getElem?_eq_some_iff.1 s1).1
  obtain ⟨c10, c11, f1⟩ := cells2 s1
  have hF := few_any n0 _ es0 w1 (i0.below B1)
  have S1 := hide s1
  have HB1 := hide B1
  clear b1 s1 B1
  go_wp2_with fail
  refine hF.mono ?_
  clear hF
  rintro e w2 ⟨ga, gcap, rfl, go2, b2⟩
  have s2 := block_then S1.out b2
  obtain ⟨c20, c21, f2⟩ := cells2 s2
  obtain ⟨fs, hfs⟩ : ∃ fs, fs = es0.take 40 := ⟨_, rfl⟩
  have hfl : fs.length ≤ 40 := by rw [hfs]; exact List.length_take_le _ _
  rw [← hfs] at go2 ⊢
  have S3b := hide (boxed (u0 := .int .i64 n0) (u1 := .slice (some ga) fs.length gcap) s2 (by decide) go2)
  have HB3 := hide (below_box (below_then HB1.out b2) (Nat.le_refl w.heap.size) (.int .i64 n0) (.slice (some ga) fs.length gcap))
  clear c10 c11 f1 s2 b2 go2 hfs
  go_wp2_with fail
  generalize ((w2.setCell ⟨w.heap.size, 0, none⟩ (.int .i64 n0)).setCell ⟨w.heap.size, 1, none⟩ (.slice (some ga) fs.length gcap)) = w3 at S3b HB3 ⊢
  obtain ⟨s3, o3⟩ := S3b.out
  obtain ⟨c30, c31, f3⟩ := cells2 s3
  have S3 := hide s3
  have O3 := hide o3
  clear s3 o3 S3b c20 c21 f2 S1 HB1
  cases hr : rightB n0 fs with
  | false =>
    refine (encode_no n0 (by omega) _ fs w3 O3.out.isE (by omega) hr).mono ?_
    rintro e w4 ⟨rfl, b4⟩
    go_wp2
    go_ret
    exact ⟨rfl, below_then HB3.out b4⟩
  | true =>
    refine (encode_go n0 _ fs w3 O3.out.isE hr).mono ?_
    rintro e w4 ⟨g4, cap4, rfl, o4, b4⟩
    have hgl := graphB_length n0 fs
    have hdr := dec_right n0 fs O3.out.2 hr
    obtain ⟨bs, hbs⟩ : ∃ bs, bs = graphB n0 fs := ⟨_, rfl⟩
    rw [← hbs] at o4 hgl hdr ⊢
    have HB4 := hide (below_then HB3.out b4)
    have HDR := hide hdr
    have HGL := hide hgl
    have hb0 : 4 ≤ bs.length := by omega
    have hb1 : bs.length ≤ 484 := by omega
    have hcap := o4.len_le
    obtain ⟨q, hq⟩ : ∃ q : Nat, q = bs.length - (1 + r) := ⟨_, rfl⟩
    have hcut : max 0 ((bs.length : Int) - (1 + (r : Int))) = (q : Int) := by omega
    have hqc : q ≤ cap4 := by omega
    have hqb : q ≤ bs.length := by omega
    have D1 := decode_any _ _ w4 (o4.isB.take q hqb) (by simp; omega)
    rw [dec_form (bs.take q) (by simp only [List.length_take, Nat.min_eq_left hqb]; omega)] at D1
    simp only [List.length_take, Nat.min_eq_left hqb] at D1
    have HD1 := hide D1
    have HQ := hide hq
    clear hbs b4 hdr hgl D1 hq hr
    go_wp2_with fail
    refine HD1.out.mono ?_
    rintro e w5 ⟨v5, rfl, i5, b5⟩
    obtain ⟨a5, cap5, rfl, _⟩ := i5.form
    have O5 := hide (o4.below b5)
    have HB5 := hide (below_then HB4.out b5)
    clear i5 b5 o4 HD1
    have b6 : Below w5.heap.size w5 (w5.alloc (.cells #[.int .i64 0, .slice a5 0 cap5] 24)) := (Below.refl _ w5).alloc (Nat.le_refl _) _
    have B6 := hide b6
    have e6 := OwnB.empty (w5.alloc (.cells #[.int .i64 0, .slice a5 0 cap5] 24)) w5.heap.size (by simp)
    rw [World.size_alloc] at e6
    have E6 : Hid (OwnB w5.heap.size ((w5.alloc (.cells #[.int .i64 0, .slice a5 0 cap5] 24)).alloc (.cells #[] 5)).drew (w5.heap.size + 1) 0 []) := e6
    have b7 : Below w5.heap.size w5 ((w5.alloc (.cells #[.int .i64 0, .slice a5 0 cap5] 24)).alloc (.cells #[] 5)).drew := (b6.alloc b6.size _).drew
    have B7 := hide b7
    have X7 := hide (O5.out.below b7).isB
    clear b6 e6 b7
    have hm0 : (0 : Int) ≤ (m : Int) := by omega
    have hmc : (m : Int) ≤ (cap2 : Int) := by omega
    go_wp2
    go_region_held_law (fun _ => True) (trivial) (first
      | (refine step_appendB _ ?_ (.tmp 49) (.tmp 50) ?_ w5.heap.size (w5.heap.size + 1) 0 [] bs (.slice (some ⟨g4, 0, none⟩) bs.length cap4) ?_ ?_ ?_ ?_ ?_ ?_ ?_; rfl; rfl; rfl; exact E6.out; rfl; exact X7.out; (simp; omega); exact B7.out.size; intro g8 cap8 w8 o8 b8; have o8' := hide o8; have B8 := hide (B7.out.trans b8); clear o8 b8)
      | (refine step_appendB _ ?_ (.tmp 51) (.tmp 56) ?_ w5.heap.size g8 cap8 ([] ++ bs) ms (.slice a2 m cap2) ?_ ?_ ?_ ?_ ?_ ?_ ?_; rfl; rfl; (first | rfl | simp [Act.eval, Act.put]); exact o8'.out; rfl; exact HJ.out.below (below_then HB5.out B8.out); (have := HM.out; simp; omega); exact B8.out.size; intro g9 cap9 w9 o9 b9))
    all_goals
      have o9' : OwnB w5.heap.size w9 g9 cap9 (bs ++ ms) := by simpa using o9
      have i9 := o9'.isB
      rw [List.length_append] at i9
      have HB9 := hide (below_then HB5.out (B8.out.trans b9))
      have hml := HM.out
      clear o9 o9' b9 o8' hmin hcr hcut
      by_cases hl2 : len2 = 0
      · have D2 := decode_any _ _ w9 i9 (by simp; omega)
        rw [show dec (bs ++ ms) = (n0, fs, 0, 0) by rw [HMS0.out hl2, List.append_nil, HDR.out]] at D2
        have ht : ((len2 : Int) == 0) = true := by simp [hl2]
        have HL2 := hide hl2
        clear hl2 i9 hml
        go_wp2_with fail
        refine D2.mono ?_
        clear D2
        rintro e wA ⟨vA, rfl, iA, bA⟩
        obtain ⟨aA, capA, rfl, _⟩ := iA.form
        have HBA := hide (below_then HB9.out bA)
        clear iA bA
        go_wp2
        go_ret
        exact ⟨by simp, HBA.out.alloc HBA.out.size _⟩
      · have D2 := decode_any _ _ w9 i9 (by simp; omega)
        have h1 := HMS1.out hl2
        have hgl := HGL.out
        rw [dec_form (bs ++ ms) (by rw [List.length_append]; omega), List.length_append] at D2
        have ht : ((len2 : Int) == 0) = false := by simp [hl2]
        clear hl2 i9 hml hgl
        go_wp2_with fail
        refine D2.mono ?_
        clear D2
        rintro e wA ⟨vA, rfl, iA, bA⟩
        obtain ⟨aA, capA, rfl, _⟩ := iA.form
        have HBA := hide (below_then HB9.out bA)
        clear iA bA
        go_wp2
        go_ret
        exact ⟨by simp, HBA.out.alloc HBA.out.size _⟩

/-! ### The row's step -/
set_option maxRecDepth 100000 in
theorem lifted (os : Os) (started : os.Started) (H : Type) (enc : TypeId × Value → H) :
    ReturnsInHanded {} Try.checked os 9 .any (Rows.edgesCutSpec.pre6 enc Try.prog Try.f9 Rows.edgesCutRow.domain false) (Rows.edgesCutSpec.post enc Try.prog Try.f9 false true false false) := by
  refine returnsInHanded_of_change (C := Try.checked) own started (by kernel_rfl) Try.func9
    (ChangeSpec.witness6 (enc := enc) (C := Try.checked) false ⟨#[], #[.agg #[.int .i64 0, .slice none 0 0], .int .i64 0, .slice none 0 0], []⟩ 8 (by kernel_rfl) (by kernel_rfl) (by kernel_rfl) (by kernel_rfl)) ?_
  intro W base args ds gs before hval0 hW hcnd _
  have hval : ∀ (j : Nat) t v, Try.f9.params[j]? = some t → args[j]? = some v → Value.okWide Try.prog W .any base t v := hval0
  have hW' := hW
  obtain ⟨p, q, hA0, hV, rfl, hfz, hnd⟩ := hW
  have hA : DataW.TrodAll enc Try.prog W 0 (fun _ => true) true Try.f9.params.toList args.toList ds p := hA0
  rw [Try.params9] at hA hval
  obtain ⟨v0, vs0, d0, ds0, p0, q0, hargs, rfl, rfl, h0, r0⟩ := trodAll_cons hA
  obtain ⟨v1, vs1, d1, ds1, p1, q1, rfl, rfl, rfl, h1, r1⟩ := trodAll_cons r0
  obtain ⟨v2, vs2, d2, ds2, p2, q2, rfl, rfl, rfl, h2, r2⟩ := trodAll_cons r1
  obtain ⟨rfl, rfl, rfl⟩ := trodAll_nil r2
  obtain rfl : args = #[v0, v1, v2] := by cases args; simp_all
  obtain ⟨rfl, rfl⟩ := trodVars_none hV
  have k0 := h0
  have lt0 : ∀ x ∈ p0, x.block < W.heap.size := by obtain ⟨m, hm⟩ := k0; exact DataW.trod_lt m _ _ _ hm
  obtain ⟨n0, a0, len0, cap0, es0, rfl, w0, i0, l0, m0⟩ := graphIn (hval 0 24 v0 rfl rfl) h0
  obtain ⟨a1, rfl, rfl, rfl, w1⟩ := open_int Try.underlying3 (hval 1 3 v1 rfl rfl) h1
  obtain ⟨a2, len2, cap2, rfl⟩ := okWide_slice Try.underlying27 (hval 2 27 v2 rfl rfl)
  have k2 := h2
  have lt2 : ∀ x ∈ p2, x.block < W.heap.size := by obtain ⟨m, hm⟩ := k2; exact DataW.trod_lt m _ _ _ hm
  obtain ⟨z2, w2⟩ : ∃ zs, IsRow .u8 W a2 len2 cap2 zs := by
    obtain ⟨fuel, hf⟩ := h2
    rcases open_ints Try.underlying27 Try.underlying5 (by kernel_rfl) hf with ⟨hcs, _⟩ | ⟨x, l, c, zs, hcs, _, hl, hm, hz, _, hcell, hwz⟩
    · simp [Value.cells] at hcs
      obtain ⟨rfl, rfl, rfl⟩ := hcs
      exact ⟨[], .inl ⟨rfl, rfl, rfl, rfl⟩⟩
    · simp [Value.cells] at hcs
      obtain ⟨rfl, rfl, rfl⟩ := hcs
      exact ⟨zs, .inr ⟨_, rfl, hl, hm, by simpa using hz, hcell, hwz⟩⟩
  clear hA0 hval0
  refine (walk n0 a0 len0 cap0 es0 a1 a2 len2 cap2 z2 W w0 i0 l0 m0 w1 w2).mono fun e W' ⟨he, bel⟩ => ?_
  subst he
  exact ⟨_, rfl, _, _, _, [], _, [], hW', trodAll_mk1 (shut_bool Try.underlying4 _), (trodAll_cons_mk (Below.trod laidOut (by kernel_rfl) (of_decide_eq_true (by kernel_rfl)) k0 bel lt0) (trodAll_cons_mk (shut_int Try.underlying3 w1) (trodAll_cons_mk (Below.trod laidOut (by kernel_rfl) (of_decide_eq_true (by kernel_rfl)) k2 bel lt2) trodAll_mk0))), rfl, bel.frame _, fun h => by cases h⟩

theorem over : Rows.edgesCutRow.holds Try.pinned (OpenSpec.ofChange Rows.edgesCutSpec) :=
  OpenClaim.holds_of_wide 9 Try.f9 rfl rfl rfl rfl rfl rfl rfl ⟨rfl, rfl, rfl, rfl, rfl⟩ rfl rfl rfl rfl rfl (by kernel_rfl) Try.func9 (by kernel_rfl)
    (of_decide_eq_true (by kernel_rfl)) (by unfold Func.isWrapper; first | (rw [if_pos (by decide +kernel)]; kernel_rfl) | (rw [if_neg (by decide +kernel)]; exact ⟨rfl, rfl⟩))
    (fun os started H enc _ => lifted os started H enc)

/-- The statement. -/
theorem proved : Rows.EdgesCutSaid := over
#print axioms proved
end Go.Proofs.Ytjkdnibfppjolaa.edgesCut
