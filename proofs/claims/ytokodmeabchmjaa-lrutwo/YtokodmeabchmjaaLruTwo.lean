/-
  Proved: for all two slices of numbers, LruTwo returns true and leaves them as they were (two caches have nothing to do with each other: the first one as if it were alone). No condition.
-/
import Derived.WalkKit
import Derived.ProofKit
import Derived.OpenShut
import Derived.ShutString
import Derived.Test.YtokodmeabchmjaaLThree
namespace Go.Proofs.Ytokodmeabchmjaa.lruTwo
open Go.ChangeShapes Go.WideShapes Go.ChangeAt Go.RowKit
open Go.ChangeMaps (open_string shut_string)
set_option linter.unusedVariables false

theorem own : ownKnob Try.prog.godebug = none := by kernel_rfl
theorem laidOut : laidOutB Try.prog = true := by kernel_rfl

/-- WHAT THE WALK IS TOLD OF A SLICE OF INTEGERS THAT CAME IN. -/
def IsRow (k : IntKind) (w : World) (a : Option Addr) (len cap : Nat) (zs : List Int) : Prop :=
  (a = none ∧ len = 0 ∧ cap = 0 ∧ zs = []) ∨
  ∃ x, a = some x ∧ len ≤ cap ∧ cap ≤ maxLen ∧ zs.length = cap ∧ (∀ i, i < zs.length → w.cell? (x.add i) = some (.int k (zs.getD i 0))) ∧ ∀ n ∈ zs, (Lit.int k n).wf = true

/-- An element of a slice of numbers that came in. -/
theorem ints_at {w : World} {a : Option Addr} {len cap : Nat} {zs : List Int} (h : IsRow .i64 w a len cap zs) (i : Nat) (hi : i < len) : ∃ b off, a = some ⟨b, off, none⟩ ∧ (∀ w', Below w.heap.size w w' → w'.cell? ⟨b, off + i, none⟩ = some (.int .i64 (zs.getD i 0))) ∧ -9223372036854775808 ≤ zs.getD i 0 ∧ zs.getD i 0 ≤ 9223372036854775807 := by
  rcases h with ⟨rfl, rfl, rfl, rfl⟩ | ⟨x, rfl, hl, hm, hz, hc, hw⟩
  · omega
  · obtain ⟨b, off, spot⟩ := x
    have h1 := hc i (by omega)
    have hspot : spot = none := by simpa [Addr.add] using World.cell?_spot (hc 0 (by omega))
    subst hspot
    have e : (Addr.add ⟨b, off, none⟩ i) = ⟨b, off + i, none⟩ := by
      unfold Addr.add
      split
      · simp_all
      · rfl
    rw [e] at h1
    refine ⟨b, off, rfl, fun w' hb => ?_, ?_⟩
    · exact (Kept.of_below (fp := []) hb).cell h1 (by simp)
    · have hmem : zs.getD i 0 ∈ zs := by
        rw [List.getD_eq_getElem?_getD, List.getElem?_eq_getElem (by omega)]
        exact List.getElem_mem _
      exact bounds_i64 (hw _ hmem)
section
variable {w0 w : World} {x y z : Told}
/-- Three new ones. -/
theorem three {w1 w2 w3 : World} {p q r : Nat} {fp fq fr : List Nat} (b0 : Below w0.heap.size w0 w) (c1 : Ck kI w1 fp p 5 0 []) (b1 : Below w.heap.size w w1) (f1 : ∀ x ∈ fp, w.heap.size ≤ x)
    (c2 : Ck kI w2 fq q 5 0 []) (b2 : Below w1.heap.size w1 w2) (f2 : ∀ x ∈ fq, w1.heap.size ≤ x) (c3 : Ck kI w3 fr r 5 0 []) (b3 : Below w2.heap.size w2 w3) (f3 : ∀ x ∈ fr, w2.heap.size ≤ x) :
    L3 w0 w3 ⟨p, 0, []⟩ ⟨q, 0, []⟩ ⟨r, 0, []⟩ := by
  have s0 := b0.size
  have s1 := b1.size
  have s2 := b2.size
  refine ⟨fp, fq, fr, (c1.below b2).below b3, c2.below b3, c3, fun b h1 h2 => ?_, fun b h1 h2 => ?_, fun b h1 h2 => ?_, fun b hb => ?_, below_then (below_then (below_then b0 b1) b2) b3⟩
  · have := c1.lt b h1
    have := f2 b h2
    omega
  · have := c2.lt b h1
    have := f3 b h2
    omega
  · have := c1.lt b h2
    have := f3 b h1
    omega
  · rcases hb with h | h | h
    · have := f1 b h; omega
    · have := f2 b h; omega
    · have := f3 b h; omega
end

/-- What is known of the three between two rounds. -/
structure Inv (w0 w : World) (x y z : Told) (i : Nat) : Prop where
  at_ : L3 w0 w x y z
  same : z.l = x.l
  len : x.l.length ≤ 5
  nd : (x.l.map fun u => u.1).Nodup
  nx : x.n ≤ i
  ny : y.n ≤ i
  nz : z.n ≤ i
  pins : PinsLe i y.l


/-! ### The walk -/
set_option maxRecDepth 100000 in
set_option maxHeartbeats 4000000 in
theorem walk (a0 : Option Addr) (len0 cap0 : Nat) (z0 : List Int) (a1 : Option Addr) (len1 cap1 : Nat) (z1 : List Int) (w : World) (w0 : IsRow .i64 w a0 len0 cap0 z0) (w1 : IsRow .i64 w a1 len1 cap1 z1) :
    Calls Try.prog 9 #[.slice a0 len0 cap0, .slice a1 len1 cap1] w fun e w' => e = .returned (.bool true) ∧ Below w.heap.size w w' := by
  have SH := hide (shown_any w)
  have HZ := hide w0
  have HY := hide w1
  clear w0 w1
  go_enter Try.func9, Try.ntmps9
  go_wp2_with (go_at_call 10; refine SH.out.mono ?_; rintro e w1 ⟨rfl, b1'⟩; have B1 := hide b1'; clear b1')
  clear SH
  refine (I.new_any 5 w1).mono ?_
  rintro e w2 ⟨p, fp, rfl, c2, b2, f2⟩
  have C2 := hide (And.intro c2 (And.intro b2 f2))
  clear c2 b2 f2
  go_wp2_with fail
  refine (I.new_any 5 w2).mono ?_
  rintro e w3 ⟨q, fq, rfl, c3, b3, f3⟩
  have C3 := hide (And.intro c3 (And.intro b3 f3))
  clear c3 b3 f3
  go_wp2_with fail
  refine (I.new_any 5 w3).mono ?_
  rintro e w4 ⟨r, fr, rfl, c4, b4, f4⟩
  have D4 := hide (three B1.out C2.out.1 C2.out.2.1 C2.out.2.2 C3.out.1 C3.out.2.1 C3.out.2.2 c4 b4 f4)
  clear c4 b4 f4 C2 C3
  go_wp2_with fail
  go_loopw [9] (fun v wr => ∃ (i : Nat) (nx ny nz : Nat) (l ly : List (Int × Nat)), i ≤ len0 ∧ i ≤ 60 ∧ v = .int .i64 i ∧ Hid (Inv w wr ⟨p, nx, l⟩ ⟨q, ny, ly⟩ ⟨r, nz, l⟩ i)) (fun v _ => 60 - numOf v)
  case atStart => exact ⟨0, 0, 0, 0, [], [], Nat.zero_le _, Nat.zero_le _, rfl, ⟨D4.out, rfl, Nat.zero_le _, by simp, Nat.le_refl _, Nat.le_refl _, Nat.le_refl _, fun x hx => by simp at hx⟩⟩
  case round =>
    obtain ⟨i, nx, ny, nz, l, ly, h1, h2, rfl, HI⟩ := hrel
    by_cases hjl : i < len0 ∧ i < 60
    · obtain ⟨hja, hjb⟩ := hjl
      have hja2 : (i : Int) < (len0 : Int) := by omega
      have hjb2 : (i : Int) < 60 := by omega
      obtain ⟨b, off, rfl, hc, hz0, hz1⟩ := ints_at HZ.out i hja
      have HC := hide hc
      have hc0 := hc _ HI.out.at_.bel
      generalize z0.getD i 0 = k at *
      have KO := hide (show kI.ok k from ⟨hz0, hz1⟩)
      have hlen := useA_len HI.out.len HI.out.nd k
      have U1 := hide (HI.out.at_.use (by have := HI.out.nx; simp only at *; omega) k KO.out)
      clear hc hz0 hz1
      go_wp2_with fail
      refine U1.out.mono ?_
      rintro e w5 ⟨⟨ra, rb, rc, rfl⟩, d5⟩
      have hc1 := HC.out _ d5.bel
      have D5 := hide d5.rot.rot
      have U2 := hide (D5.out.use (by have := HI.out.nz; simp only at *; omega) k KO.out)
      clear d5 U1 D5
      go_wp2_with fail
      refine U2.out.mono ?_
      rintro e w6 ⟨⟨rd, re, rf, rfl⟩, d6⟩
      have D6 := hide d6.rot.rot
      clear d6 U2 hc1
      by_cases hb : i < len1
      · have hb2 : (i : Int) < (len1 : Int) := by omega
        obtain ⟨b2, off2, rfl, hd, hy0, hy1⟩ := ints_at HY.out i hb
        have HDD := hide hd
        have hd0 := hd _ D6.out.bel
        generalize z1.getD i 0 = kb at *
        have KB := hide (show kI.ok kb from ⟨hy0, hy1⟩)
        have P1 := HI.out.pins.use 5 kb
        have P2 := P1.pin kb
        have P3 := P2.unpin kb
        have HP := hide (And.intro P1 (And.intro P2 P3))
        have U3 := hide (D6.out.use (by have := HI.out.ny; simp only at *; omega) kb KB.out)
        clear hd hy0 hy1 P1 P2 P3 D6
        go_wp2_with fail
        refine U3.out.mono ?_
        rintro e w7 ⟨⟨rg, rh, ri, rfl⟩, d7⟩
        have hd1 := HDD.out _ d7.bel
        have U4 := hide (d7.pin kb KB.out (fun n hn => Nat.le_trans (HP.out.1.look hn) (by omega)))
        clear d7 U3
        go_wp2_with fail
        refine U4.out.mono ?_
        rintro e w8 ⟨⟨rj, rfl⟩, d8⟩
        have hd2 := HDD.out _ d8.bel
        have U5 := hide (d8.unpin kb KB.out (fun n hn => Nat.le_trans (HP.out.2.1.look hn) (by omega)))
        clear d8 U4
        go_wp2_with fail
        refine U5.out.mono ?_
        rintro e w9 ⟨⟨rk, rfl⟩, d9⟩
        have D9 := hide d9.rot.rot
        clear d9 U5
        go_wp2_with fail
        go_roundw
        case rel => exact ⟨i + 1, nx + 1, ny + 1, nz + 1, _, _, by omega, by omega, by go_num, ⟨D9.out, rfl, hlen.1, hlen.2, Nat.succ_le_succ HI.out.nx, Nat.succ_le_succ HI.out.ny, Nat.succ_le_succ HI.out.nz, HP.out.2.2⟩⟩
        case measure => simp [numOf]; omega
      · have hb2 : ¬ (i : Int) < (len1 : Int) := by omega
        go_wp2_with fail
        go_roundw
        case rel => exact ⟨i + 1, nx + 1, ny, nz + 1, _, _, by omega, by omega, by go_num, ⟨D6.out.rot.rot, rfl, hlen.1, hlen.2, Nat.succ_le_succ HI.out.nx, Nat.le_succ_of_le HI.out.ny, Nat.succ_le_succ HI.out.nz, HI.out.pins.mono (Nat.le_succ _)⟩⟩
        case measure => simp [numOf]; omega
    · have hex : ((i : Int) < (len0 : Int) ∧ ¬ (i : Int) < 60) ∨ ¬ (i : Int) < (len0 : Int) := by omega
      have K1 := hide (HI.out.at_.keys (Nat.le_trans HI.out.len (by omega)))
      have HL := hide HI.out.len
      clear hjl
      rcases hex with ⟨h4, h5⟩ | h4
      all_goals
        go_wp2_with fail
        refine K1.out.mono ?_
        rintro e w5 ⟨v, rfl, o5, d5, b5⟩
        obtain ⟨va, vc, rfl⟩ := I.row_len o5
        have O5 := hide o5
        have D5 := hide d5.rot.rot
        have K2 := hide (D5.out.keys (Nat.le_trans HL.out (by omega)))
        clear o5 d5 b5
        go_wp2_with fail
        refine K2.out.mono ?_
        rintro e w6 ⟨v, rfl, o6, d6, b6⟩
        obtain ⟨ua, uc, rfl⟩ := I.row_len o6
        have O6 := hide o6
        have B6 := hide d6.bel
        have O7 := hide (ownsRow_kept O5.out (Kept.of_below (fp := []) b6) (by simp))
        clear o6 d6 b6
        go_wp2_with fail
        go_loopw [12] (fun v wr => ∃ j : Nat, j ≤ l.length ∧ v = .int .i64 j ∧ Hid (Kept [] w6 wr)) (fun v _ => l.length - numOf v)
        case atStart => exact ⟨0, Nat.zero_le _, rfl, Kept.refl _ _⟩
        case round =>
          obtain ⟨j, hj, rfl, KW⟩ := hrel
          have hl5 : l.length ≤ 5 := HL.out
          by_cases hjn : j < l.length
          · have hj2 : (j : Int) < (l.length : Int) := by omega
            obtain ⟨g1, rfl, _, hg1⟩ := I.row_at O7.out hjn
            obtain ⟨g2, rfl, _, hg2⟩ := I.row_at O6.out hjn
            have e1 : (l.map fun y => kI.enc y.1)[j]? = some (.int .i64 (l[j]).1) := by simp [hjn]
            rw [e1] at hg1
            rw [show (List.map (fun y : Int × Nat => kI.enc y.1) l)[j]? = some (.int .i64 (l[j]).1) from e1] at hg2
            have q1 := KW.out.cell hg1 (by simp)
            have q2 := KW.out.cell hg2 (by simp)
            generalize (l[j]).1 = t at q1 q2
            clear hg1 hg2 e1
            go_wp2
            go_quiet (fail)
            go_wp2
            go_roundw
            case rel => exact ⟨j + 1, by omega, by go_num, by first | exact KW | exact KW.out.drewN _ | exact KW.out.drew⟩
            case measure => simp [numOf]; omega
          · obtain rfl : j = l.length := by omega
            have hj2 : ¬ (l.length : Int) < (l.length : Int) := by omega
            go_wp2
            go_ret
            exact ⟨rfl, B6.out.trans (KW.out.below B6.out.size (by simp))⟩

/-! ### The row's step -/
set_option maxRecDepth 100000 in
theorem lifted (os : Os) (started : os.Started) (H : Type) (enc : TypeId × Value → H) :
    ReturnsInHanded {} Try.checked os 9 .any (Rows.lruTwoSpec.pre6 enc Try.prog Try.f9 Rows.lruTwoRow.domain false) (Rows.lruTwoSpec.post enc Try.prog Try.f9 false true false false) := by
  refine returnsInHanded_of_change (C := Try.checked) own started (by kernel_rfl) Try.func9
    (ChangeSpec.witness6 (enc := enc) (C := Try.checked) false ⟨#[], #[.slice none 0 0, .slice none 0 0], []⟩ 8 (by kernel_rfl) (by kernel_rfl) (by kernel_rfl) (by kernel_rfl)) ?_
  intro W base args ds gs before hval0 hW hcnd _
  have hval : ∀ (j : Nat) t v, Try.f9.params[j]? = some t → args[j]? = some v → Value.okWide Try.prog W .any base t v := hval0
  have hW' := hW
  obtain ⟨p, q, hA0, hV, rfl, hfz, hnd⟩ := hW
  have hA : DataW.TrodAll enc Try.prog W 0 (fun _ => true) true Try.f9.params.toList args.toList ds p := hA0
  rw [Try.params9] at hA hval
  obtain ⟨v0, vs0, d0, ds0, p0, q0, hargs, rfl, rfl, h0, r0⟩ := trodAll_cons hA
  obtain ⟨v1, vs1, d1, ds1, p1, q1, rfl, rfl, rfl, h1, r1⟩ := trodAll_cons r0
  obtain ⟨rfl, rfl, rfl⟩ := trodAll_nil r1
  obtain rfl : args = #[v0, v1] := by cases args; simp_all
  obtain ⟨rfl, rfl⟩ := trodVars_none hV
  obtain ⟨a0, len0, cap0, rfl⟩ := okWide_slice Try.underlying37 (hval 0 37 v0 rfl rfl)
  have k0 := h0
  have lt0 : ∀ x ∈ p0, x.block < W.heap.size := by obtain ⟨m, hm⟩ := k0; exact DataW.trod_lt m _ _ _ hm
  obtain ⟨z0, w0⟩ : ∃ zs, IsRow .i64 W a0 len0 cap0 zs := by
    obtain ⟨fuel, hf⟩ := h0
    rcases open_ints Try.underlying37 Try.underlying3 (by kernel_rfl) hf with ⟨hcs, _⟩ | ⟨x, l, c, zs, hcs, _, hl, hm, hz, _, hcell, hwz⟩
    · simp [Value.cells] at hcs
      obtain ⟨rfl, rfl, rfl⟩ := hcs
      exact ⟨[], .inl ⟨rfl, rfl, rfl, rfl⟩⟩
    · simp [Value.cells] at hcs
      obtain ⟨rfl, rfl, rfl⟩ := hcs
      exact ⟨zs, .inr ⟨_, rfl, hl, hm, by simpa using hz, hcell, hwz⟩⟩
  obtain ⟨a1, len1, cap1, rfl⟩ := okWide_slice Try.underlying37 (hval 1 37 v1 rfl rfl)
  have k1 := h1
  have lt1 : ∀ x ∈ p1, x.block < W.heap.size := by obtain ⟨m, hm⟩ := k1; exact DataW.trod_lt m _ _ _ hm
  obtain ⟨z1, w1⟩ : ∃ zs, IsRow .i64 W a1 len1 cap1 zs := by
    obtain ⟨fuel, hf⟩ := h1
    rcases open_ints Try.underlying37 Try.underlying3 (by kernel_rfl) hf with ⟨hcs, _⟩ | ⟨x, l, c, zs, hcs, _, hl, hm, hz, _, hcell, hwz⟩
    · simp [Value.cells] at hcs
      obtain ⟨rfl, rfl, rfl⟩ := hcs
      exact ⟨[], .inl ⟨rfl, rfl, rfl, rfl⟩⟩
    · simp [Value.cells] at hcs
      obtain ⟨rfl, rfl, rfl⟩ := hcs
      exact ⟨zs, .inr ⟨_, rfl, hl, hm, by simpa using hz, hcell, hwz⟩⟩
  clear hA0 hval0
  refine (walk a0 len0 cap0 z0 a1 len1 cap1 z1 W w0 w1).mono fun e W' ⟨he, bel⟩ => ?_
  subst he
  exact ⟨_, rfl, _, _, _, [], _, [], hW', trodAll_mk1 (shut_bool Try.underlying4 _), (trodAll_cons_mk (Below.trod laidOut (by kernel_rfl) (of_decide_eq_true (by kernel_rfl)) k0 bel lt0) (trodAll_cons_mk (Below.trod laidOut (by kernel_rfl) (of_decide_eq_true (by kernel_rfl)) k1 bel lt1) trodAll_mk0)), rfl, bel.frame _, fun h => by cases h⟩

theorem over : Rows.lruTwoRow.holds Try.pinned (OpenSpec.ofChange Rows.lruTwoSpec) :=
  OpenClaim.holds_of_wide 9 Try.f9 rfl rfl rfl rfl rfl rfl rfl ⟨rfl, rfl, rfl, rfl, rfl⟩ rfl rfl rfl rfl rfl (by kernel_rfl) Try.func9 (by kernel_rfl)
    (of_decide_eq_true (by kernel_rfl)) (by unfold Func.isWrapper; first | (rw [if_pos (by decide +kernel)]; kernel_rfl) | (rw [if_neg (by decide +kernel)]; exact ⟨rfl, rfl⟩))
    (fun os started H enc _ => lifted os started H enc)

/-- The statement. -/
theorem proved : Rows.LruTwoSaid := over
#print axioms proved
end Go.Proofs.Ytokodmeabchmjaa.lruTwo
