/-
  Proved: for every room and all steps, DiskTells returns true and leaves them as they were (a disk does what the document says: every answer, and behind each step Down, Ops, Used and Room). No condition.
-/
import Derived.WalkKit
import Derived.ProofKit
import Derived.OpenShut
import Derived.ShutString
import Derived.Deep.Grids
import Derived.Deep.RegionHeld
import Derived.Test.YtahhokhhgamelaaDTS
namespace Go.Proofs.Ytahhokhhgamelaa.diskTells
open Go.ChangeShapes Go.WideShapes Go.ChangeAt Go.RowKit
open Go.ChangeMaps (open_string shut_string)
set_option linter.unusedVariables false

theorem own : ownKnob Try.prog.godebug = none := by kernel_rfl
theorem laidOut : laidOutB Try.prog = true := by kernel_rfl


/-! ### The walk -/
set_option maxRecDepth 1000000 in
set_option maxHeartbeats 4000000 in
theorem walk (a0 : Int) (a1 : Option Addr) (len1 cap1 : Nat) (ss1 : List St) (w : World) (w0 : (Lit.int .i64 a0).wf = true) (i1 : IsS w (.slice a1 len1 cap1) ss1) (l1 : ss1.length = len1) (m1 : len1 ≤ maxLen) :
    Calls Try.prog 3 #[.int .i64 a0, .slice a1 len1 cap1] w fun e w' => e = .returned (.bool true) ∧ Below w.heap.size w w' := by
  subst l1
  have HI := hide i1
  have SH := hide (shown_any w)
  obtain ⟨R, hR, hmin⟩ : ∃ R : Int, R ≤ 1000 ∧ ∀ (ts : Array TypeId) (t : TypeId) (w : World), (Builtin.min_ ts t #[.int .i64 a0, .int .i64 1000]).run Try.prog w = .ok (.int .i64 R) w := ⟨min a0 1000, by omega, fun ts t w => by rw [run_min_int2]; congr 2; split <;> omega⟩
  clear i1 w0
  go_enter Try.func3, Try.ntmps3
  go_wp2_with fail
  refine SH.out.mono ?_
  rintro e w1 ⟨rfl, b1⟩
  have B1 := hide b1
  clear b1
  go_wp2_with fail
  refine (lone_new R hR B1.out).mono ?_
  rintro e w2 ⟨p, rfl, d2⟩
  have D2 := hide d2
  clear d2
  go_wp2_with fail
  refine D2.out.duo.mono ?_
  rintro e w3 ⟨r, rfl, h3⟩
  have H3 := hide h3
  clear h3 D2
  go_wp2
  go_loopw [8, 9, 10, 11, 12, 13, 14, 15, 16, 17, 18, 19] (fun i _ _ _ _ _ _ _ _ _ _ _ wr => ∃ (k : Nat) (l : List Ab) (s : Ds), k ≤ ss1.length ∧ k ≤ 80 ∧ i = .int .i64 k ∧ s.ops ≤ k ∧ Hid (Half w wr p r [] (l, s) (l, s))) (fun i _ _ _ _ _ _ _ _ _ _ _ _ => 80 - (intOf i).toNat)
  case atStart => exact ⟨0, [], S0 R, Nat.zero_le _, by omega, rfl, by simp [S0], H3⟩
  case round =>
    obtain ⟨k, l, s, hk, hk80, rfl, hops, H⟩ := hrel
    by_cases hlt : k < ss1.length
    · by_cases hlt2 : k < 80
      · obtain ⟨b, off, ea, r0, r1, r2, r3, r4, r5, r6⟩ := HI.out.read H.out.bel k hlt
        have SO := HI.out.ok k hlt
        obtain ⟨S, hS⟩ : ∃ S, S = ss1[k] := ⟨_, rfl⟩
        rw [← hS] at r0 r1 r2 r3 r4 r5 r6 SO
        obtain ⟨kind, at_, n, nm, ot, da, dn, dc, bs, ka, kn, kc, ks⟩ := S
        simp only at r0 r1 r2 r3 r4 r5 r6
        subst ea
        obtain ⟨dm, km, cs, js, hF, hrow, hcl, hd60, hkeep, hj60⟩ := SO.cut
        have HK0 := hide SO.k0
        have HA0 := hide SO.a0
        have HN0 := hide SO.n0
        have HNM := hide SO.nml
        have HOT := hide SO.otl
        have HF := hide hF
        have HROW := hide (And.intro hrow (And.intro hcl hd60))
        have HKEEP := hide (And.intro hkeep hj60)
        clear hF hrow hcl hd60 hkeep hj60 SO hS
        go_wp2_with fail
        refine (HF.out _).mono ?_
        rintro e w4 ⟨rfl, b4⟩
        obtain ⟨W5, hW5⟩ : ∃ W5, W5 = w4.alloc (.cells #[.int .i64 kind, .int .i64 at_, .int .i64 n, .string nm, .string ot, .slice da dm dc, .slice ka km kc] 31) := ⟨_, rfl⟩
        obtain ⟨bx, hbx⟩ : ∃ bx, bx = w4.heap.size := ⟨_, rfl⟩
        have hb5 : W5.heap[bx]? = some (.cells #[.int .i64 kind, .int .i64 at_, .int .i64 n, .string nm, .string ot, .slice da dm dc, .slice ka km kc] 31) := by rw [hW5, hbx]; exact heap_alloc_new w4 _
        have h5 : Half w W5 p r [bx] (l, s) (l, s) := by
          refine (H.out.new (hs' := []) b4 (by simp)).new (hs' := [bx]) (by rw [hW5]; exact (Below.refl _ w4).alloc (Nat.le_refl _) _) (fun x hx => .inr ?_)
          simp only [List.mem_singleton] at hx
          subst hx
          exact ⟨by omega, (Array.getElem?_eq_some_iff.1 hb5).1⟩
        have H5 := hide (And.intro h5 hb5)
        obtain ⟨z0, z1, z2, z3, z4, z5, z6⟩ := box7 hb5
        have HW := hide (And.intro hW5 hbx)
        clear h5 hb5 r0 r1 r2 r3 r4 r5 r6 b4 H hW5 hbx
        go_upto_block 2 with fail
        go_cut [10, 11] (fun s10 s11 wx => ∃ (ev : Int) (l2 : List Ab) (s2 : Ds), s10 = .int .i64 ev ∧ s11 = .int .i64 ev ∧ s2.ops ≤ s.ops + 1 ∧ Hid (Half w wx p r [] (l2, s2) (l2, s2)))
        case first =>
          have hw := HW.out
          clear HW
          obtain ⟨hw1, hw2⟩ := hw
          subst hw1 hw2
          exact switchD _ _ _ _ _ _ _ _ _ _ _ _ _ _ _ _ _ _ _ _ _ _ _ _ _ _ _ _ _ _ _ _ _ _ _ _ _ _ _ _ _ _ _ _ _ _ _ _ _ _ _ _ _ _ _ _ _ _ _ _ _ _ _ _ _ _ _ _ _ _ _ _ _ _ _ _ _ _ _ _ _ _ _ _ _ _ _ _ _ _ _ _ _ _ _ _ _ _ _ _ _ _ _ _ _ _ _ _ _ _ _ _ _ _ _ _ _ _ _ _ _ _ _ _ _ _ _ _ _ _ _ _ _ _ _ _ _ _ _ _ _ _ _ _ _ _ _ _ _ _ _ _ _ _ _ _ _ _ _ _ _ _ _ _ _ _ _ _ _ _ _ _ _ _ _ _ _ _ _ _ _ _ _ _ _ _ _ _ _ _ _ _ _ _ _ _ _ _ _ _ _ _ _ _ _ _ _ _ _ _ _ _ _ _ _ _ _ _ _ _ _ _ _ _ _ _ _ _ _ _ _ _ _ _ _ _ _ _ _ _ _ _ _ _ _ _ _ _ _ _ _ _ _ _ _ _ _ _ _ _ (hide H5.out.1) (hide H5.out.2) (by omega) HNM HOT HA0 HN0 HROW HKEEP _ _ _ (by assumption) (by assumption)
        case rest =>
          obtain ⟨ev, l2, s2, rfl, rfl, hops2, H8⟩ := hcut
          have LK := hide (Duo.looks H8.out (by omega))
          obtain ⟨_, _, _, _, _, v0, v2, v5⟩ := LK.out wc (Below.refl _ _)
          have BW := hide (fun m => below_drewN (Below.refl wc.heap.size wc) m)
          go_wp2
          go_quiet (first | (go_at_call 40; exact Calls.quiet_of_same (LK.out _ (BW.out _)).1) | (go_at_call 41; exact Calls.quiet_of_same (LK.out _ (BW.out _)).2.1) | (go_at_call 42; exact Calls.quiet_of_same (LK.out _ (BW.out _)).2.2.1) | (go_at_call 44; exact Calls.quiet_of_same (LK.out _ (BW.out _)).2.2.2.1) | (go_at_call 43; exact Calls.quiet_of_same (LK.out _ (BW.out _)).2.2.2.2.1))
          have H9 : Hid (Half w (wc.drewN nq) p r [] (l2, s2) (l2, s2)) := H8.out.new (hs' := []) (BW.out nq) (by simp)
          go_wp2
          go_roundw
          case rel => exact ⟨k + 1, l2, s2, by omega, by omega, by go_num, by push_cast; omega, H9⟩
          case measure => simp [intOf]; omega
      · have h80 : ¬ (k : Int) < 80 := by omega
        go_wp2
        go_ret
        exact ⟨rfl, H.out.bel⟩
    · go_wp2
      go_ret
      exact ⟨rfl, H.out.bel⟩

/-! ### The row's step -/
set_option maxRecDepth 100000 in
theorem lifted (os : Os) (started : os.Started) (H : Type) (enc : TypeId × Value → H) :
    ReturnsInHanded {} Try.checked os 3 .any (Rows.diskTellsSpec.pre6 enc Try.prog Try.f3 Rows.diskTellsRow.domain false) (Rows.diskTellsSpec.post enc Try.prog Try.f3 false true false false) := by
  refine returnsInHanded_of_change (C := Try.checked) own started (by kernel_rfl) Try.func3
    (ChangeSpec.witness6 (enc := enc) (C := Try.checked) false ⟨#[], #[.int .i64 0, .slice none 0 0], []⟩ 8 (by kernel_rfl) (by kernel_rfl) (by kernel_rfl) (by kernel_rfl)) ?_
  intro W base args ds gs before hval0 hW hcnd _
  have hval : ∀ (j : Nat) t v, Try.f3.params[j]? = some t → args[j]? = some v → Value.okWide Try.prog W .any base t v := hval0
  have hW' := hW
  obtain ⟨p, q, hA0, hV, rfl, hfz, hnd⟩ := hW
  have hA : DataW.TrodAll enc Try.prog W 0 (fun _ => true) true Try.f3.params.toList args.toList ds p := hA0
  rw [Try.params3] at hA hval
  obtain ⟨v0, vs0, d0, ds0, p0, q0, hargs, rfl, rfl, h0, r0⟩ := trodAll_cons hA
  obtain ⟨v1, vs1, d1, ds1, p1, q1, rfl, rfl, rfl, h1, r1⟩ := trodAll_cons r0
  obtain ⟨rfl, rfl, rfl⟩ := trodAll_nil r1
  obtain rfl : args = #[v0, v1] := by cases args; simp_all
  obtain ⟨rfl, rfl⟩ := trodVars_none hV
  obtain ⟨a0, rfl, rfl, rfl, w0⟩ := open_int Try.underlying3 (hval 0 3 v0 rfl rfl) h0
  obtain ⟨a1, len1, cap1, rfl⟩ := okWide_slice Try.underlying22 (hval 1 22 v1 rfl rfl)
  have k1 := h1
  have lt1 : ∀ x ∈ p1, x.block < W.heap.size := by obtain ⟨m, hm⟩ := k1; exact DataW.trod_lt m _ _ _ hm
  obtain ⟨ss1, i1, l1, m1⟩ : ∃ ss, IsS W (.slice a1 len1 cap1) ss ∧ ss.length = len1 ∧ len1 ≤ maxLen := by
    obtain ⟨fuel, hf⟩ := h1
    obtain ⟨a, len, cap, ss, hcs, h1, h2, h3⟩ := stepsIn03 hf
    simp [Value.cells] at hcs
    obtain ⟨rfl, rfl, rfl⟩ := hcs
    exact ⟨ss, h1, h2, h3⟩
  clear hA0 hval0
  refine (walk a0 a1 len1 cap1 ss1 W w0 i1 l1 m1).mono fun e W' ⟨he, bel⟩ => ?_
  subst he
  exact ⟨_, rfl, _, _, _, [], _, [], hW', trodAll_mk1 (shut_bool Try.underlying4 _), (trodAll_cons_mk (shut_int Try.underlying3 w0) (trodAll_cons_mk (Below.trod laidOut (by kernel_rfl) (of_decide_eq_true (by kernel_rfl)) k1 bel lt1) trodAll_mk0)), rfl, bel.frame _, fun h => by cases h⟩

theorem over : Rows.diskTellsRow.holds Try.pinned (OpenSpec.ofChange Rows.diskTellsSpec) :=
  OpenClaim.holds_of_wide 3 Try.f3 rfl rfl rfl rfl rfl rfl rfl ⟨rfl, rfl, rfl, rfl, rfl⟩ rfl rfl rfl rfl rfl (by kernel_rfl) Try.func3 (by kernel_rfl)
    (of_decide_eq_true (by kernel_rfl)) (by unfold Func.isWrapper; first | (rw [if_pos (by decide +kernel)]; kernel_rfl) | (rw [if_neg (by decide +kernel)]; exact ⟨rfl, rfl⟩))
    (fun os started H enc _ => lifted os started H enc)

/-- The statement. -/
theorem proved : Rows.DiskTellsSaid := over
#print axioms proved
end Go.Proofs.Ytahhokhhgamelaa.diskTells
