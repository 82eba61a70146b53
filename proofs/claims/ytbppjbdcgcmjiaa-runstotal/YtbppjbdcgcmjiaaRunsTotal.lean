/-
  Proved: for every slice of records, RunsTotal returns true and leaves the slice as it was (by Sum all values of a key are there, by Min the least one is). No condition.
-/
import Derived.Deep.QuietTactic
import Derived.BigQuiet
import Derived.WalkKit
import Derived.ProofKit
import Derived.OpenShut
import Derived.ShutString
import Derived.Test.YtbppjbdcgcmjiaaQTot
namespace Go.Proofs.Ytbppjbdcgcmjiaa.runsTotal
open Go.ChangeShapes Go.WideShapes Go.ChangeAt Go.RowKit
open Go.ChangeMaps (open_string shut_string)
set_option linter.unusedVariables false

theorem own : ownKnob Try.prog.godebug = none := by kernel_rfl
theorem laidOut : laidOutB Try.prog = true := by kernel_rfl


/-! ### The walk -/
set_option maxRecDepth 100000 in
set_option maxHeartbeats 4000000 in
theorem walk (a0 : Option Addr) (len0 cap0 : Nat) (es0 : List Rc) (w : World) (i0 : IsR w (.slice a0 len0 cap0) es0) (l0 : es0.length = len0) (m0 : len0 ≤ maxLen) :
    Calls Try.prog 8 #[.slice a0 len0 cap0] w fun e w' => e = .returned (.bool true) ∧ Below w.heap.size w w' := by
  subst l0
  unfold maxLen at m0
  have SH := hide (shown_any w)
  have I0 := hide i0
  have HOK : Hid (∀ e ∈ es0.take 100, okR e) := by
    obtain ⟨_, _, _, _, _, _, h⟩ := I0.out
    exact fun e he => h e (List.mem_of_mem_take he)
  clear i0
  obtain ⟨E, hE⟩ : ∃ E, E = es0.take 100 := ⟨_, rfl⟩
  have hEl : E.length ≤ 100 := by rw [hE]; simp; omega
  rw [← hE] at HOK
  obtain ⟨m, hm⟩ : ∃ m, m = E.length := ⟨_, rfl⟩
  have hm1 : m ≤ 100 := by omega
  obtain ⟨D, hD⟩ : ∃ D, D = E.map mkR := ⟨_, rfl⟩
  have hDl : D.length = m := by rw [hD, hm]; simp
  have hDp : prt E m = D := by rw [hD, hm]; exact prt_all E
  have hDk : ∀ e ∈ D, okR e ∧ e.2 < 4294967296 := by rw [hD]; exact mkR_ok HOK.out
  obtain ⟨A, hA⟩ : ∃ A, A = canR 1 D := ⟨_, rfl⟩
  obtain ⟨B, hB⟩ : ∃ B, B = canR 2 D := ⟨_, rfl⟩
  obtain ⟨q, hq⟩ : ∃ q, q = A.length := ⟨_, rfl⟩
  have hqB : q = B.length := by rw [hq, hA, hB]; exact canR_len D
  have hq1 : q ≤ 100 := by rw [hq, hA]; have := canR_le 1 D; omega
  have hkey : ∀ i, i < q → A[i]!.1 = B[i]!.1 := fun i hi => by
    rw [hA, hB]
    exact canR_key D i (by rw [← hA, ← hq]; exact hi)
  have HE := hide (And.intro hE (And.intro hm hEl))
  have HD := hide (And.intro hDl (And.intro hDp hDk))
  have HA := hide (And.intro hA (And.intro hB (And.intro hq (And.intro hqB hkey))))
  clear hE hm hEl hDl hDp hDk hA hB hq hqB hkey hD
  go_enter Try.func8, Try.ntmps8
  go_wp2_with fail
  refine SH.out.mono ?_
  rintro e w1 ⟨rfl, b1⟩
  have I1 := hide (I0.out.below b1)
  have B1 := hide b1
  clear b1 SH
  go_wp2_with fail
  refine (few_any I1.out (by omega)).mono ?_
  rintro e w2 ⟨v2, rfl, r2, b2, n2⟩
  rw [← HE.out.1] at r2
  obtain ⟨a2, c2, rfl⟩ : ∃ a c, v2 = .slice a m c := by
    obtain ⟨a, c, e, _⟩ := r2.isR.form
    rw [← HE.out.2.1] at e
    exact ⟨a, c, e⟩
  have R2 := hide (And.intro r2 (And.intro (fun x hx => Nat.le_trans B1.out.size (n2 x hx)) (B1.out.trans (b2.mono B1.out.size))))
  clear r2 b2 n2 I1 B1
  go_wp2
  go_loopw [4] (fun v wr => ∃ i : Nat, v = .int .i64 (i : Int) ∧ i ≤ m ∧ Hid (RowR wr (.slice a2 m c2) (prt E i) ∧ Below w.heap.size w wr)) (fun v _ => m + 1 - numOf v)
  case atStart => exact ⟨0, rfl, Nat.zero_le _, by rw [prt_zero]; exact R2.out.1, R2.out.2.2⟩
  case round =>
    obtain ⟨i, rfl, hi, HR⟩ := hrel
    have hw1 : IntKind.i64.wrap ((i : Int) + 1) = (i : Int) + 1 := i64_small _ (by omega) (by omega)
    by_cases hin : i < m
    · have hin' : (i : Int) < (m : Int) := by omega
      have hpl := prt_length E i (by have := HE.out.2.1; omega)
      rw [← HE.out.2.1] at hpl
      have hst := prt_set E i (by have := HE.out.2.1; omega)
      have hr := HR.out.1
      obtain ⟨g, cg, eg, hcg⟩ := hr.blk (by omega)
      rw [hpl] at eg
      simp only [Value.slice.injEq] at eg
      obtain ⟨rfl, hx1, rfl⟩ := eg
      clear hx1
      obtain ⟨d1, d2⟩ := hr.cell2 i (by omega)
      have z1 := hr.frozenAt (i * 2 + 1)
      have ok := hr.okAt i (by omega)
      have P : Hid (RowR (wr.setCell ⟨g, i * 2 + 1, none⟩ (.int .u64 ((prt E i)[i]!.2 % 4294967296))) (.slice (some ⟨g, 0, none⟩) m c2) (prt E (i + 1)) ∧ Below w.heap.size w (wr.setCell ⟨g, i * 2 + 1, none⟩ (.int .u64 ((prt E i)[i]!.2 % 4294967296)))) := by
        have r := hr.storedVal i (by omega) ((prt E i)[i]!.2 % 4294967296) (by have := ok.2; omega)
        rw [hst] at r
        have k : Kept [g] wr (wr.setCell ⟨g, i * 2 + 1, none⟩ (.int .u64 ((prt E i)[i]!.2 % 4294967296))) := (Kept.refl _ wr).setCell (.inl (by simp)) _
        exact ⟨r, HR.out.2.trans (k.below HR.out.2.size (fun x hx => by simp at hx; subst hx; exact R2.out.2.1 _ (by simp [Go.Proofs.Ytbppjbdcgcmjiaa.own, Value.ownBlock])))⟩
      obtain ⟨x, hx⟩ : ∃ x, x = (prt E i)[i]! := ⟨_, rfl⟩
      rw [← hx] at d1 d2 ok P
      have hand := u64_and32 x.2 ok.2.1 ok.2.2
      obtain ⟨x1, x2⟩ := x
      dsimp only at d1 d2 ok P hand
      clear hx hst hpl hcg hr ok
      go_wp2
      go_roundw
      case rel => exact ⟨i + 1, by go_num, by omega, P.out⟩
      case measure => simp [numOf]; omega
    · obtain rfl : i = m := by omega
      have hle : ¬ ((i : Int) < (i : Int)) := by omega
      have r3 := HR.out.1
      rw [HD.out.2.1] at r3
      have R3 := hide (And.intro r3.isR HR.out.2)
      clear r3 HR
      go_wp2_with fail
      refine (sorted_any _ D 1 _ R3.out.1 (by have := HD.out.1; omega) rfl).mono ?_
      rintro e w4 ⟨v4, rfl, r4, b4, n4⟩
      rw [show foldR 1 (sortR [] D) = A from HA.out.1.symm] at r4
      obtain ⟨a4, c4, rfl⟩ : ∃ a c, v4 = .slice a q c := by
        obtain ⟨a, c, e, _⟩ := r4.isR.form
        rw [← HA.out.2.2.1] at e
        exact ⟨a, c, e⟩
      have R4 := hide (And.intro (R3.out.1.below b4) (And.intro r4.isR (R3.out.2.trans (b4.mono R3.out.2.size))))
      clear r4 b4 n4 R3
      go_wp2_with fail
      refine (sorted_any _ D 2 _ R4.out.1 (by have := HD.out.1; omega) rfl).mono ?_
      rintro e w5 ⟨v5, rfl, r5, b5, n5⟩
      rw [show foldR 2 (sortR [] D) = B from HA.out.2.1.symm] at r5
      obtain ⟨a5, c5, rfl⟩ : ∃ a c, v5 = .slice a q c := by
        obtain ⟨a, c, e, _⟩ := r5.isR.form
        rw [← HA.out.2.2.2.1] at e
        exact ⟨a, c, e⟩
      have R5 := hide (And.intro (R4.out.1.below b5) (And.intro (R4.out.2.1.below b5) (And.intro r5.isR (R4.out.2.2.trans (b5.mono R4.out.2.2.size)))))
      clear r5 b5 n5 R4
      go_wp2
      go_loopw [9] (fun v wr => ∃ j : Nat, v = .int .i64 (j : Int) ∧ j ≤ q ∧ Hid (Below w5.heap.size w5 wr)) (fun v _ => q + 1 - numOf v)
      case atStart => exact ⟨0, rfl, Nat.zero_le _, Below.refl _ _⟩
      case round =>
        obtain ⟨j, rfl, hj, HS⟩ := hrel
        have hw2 : IntKind.i64.wrap ((j : Int) + 1) = (j : Int) + 1 := i64_small _ (by omega) (by omega)
        by_cases hjn : j < q
        · have hjn' : (j : Int) < (q : Int) := by omega
          obtain ⟨b, off, c', e, _, hc⟩ := (R5.out.2.1.below HS.out).opened (by have := HA.out.2.2.1; omega)
          simp only [Value.slice.injEq] at e
          obtain ⟨rfl, hx1, rfl⟩ := e
          clear hx1
          obtain ⟨p, off2, c'', e, _, hd⟩ := (R5.out.2.2.1.below HS.out).opened (by have := HA.out.2.2.2.1; omega)
          simp only [Value.slice.injEq] at e
          obtain ⟨rfl, hx1, rfl⟩ := e
          clear hx1
          have hxA : A[j]! ∈ canR 1 D := by
            rw [← HA.out.1, getElem!_pos A j (by have := HA.out.2.2.1; omega)]
            exact List.getElem_mem _
          have hyB : B[j]! ∈ canR 2 D := by
            rw [← HA.out.2.1, getElem!_pos B j (by have := HA.out.2.2.2.1; omega)]
            exact List.getElem_mem _
          have hxy := HA.out.2.2.2.2 j hjn
          obtain ⟨x, hx⟩ : ∃ x, x = A[j]! := ⟨_, rfl⟩
          obtain ⟨y, hy⟩ : ∃ y, y = B[j]! := ⟨_, rfl⟩
          have hcs : ∀ W, Below wr.heap.size wr W → (W.cell? ⟨b, off + j * 2, none⟩ = some (.int .u64 x.1) ∧ W.cell? ⟨b, off + j * 2 + 1, none⟩ = some (.int .u64 x.2)) ∧ W.cell? ⟨p, off2 + j * 2, none⟩ = some (.int .u64 y.1) ∧ W.cell? ⟨p, off2 + j * 2 + 1, none⟩ = some (.int .u64 y.2) := fun W hW => by
            have c1 := hc j (by have := HA.out.2.2.1; omega)
            have c2 := hd j (by have := HA.out.2.2.2.1; omega)
            rw [← hx] at c1
            rw [← hy] at c2
            have go : ∀ {ad : Addr} {v : Value}, wr.cell? ad = some v → W.cell? ad = some v := fun h => (World.cell?_of_block (w := wr) (hW.block _ (World.block_lt_of_cell? wr _ h))).trans h
            exact ⟨⟨go c1.1, go c1.2⟩, go c2.1, go c2.2⟩
          rw [← hx] at hxA hxy
          rw [← hy] at hyB hxy
          have HCS := hide hcs
          have FIN : Hid (∀ s t, TotSt x.1 D s t → x.2 = s ∧ y.2 = t) := fun s t h => h.done (fun e he => (HD.out.2.2 e he).1) hxA hyB rfl hxy.symm
          obtain ⟨x1, x2⟩ := x
          obtain ⟨y1, y2⟩ := y
          dsimp only at hxy
          subst hxy
          clear hc hd hcs hx hy hxA hyB
          dsimp only at HCS FIN
          obtain ⟨w6, rfl⟩ : ∃ w6, w6 = wr := ⟨_, rfl⟩
          go_wp2
          go_loopw [10, 11, 12] (fun vs vt v wk => ∃ (k : Nat) (s t : Int), vs = .int .u64 s ∧ vt = .int .u64 t ∧ v = .int .i64 (k : Int) ∧ k ≤ i ∧ Hid (TotSt x1 (D.take k) s t ∧ Below w6.heap.size w6 wk)) (fun _ _ v _ => i + 1 - numOf v)
          case atStart => exact ⟨0, 0, 18446744073709551615, rfl, rfl, rfl, Nat.zero_le _, TotSt.nil _, Below.refl _ _⟩
          case round =>
            obtain ⟨k, s, t, rfl, rfl, rfl, hk, HT⟩ := hrel
            have hw3 : IntKind.i64.wrap ((k : Int) + 1) = (k : Int) + 1 := i64_small _ (by omega) (by omega)
            by_cases hkn : k < i
            · have hkn' : (k : Int) < (i : Int) := by omega
              have hkD : k < D.length := by have := HD.out.1; omega
              obtain ⟨g, off3, c3, e, _, hz⟩ := ((R5.out.1.below HS.out).below HT.out.2).opened (by omega)
              simp only [Value.slice.injEq] at e
              obtain ⟨rfl, hx1, rfl⟩ := e
              clear hx1
              obtain ⟨e1, e2⟩ := hz k hkD
              obtain ⟨⟨f1, f2⟩, f3, f4⟩ := HCS.out wr HT.out.2
              obtain ⟨z, hz'⟩ : ∃ z, z = D[k]! := ⟨_, rfl⟩
              have hzD : z ∈ D := by rw [hz', getElem!_pos D k hkD]; exact List.getElem_mem _
              have hzk := HD.out.2.2 z hzD
              have hsn : D.take (k + 1) = D.take k ++ [z] := by rw [List.take_succ_eq_append_getElem hkD, hz', getElem!_pos D k hkD]
              have hbd := HT.out.1.bounds (by simp; omega)
              rw [← hz'] at e1 e2
              obtain ⟨z1, z2⟩ := z
              dsimp only at e1 e2
              by_cases hzx : z1 = x1
              · subst hzx
                have hs1 : IntKind.u64.wrap (s + z2) = s + z2 := u64_small _ (by have := hzk.1.2; dsimp only at this; omega) (by have := hzk.2; dsimp only at this; omega)
                have HN : Hid (TotSt z1 (D.take (k + 1)) (s + z2) (if t ≤ z2 then t else z2)) := by
                  show TotSt _ _ _ _
                  rw [hsn]
                  exact HT.out.1.hit (x := (z1, z2)) rfl ⟨hzk.1.2.1, hzk.2⟩ (by simp; omega)
                have hmn := minU t z2
                generalize (if t ≤ z2 then t else z2) = u at hmn HN
                have HB := hide HT.out.2
                clear hz hz' hzD hzk hsn hbd HT
                go_wp2
                go_quiet (fail)
                go_wp2
                go_roundw
                case rel => exact ⟨k + 1, s + z2, u, by first | rfl | go_num, by first | rfl | go_num, by go_num, by omega, HN.out, by first | exact HB.out | exact ⟨HB.out.os, HB.out.tape, HB.out.output, HB.out.size, HB.out.block⟩ | exact HB.out.drew⟩
                case measure => simp [numOf]; omega
              · have HN : Hid (TotSt x1 (D.take (k + 1)) s t) := by
                  show TotSt _ _ _ _
                  rw [hsn]
                  exact HT.out.1.miss (x := (z1, z2)) hzx
                have hzb : (z1 == x1) = false := by simpa using hzx
                have HB := hide HT.out.2
                clear hz hz' hzD hzk hsn hbd HT
                go_wp2
                go_quiet (fail)
                go_wp2
                go_roundw
                case rel => exact ⟨k + 1, s, t, by first | rfl | go_num, by first | rfl | go_num, by go_num, by omega, HN.out, by first | exact HB.out | exact ⟨HB.out.os, HB.out.tape, HB.out.output, HB.out.size, HB.out.block⟩ | exact HB.out.drew⟩
                case measure => simp [numOf]; omega
            · obtain rfl : k = i := by omega
              have hle2 : ¬ ((k : Int) < (k : Int)) := by omega
              have hst := HT.out.1
              rw [List.take_of_length_le (by have := HD.out.1; omega)] at hst
              obtain ⟨rfl, rfl⟩ := FIN.out s t hst
              obtain ⟨⟨f1, f2⟩, f3, f4⟩ := HCS.out wr HT.out.2
              have HB := hide (HS.out.trans (HT.out.2.mono HS.out.size))
              clear hst HT
              go_wp2
              go_quiet (fail)
              go_wp2
              go_roundw
              case rel => exact ⟨j + 1, by go_num, by omega, by first | exact HB.out | exact ⟨HB.out.os, HB.out.tape, HB.out.output, HB.out.size, HB.out.block⟩ | exact HB.out.drew⟩
              case measure => simp [numOf]; omega
        · obtain rfl : j = q := by omega
          have hle2 : ¬ ((j : Int) < (j : Int)) := by omega
          have F := hide (R5.out.2.2.2.trans (HS.out.mono R5.out.2.2.2.size))
          go_wp2
          go_ret
          exact ⟨rfl, F.out⟩

/-! ### The row's step -/
set_option maxRecDepth 100000 in
theorem lifted (os : Os) (started : os.Started) (H : Type) (enc : TypeId × Value → H) :
    ReturnsInHanded {} Try.checked os 8 .any (Rows.runsTotalSpec.pre6 enc Try.prog Try.f8 Rows.runsTotalRow.domain false) (Rows.runsTotalSpec.post enc Try.prog Try.f8 false true false false) := by
  refine returnsInHanded_of_change (C := Try.checked) own started (by kernel_rfl) Try.func8
    (ChangeSpec.witness6 (enc := enc) (C := Try.checked) false ⟨#[], #[.slice none 0 0], []⟩ 8 (by kernel_rfl) (by kernel_rfl) (by kernel_rfl) (by kernel_rfl)) ?_
  intro W base args ds gs before hval0 hW hcnd _
  have hval : ∀ (j : Nat) t v, Try.f8.params[j]? = some t → args[j]? = some v → Value.okWide Try.prog W .any base t v := hval0
  have hW' := hW
  obtain ⟨p, q, hA0, hV, rfl, hfz, hnd⟩ := hW
  have hA : DataW.TrodAll enc Try.prog W 0 (fun _ => true) true Try.f8.params.toList args.toList ds p := hA0
  rw [Try.params8] at hA hval
  obtain ⟨v0, vs0, d0, ds0, p0, q0, hargs, rfl, rfl, h0, r0⟩ := trodAll_cons hA
  obtain ⟨rfl, rfl, rfl⟩ := trodAll_nil r0
  obtain rfl : args = #[v0] := by cases args; simp_all
  obtain ⟨rfl, rfl⟩ := trodVars_none hV
  obtain ⟨a0, len0, cap0, rfl⟩ := okWide_slice Try.underlying22 (hval 0 22 v0 rfl rfl)
  have k0 := h0
  have lt0 : ∀ x ∈ p0, x.block < W.heap.size := by obtain ⟨m, hm⟩ := k0; exact DataW.trod_lt m _ _ _ hm
  obtain ⟨es0, i0, l0, m0⟩ : ∃ es, IsR W (.slice a0 len0 cap0) es ∧ es.length = len0 ∧ len0 ≤ maxLen := by
    obtain ⟨fuel, hf⟩ := h0
    obtain ⟨a, len, cap, es, hcs, h1, h2, h3⟩ := recsIn hf
    simp [Value.cells] at hcs
    obtain ⟨rfl, rfl, rfl⟩ := hcs
    exact ⟨es, h1, h2, h3⟩
  clear hA0 hval0
  refine (walk a0 len0 cap0 es0 W i0 l0 m0).mono fun e W' ⟨he, bel⟩ => ?_
  subst he
  exact ⟨_, rfl, _, _, _, [], _, [], hW', trodAll_mk1 (shut_bool Try.underlying4 _), (trodAll_cons_mk (Below.trod laidOut (by kernel_rfl) (of_decide_eq_true (by kernel_rfl)) k0 bel lt0) trodAll_mk0), rfl, bel.frame _, fun h => by cases h⟩

theorem over : Rows.runsTotalRow.holds Try.pinned (OpenSpec.ofChange Rows.runsTotalSpec) :=
  OpenClaim.holds_of_wide 8 Try.f8 rfl rfl rfl rfl rfl rfl rfl ⟨rfl, rfl, rfl, rfl, rfl⟩ rfl rfl rfl rfl rfl (by kernel_rfl) Try.func8 (by kernel_rfl)
    (of_decide_eq_true (by kernel_rfl)) (by unfold Func.isWrapper; first | (rw [if_pos (by decide +kernel)]; kernel_rfl) | (rw [if_neg (by decide +kernel)]; exact ⟨rfl, rfl⟩))
    (fun os started H enc _ => lifted os started H enc)

/-- The statement. -/
theorem proved : Rows.RunsTotalSaid := over
#print axioms proved
end Go.Proofs.Ytbppjbdcgcmjiaa.runsTotal
