/-
  A row's first record sinks. A lemma file: no statement of the seat is proved here.
-/
import Derived.Test.YtbppjbdcgcmjiaaGRise
namespace Go.Proofs.Ytbppjbdcgcmjiaa.G
open Go.RowKit

set_option maxRecDepth 100000 in
set_option maxHeartbeats 4000000 in
theorem sink_any {w : World} {g n cap : Nat} {l : List Rc} (h : RowR w (.slice (some ⟨g, 0, none⟩) n cap) l) (hmax : l.length ≤ 1000000) (hdn : Down l 0) :
    Calls Try.prog 44 #[.slice (some ⟨g, 0, none⟩) n cap] w fun e w' => e = .returned (.tuple #[]) ∧ ∃ l', RowR w' (.slice (some ⟨g, 0, none⟩) n cap) l' ∧ HeapR l' ∧ l'.Perm l ∧ Kept [g] w w' := by
  have hn := h.len
  have hnm : n ≤ 1000000 := by omega
  have HDN := hide hdn
  have HR := hide h
  have HN := hide hn
  clear hdn h hn hmax
  go_enter Try.func44, Try.ntmps44
  go_wp2
  go_loopw [2] (fun v wr => ∃ (k : Nat) (lk : List Rc), v = .int .i64 k ∧ k ≤ n ∧ Hid (lk.length = n) ∧ Hid (RowR wr (.slice (some ⟨g, 0, none⟩) n cap) lk) ∧ Hid (Down lk k) ∧ Hid (lk.Perm l) ∧ Hid (Kept [g] w wr)) (fun v _ => n + 1 - numOf v)
  case atStart =>
    exact ⟨0, l, by first | rfl | go_num, Nat.zero_le _, HN.out.symm, HR.out, HDN.out, List.Perm.refl _, Kept.refl _ _⟩
  case round =>
    obtain ⟨k, lk, rfl, hk, HL, HRk, HD, HP, HK⟩ := hrel
    have hw1 : IntKind.i64.wrap (2 * (k : Int)) = 2 * (k : Int) := i64_small _ (by omega) (by omega)
    have hw2 : IntKind.i64.wrap (2 * (k : Int) + 1) = 2 * (k : Int) + 1 := i64_small _ (by omega) (by omega)
    have hw3 : IntKind.i64.wrap (2 * (k : Int) + 2) = 2 * (k : Int) + 2 := i64_small _ (by omega) (by omega)
    go_wp2
    obtain ⟨wo, hwo⟩ : ∃ wo, wo = wr := ⟨_, rfl⟩
    subst hwo
    go_loopw [3, 4] (fun v3 v4 wr2 => ∃ (f b : Nat), v3 = .int .i64 f ∧ v4 = .int .i64 b ∧ f ≤ n ∧ 2 * k + 1 ≤ b ∧ b ≤ 2 * k + 3 ∧ Hid (f = k ∨ (0 < f ∧ f < n ∧ (f - 1) / 2 = k ∧ ltR lk[f]! lk[k]! = true)) ∧ Hid (∀ i, 2 * k + 1 ≤ i → i < b → i < n → ltR lk[i]! lk[f]! = false) ∧ Hid (RowR wr2 (.slice (some ⟨g, 0, none⟩) n cap) lk) ∧ Hid (Kept [g] w wr2)) (fun _ v4 _ => 2 * k + 4 - numOf v4)
    case atStart => exact ⟨k, 2 * k + 1, rfl, by go_num, hk, Nat.le_refl _, by omega, .inl rfl, fun i h1 h2 => by omega, HRk.out, HK.out⟩
    case round =>
      obtain ⟨f, b, rfl, rfl, hf, hb1, hb2, HF, HS, HRb, HKb⟩ := hrel
      have hw4 : IntKind.i64.wrap ((b : Int) + 1) = (b : Int) + 1 := i64_small _ (by omega) (by omega)
      by_cases h1 : b ≤ 2 * k + 2
      · by_cases h2 : b < n
        · have h1' : (b : Int) ≤ 2 * (k : Int) + 2 := by omega
          have hfn : f < n := by rcases HF.out with e | e <;> omega
          obtain ⟨x, hx⟩ : ∃ x, x = lk[b]! := ⟨_, rfl⟩
          obtain ⟨y, hy⟩ : ∃ y, y = lk[f]! := ⟨_, rfl⟩
          obtain ⟨c1, c2, c9⟩ := HRb.out.cell3 b (by have := HL.out; omega)
          obtain ⟨d1, d2, d9⟩ := HRb.out.cell3 f (by have := HL.out; omega)
          rw [← hx] at c1 c2 c9
          rw [← hy] at d1 d2 d9
          have HX := hide (And.intro hx hy)
          clear hx hy
          obtain ⟨x1, x2, x3⟩ := x
          obtain ⟨y1, y2, y3⟩ := y
          simp only at c1 c2 c9 d1 d2 d9
          obtain ⟨t, ht⟩ : ∃ t, t = ltR (x1, x2, x3) (y1, y2, y3) := ⟨_, rfl⟩
          have HA : Hid (∀ W, Calls Try.prog 56 #[.agg #[.int .u64 x1, .int .u64 x2, .int .i64 x3], .agg #[.int .u64 y1, .int .u64 y2, .int .i64 y3]] W fun e w' => e = .returned (.bool t) ∧ Below W.heap.size W w') := fun W => by rw [ht]; exact ahead_any x1 x2 x3 y1 y2 y3 W
          have HB := hide ht
          clear ht
          go_wp2
          go_region_law (go_simp; go_at_call 56; refine (HA.out _).mono ?_; rintro e w5 ⟨rfl, b5⟩)
          all_goals
            have r5 : RowR w5 (.slice (some ⟨g, 0, none⟩) n cap) lk := HRb.out.kept (Kept.of_below (fp := []) (a := wr) ⟨b5.os, b5.tape, b5.output, b5.size, b5.block⟩) (fun _ _ => by simp)
            have k5 : Kept [g] w w5 := HKb.out.trans (fp' := []) (Kept.of_below (a := wr) ⟨b5.os, b5.tape, b5.output, b5.size, b5.block⟩) (fun _ hx => by simp at hx)
            have R5 := hide r5
            have K5 := hide k5
            clear r5 k5 b5 c1 c2 c9 d1 d2 d9
            cases t with
            | false =>
              go_wp2
              go_roundw
              case rel =>
                have e1 := HX.out
                have e3 := HB.out
                refine ⟨f, b + 1, rfl, by go_num, hf, by omega, by omega, HF.out, ?_, R5.out, K5.out⟩
                intro i hi hib hin
                rcases Nat.lt_or_ge i b with hlt | hge
                · exact HS.out i hi hlt hin
                · rw [show i = b by omega, ← e1.1, ← e1.2]
                  exact e3.symm
              case measure => simp [numOf]; omega
            | true =>
              go_wp2
              go_roundw
              case rel =>
                have e1 := HX.out
                have e3 := HB.out
                rw [e1.1, e1.2] at e3
                refine ⟨b, b + 1, rfl, by go_num, by omega, by omega, by omega, .inr ⟨by omega, h2, by omega, ?_⟩, ?_, R5.out, K5.out⟩
                · rcases HF.out with e | e
                  · rw [e] at e3
                    exact e3.symm
                  · exact ltR_trans e3.symm e.2.2.2
                · intro i hi hib hin
                  rcases Nat.lt_or_ge i b with hlt | hge
                  · exact nlt_trans (nlt_of_lt e3.symm) (HS.out i hi hlt hin)
                  · rw [show i = b by omega]
                    exact ltR_irr _
              case measure => simp [numOf]; omega
        · have h1' : (b : Int) ≤ 2 * (k : Int) + 2 := by omega
          have ALL : Hid (∀ i, 0 < i → i < lk.length → (i - 1) / 2 = k → ltR lk[i]! lk[f]! = false) := fun i h0 hi he => HS.out i (by omega) (by have := HL.out; omega) (by have := HL.out; omega)
          by_cases hfk : f = k
          · subst hfk
            go_wp2
            refine bodyPost_ret (results_none rfl _ _ _) rfl ?_
            exact ⟨rfl, lk, HRb.out, HD.out.done ALL.out, HP.out, HKb.out⟩
          · have hkf : ¬ k = f := fun e => hfk e.symm
            have hF : Hid (0 < f ∧ f < n ∧ (f - 1) / 2 = k ∧ ltR lk[f]! lk[k]! = true) := by rcases HF.out with e | e; exact absurd e hfk; exact e
            have hfn : f < n := hF.out.2.1
            have hkn : k < n := by have := hF.out; omega
            obtain ⟨x, hx⟩ : ∃ x, x = lk[k]! := ⟨_, rfl⟩
            obtain ⟨y, hy⟩ : ∃ y, y = lk[f]! := ⟨_, rfl⟩
            obtain ⟨c1, c2, c9⟩ := HRb.out.cell3 k (by have := HL.out; omega)
            obtain ⟨d1, d2, d9⟩ := HRb.out.cell3 f (by have := HL.out; omega)
            rw [← hx] at c1 c2 c9
            rw [← hy] at d1 d2 d9
            have HX := hide (And.intro hx hy)
            clear hx hy
            obtain ⟨x1, x2, x3⟩ := x
            obtain ⟨y1, y2, y3⟩ := y
            simp only at c1 c2 c9 d1 d2 d9
            have z1 := HRb.out.frozenAt (k * 3)
            have z2 := HRb.out.frozenAt (k * 3 + 1)
            have z2' := HRb.out.frozenAt (k * 3 + 2)
            have z3 := HRb.out.frozenAt (f * 3)
            have z4 := HRb.out.frozenAt (f * 3 + 1)
            have z4' := HRb.out.frozenAt (f * 3 + 2)
            go_wp2
            go_region
            all_goals
              go_wp2
              go_roundw
              case rel =>
                have e1 := HX.out
                have e2 := hF.out
                have e4 := HL.out
                have q := (HRb.out.stored k (by omega) (y1, y2, y3) (e1.2 ▸ HRb.out.okAt f (by omega))).stored f (by simp; omega) (x1, x2, x3) (e1.1 ▸ HRb.out.okAt k (by omega))
                refine ⟨f, (lk.set k lk[f]!).set f lk[k]!, by first | rfl | go_num, by omega, by show _ = _; rw [swap_len]; exact e4, ?_, HD.out.step e2.1 (by omega) e2.2.2.1 e2.2.2.2 ALL.out, (swap_perm lk k f (by omega) (by omega)).trans HP.out, ?_⟩
                · rw [← e1.2, ← e1.1]
                  dsimp only at q
                  exact q.drew
                · exact ((((((HKb.out.setCell (.inl (by simp)) _).setCell (.inl (by simp)) _).setCell (.inl (by simp)) _).setCell (.inl (by simp)) _).setCell (.inl (by simp)) _).setCell (.inl (by simp)) _).drew
              case measure =>
                have := hF.out
                simp [numOf]
                omega
      · have h1' : ¬ (b : Int) ≤ 2 * (k : Int) + 2 := by omega
        have ALL : Hid (∀ i, 0 < i → i < lk.length → (i - 1) / 2 = k → ltR lk[i]! lk[f]! = false) := fun i h0 hi he => HS.out i (by omega) (by have := HL.out; omega) (by have := HL.out; omega)
        by_cases hfk : f = k
        · subst hfk
          go_wp2
          refine bodyPost_ret (results_none rfl _ _ _) rfl ?_
          exact ⟨rfl, lk, HRb.out, HD.out.done ALL.out, HP.out, HKb.out⟩
        · have hkf : ¬ k = f := fun e => hfk e.symm
          have hF : Hid (0 < f ∧ f < n ∧ (f - 1) / 2 = k ∧ ltR lk[f]! lk[k]! = true) := by rcases HF.out with e | e; exact absurd e hfk; exact e
          have hfn : f < n := hF.out.2.1
          have hkn : k < n := by have := hF.out; omega
          obtain ⟨x, hx⟩ : ∃ x, x = lk[k]! := ⟨_, rfl⟩
          obtain ⟨y, hy⟩ : ∃ y, y = lk[f]! := ⟨_, rfl⟩
          obtain ⟨c1, c2, c9⟩ := HRb.out.cell3 k (by have := HL.out; omega)
          obtain ⟨d1, d2, d9⟩ := HRb.out.cell3 f (by have := HL.out; omega)
          rw [← hx] at c1 c2 c9
          rw [← hy] at d1 d2 d9
          have HX := hide (And.intro hx hy)
          clear hx hy
          obtain ⟨x1, x2, x3⟩ := x
          obtain ⟨y1, y2, y3⟩ := y
          simp only at c1 c2 c9 d1 d2 d9
          have z1 := HRb.out.frozenAt (k * 3)
          have z2 := HRb.out.frozenAt (k * 3 + 1)
          have z2' := HRb.out.frozenAt (k * 3 + 2)
          have z3 := HRb.out.frozenAt (f * 3)
          have z4 := HRb.out.frozenAt (f * 3 + 1)
          have z4' := HRb.out.frozenAt (f * 3 + 2)
          go_wp2
          go_region
          all_goals
            go_wp2
            go_roundw
            case rel =>
              have e1 := HX.out
              have e2 := hF.out
              have e4 := HL.out
              have q := (HRb.out.stored k (by omega) (y1, y2, y3) (e1.2 ▸ HRb.out.okAt f (by omega))).stored f (by simp; omega) (x1, x2, x3) (e1.1 ▸ HRb.out.okAt k (by omega))
              refine ⟨f, (lk.set k lk[f]!).set f lk[k]!, by first | rfl | go_num, by omega, by show _ = _; rw [swap_len]; exact e4, ?_, HD.out.step e2.1 (by omega) e2.2.2.1 e2.2.2.2 ALL.out, (swap_perm lk k f (by omega) (by omega)).trans HP.out, ?_⟩
              · rw [← e1.2, ← e1.1]
                dsimp only at q
                exact q.drew
              · exact ((((((HKb.out.setCell (.inl (by simp)) _).setCell (.inl (by simp)) _).setCell (.inl (by simp)) _).setCell (.inl (by simp)) _).setCell (.inl (by simp)) _).setCell (.inl (by simp)) _).drew
            case measure =>
              have := hF.out
              simp [numOf]
              omega

end Go.Proofs.Ytbppjbdcgcmjiaa.G
