/-
  A row's last record rises. A lemma file: no statement of the seat is proved here.
-/
import Derived.Test.YtbppjbdcgcmjiaaGPure
namespace Go.Proofs.Ytbppjbdcgcmjiaa.G
open Go.RowKit

set_option maxRecDepth 100000 in
set_option maxHeartbeats 4000000 in
theorem rise_any {w : World} {g n cap : Nat} {l : List Rc} (h : RowR w (.slice (some ⟨g, 0, none⟩) n cap) l) (h0 : 0 < l.length) (hmax : l.length ≤ 1000000) (hup : Up l (l.length - 1)) :
    Calls Try.prog 41 #[.slice (some ⟨g, 0, none⟩) n cap] w fun e w' => e = .returned (.tuple #[]) ∧ ∃ l', RowR w' (.slice (some ⟨g, 0, none⟩) n cap) l' ∧ HeapR l' ∧ l'.Perm l ∧ Kept [g] w w' := by
  have hn := h.len
  obtain ⟨k0, hk0⟩ : ∃ k0, n = k0 + 1 := ⟨n - 1, by omega⟩
  have hw0 : IntKind.i64.wrap ((n : Int) - 1) = (k0 : Int) := by rw [i64_small _ (by omega) (by omega)]; omega
  have hnm : n ≤ 1000000 := by omega
  have HUP := hide hup
  have HR := hide h
  have HN := hide (And.intro hn hk0)
  clear hup h hn hk0 h0 hmax
  go_enter Try.func41, Try.ntmps41
  go_wp2
  go_loopw [2] (fun v wr => ∃ (k : Nat) (lk : List Rc), v = .int .i64 k ∧ k < n ∧ Hid (lk.length = n) ∧ Hid (RowR wr (.slice (some ⟨g, 0, none⟩) n cap) lk) ∧ Hid (Up lk k) ∧ Hid (lk.Perm l) ∧ Hid (Kept [g] w wr)) (fun v _ => numOf v)
  case atStart =>
    exact ⟨k0, l, by first | rfl | go_num, by have := HN.out; omega, HN.out.1.symm, HR.out, (show k0 = l.length - 1 by have := HN.out; omega) ▸ HUP.out, List.Perm.refl _, Kept.refl _ _⟩
  case round =>
    obtain ⟨k, lk, rfl, hk, HL, HRk, HU, HP, HK⟩ := hrel
    by_cases hk0 : k = 0
    · subst hk0
      go_wp2
      go_end0
      exact ⟨rfl, lk, HRk.out, HU.out.done (.inl rfl), HP.out, HK.out⟩
    · obtain ⟨j, hj⟩ : ∃ j, k = j + 1 := ⟨k - 1, by omega⟩
      obtain ⟨p, hp⟩ : ∃ p, p = (k - 1) / 2 := ⟨_, rfl⟩
      have hpn : p < n := by omega
      have hw1 : IntKind.i64.wrap ((k : Int) - 1) = (j : Int) := by rw [i64_small _ (by omega) (by omega)]; omega
      have hw2 : (j : Int).tdiv 2 = (p : Int) := by rw [Int.tdiv_eq_ediv_of_nonneg (by omega)]; omega
      have hw3 : IntKind.i64.wrap (p : Int) = (p : Int) := i64_small _ (by omega) (by omega)
      have hkp : (0 : Int) < (k : Int) := by omega
      have HJ := hide (And.intro hj hp)
      clear hj hp
      obtain ⟨x, hx⟩ : ∃ x, x = lk[k]! := ⟨_, rfl⟩
      obtain ⟨y, hy⟩ : ∃ y, y = lk[p]! := ⟨_, rfl⟩
      obtain ⟨c1, c2, c9⟩ := HRk.out.cell3 k (by have := HL.out; omega)
      obtain ⟨d1, d2, d9⟩ := HRk.out.cell3 p (by have := HL.out; omega)
      rw [← hx] at c1 c2 c9
      rw [← hy] at d1 d2 d9
      have HX := hide (And.intro hx hy)
      clear hx hy
      obtain ⟨x1, x2, x3⟩ := x
      obtain ⟨y1, y2, y3⟩ := y
      simp only at c1 c2 c9 d1 d2 d9
      obtain ⟨b, hb⟩ : ∃ b, b = ltR (x1, x2, x3) (y1, y2, y3) := ⟨_, rfl⟩
      have HA : Hid (∀ W, Calls Try.prog 56 #[.agg #[.int .u64 x1, .int .u64 x2, .int .i64 x3], .agg #[.int .u64 y1, .int .u64 y2, .int .i64 y3]] W fun e w' => e = .returned (.bool b) ∧ Below W.heap.size W w') := fun W => by rw [hb]; exact ahead_any x1 x2 x3 y1 y2 y3 W
      have HB := hide hb
      clear hb
      go_wp2
      go_region_law (go_simp; go_at_call 56; refine (HA.out _).mono ?_; rintro e w5 ⟨rfl, b5⟩)
      all_goals
        have r5 : RowR w5 (.slice (some ⟨g, 0, none⟩) n cap) lk := HRk.out.kept (Kept.of_below (fp := []) (a := wr) ⟨b5.os, b5.tape, b5.output, b5.size, b5.block⟩) (fun _ _ => by simp)
        have k5 : Kept [g] w w5 := HK.out.trans (fp' := []) (Kept.of_below (a := wr) ⟨b5.os, b5.tape, b5.output, b5.size, b5.block⟩) (fun _ hx => by simp at hx)
        obtain ⟨c1', c2', c9'⟩ := r5.cell3 k (by have := HL.out; omega)
        obtain ⟨d1', d2', d9'⟩ := r5.cell3 p (by have := HL.out; omega)
        rw [← HX.out.1] at c1' c2' c9'
        rw [← HX.out.2] at d1' d2' d9'
        simp only at c1' c2' c9' d1' d2' d9'
        have z1 := r5.frozenAt (k * 3)
        have z2 := r5.frozenAt (k * 3 + 1)
        have z2' := r5.frozenAt (k * 3 + 2)
        have z3 := r5.frozenAt (p * 3)
        have z4 := r5.frozenAt (p * 3 + 1)
        have z4' := r5.frozenAt (p * 3 + 2)
        have R5 := hide r5
        have K5 := hide k5
        clear r5 k5 b5 c1 c2 c9 d1 d2 d9
        cases b with
        | false =>
          go_wp2
          refine bodyPost_ret (results_none rfl _ _ _) rfl ?_
          refine ⟨rfl, lk, R5.out, HU.out.done (.inr ?_), HP.out, K5.out⟩
          have e1 := HX.out
          have e2 := HJ.out
          have e3 := HB.out
          rw [← e2.2, ← e1.1, ← e1.2, ← e3]
        | true =>
          have hne : ¬ k = p := by have := HJ.out; omega
          go_wp2
          go_region
          all_goals
            go_wp2
            go_roundw
            case rel =>
              have e1 := HX.out
              have e2 := HJ.out
              have e3 := HB.out
              have e4 := HL.out
              have q := (R5.out.stored k (by omega) (y1, y2, y3) (e1.2 ▸ R5.out.okAt p (by omega))).stored p (by simp; omega) (x1, x2, x3) (e1.1 ▸ R5.out.okAt k (by omega))
              rw [e1.2, e1.1] at q
              refine ⟨p, (lk.set k lk[p]!).set p lk[k]!, by first | rfl | go_num, hpn, by show _ = _; rw [swap_len]; exact e4, ?_, ?_, (swap_perm lk k p (by omega) (by omega)).trans HP.out, ?_⟩
              · rw [← e1.2, ← e1.1] at q ⊢
                dsimp only at q
                exact q.drew
              · rw [e2.2] at e1 ⊢
                exact HU.out.step (by omega) (by omega) (by rw [← e1.1, ← e1.2]; exact e3.symm)
              · exact ((((((K5.out.setCell (.inl (by simp)) _).setCell (.inl (by simp)) _).setCell (.inl (by simp)) _).setCell (.inl (by simp)) _).setCell (.inl (by simp)) _).setCell (.inl (by simp)) _).drew
            case measure =>
              have := HJ.out
              simp [numOf]
              omega

end Go.Proofs.Ytbppjbdcgcmjiaa.G
