/-
  What the reference's Right does. A lemma file: no statement of the seat is proved here.
-/
import Derived.Test.YtjkdnibfppjolaaRefDec
namespace Go.Proofs.Ytjkdnibfppjolaa
open Go.RowKit

theorem any_of (n : Int) (es : List Ed) (k : Nat) (hk : k < es.length) (h : 0 ≤ wrongE n es[k]!) : (es.any fun x => decide (0 ≤ wrongE n x)) = true := by
  rw [List.any_eq_true]
  exact ⟨es[k]!, by rw [getElem!_pos es k hk]; exact List.getElem_mem hk, by simpa using h⟩
theorem any_none (n : Int) (es : List Ed) (h : ∀ j, j < es.length → ¬ 0 ≤ wrongE n es[j]!) : (es.any fun x => decide (0 ≤ wrongE n x)) = false := by
  rw [List.any_eq_false]
  intro x hx
  obtain ⟨j, hj, rfl⟩ := List.getElem_of_mem hx
  have := h j hj
  rw [getElem!_pos es j hj] at this
  simpa using this

set_option maxRecDepth 100000 in
set_option maxHeartbeats 4000000 in
theorem rright_any (n : Int) (h1 : n < 9223372036854775808) (v : Value) (es : List Ed) (w : World) (hv : IsE w v es) (hl : es.length ≤ 140737488355328) :
    Calls Try.prog 14 #[.agg #[.int .i64 n, v]] w fun e w' => e = .returned (.bool (rightB n es)) ∧ Below w.heap.size w w' := by
  by_cases hn0 : n < 0
  · have hr : rightB n es = false := by simp [rightB]; omega
    obtain ⟨a, cap, rfl, _⟩ := hv.form
    rw [hr]
    go_enter Try.func14, Try.ntmps14
    go_wp2
    go_ret
    exact ⟨rfl, (Below.refl _ _).alloc (Nat.le_refl _) _⟩
  · by_cases hn1 : 1048576 < n
    · have hr : rightB n es = false := by simp [rightB]; omega
      obtain ⟨a, cap, rfl, _⟩ := hv.form
      rw [hr]
      go_enter Try.func14, Try.ntmps14
      go_wp2
      go_ret
      exact ⟨rfl, (Below.refl _ _).alloc (Nat.le_refl _) _⟩
    · by_cases hl1 : 1048576 < es.length
      · have hr : rightB n es = false := by simp [rightB]; omega
        obtain ⟨a, cap, rfl, _⟩ := hv.form
        rw [hr]
        go_enter Try.func14, Try.ntmps14
        go_wp2
        go_ret
        exact ⟨rfl, (Below.refl _ _).alloc (Nat.le_refl _) _⟩
      · have hr : rightB n es = !(es.any fun x => decide (0 ≤ wrongE n x)) := by
          have a1 : (0 : Int) ≤ n := by omega
          have a2 : n ≤ 1048576 := by omega
          have a3 : es.length ≤ 1048576 := by omega
          simp [rightB, a1, a2, a3]
        have hok := hv.ok
        have HV := hide hv
        obtain ⟨a, cap, rfl, _⟩ := hv.form
        obtain ⟨r, hr2⟩ : ∃ r, r = rightB n es := ⟨_, rfl⟩
        rw [← hr2] at hr ⊢
        have HR := hide hr
        have HOK := hide hok
        clear hv hr hr2 hok
        have s0 := heap_alloc_new w (.cells #[.int .i64 n, .slice a es.length cap] 24)
        have S0 := hide s0
        have B0 := hide ((Below.refl _ w).alloc (Nat.le_refl _) (.cells #[.int .i64 n, .slice a es.length cap] 24))
        clear s0
        go_enter Try.func14, Try.ntmps14
        go_wp2
        go_loopw [2, 3] (fun _ i wr => ∃ k : Nat, k ≤ es.length ∧ i = .int .i64 k ∧ Hid (∀ j, j < k → ¬ 0 ≤ wrongE n es[j]!) ∧ Hid (Below w.heap.size w wr) ∧ Hid (wr.heap[w.heap.size]? = some (.cells #[.int .i64 n, .slice a es.length cap] 24 (0, 0)))) (fun _ i _ => es.length - (intOf i).toNat)
        case atStart => exact ⟨0, Nat.zero_le _, rfl, fun j hj => absurd hj (Nat.not_lt_zero _), B0, S0⟩
        case round =>
          obtain ⟨k, hk, rfl, HA, HB, HS⟩ := hrel
          obtain ⟨c0, c1, f0⟩ := cells2 HS.out
          by_cases hlt : k < es.length
          · obtain ⟨p, poff, pcap, he, _, hpb, hpc⟩ := (HV.out.below HB.out).opened (by omega)
            simp only [Value.slice.injEq, true_and] at he
            obtain ⟨rfl, rfl⟩ := he
            obtain ⟨l0, l1, l2⟩ := IsE.at hpc k hlt
            have hxo := HOK.out es[k]! (by rw [getElem!_pos es k hlt]; exact List.getElem_mem hlt)
            have hw := wrongE_ok n es[k]! hxo
            have han := any_of n es k hlt
            obtain ⟨x, hx⟩ : ∃ x, x = es[k]! := ⟨_, rfl⟩
            rw [← hx] at l0 l1 l2 hxo hw han
            have HX := hide hx
            obtain ⟨x1, x2, x3⟩ := x
            obtain ⟨⟨ha0, ha1⟩, ⟨hb0, hb1⟩, _⟩ := hxo
            dsimp only at l0 l1 l2 ha0 ha1 hb0 hb1 hw
            have HW := hide hw
            have HAN := hide han
            have hki : (k : Int) < (es.length : Int) := by omega
            clear hpc hx hw han
            by_cases h2 : n ≤ x1
            · have hr : r = false := by rw [HR.out, HAN.out (by rw [HW.out, if_pos h2]; omega)]; rfl
              subst hr
              have hd : decide (n ≤ x1) = true := by simpa using h2
              go_wp2
              go_quiet (fail)
              go_wp2
              go_ret
              exact ⟨rfl, Go.Proofs.below_drewN' HB.out nq⟩
            · have hd : decide (n ≤ x1) = false := by simpa using h2
              by_cases h3 : n ≤ x2
              · have hr : r = false := by rw [HR.out, HAN.out (by rw [HW.out, if_neg h2, if_pos h3]; omega)]; rfl
                subst hr
                go_wp2
                go_quiet (fail)
                go_wp2
                go_ret
                exact ⟨rfl, Go.Proofs.below_drewN' HB.out nq⟩
              · go_wp2
                go_quiet (fail)
                go_wp2
                go_roundw
                case rel =>
                  have R : Hid (∀ j, j < k + 1 → ¬ 0 ≤ wrongE n es[j]!) := fun j hj => by
                    by_cases e : j = k
                    · subst e; rw [← HX.out, HW.out, if_neg (by omega), if_neg (by omega)]; omega
                    · have := HA.out j (by omega); omega
                  have R2 := Go.Proofs.below_drewN' HB.out nq
                  first | exact ⟨k + 1, by omega, by go_num, R, R2, HS⟩ | ((repeat apply Exists.intro); exact ⟨⟨k + 1, by omega, by go_num, R, R2, HS⟩, rfl⟩)
                case measure => simp [intOf]; omega
          · have hr : r = true := by rw [HR.out, any_none n es (fun j hj => HA.out j (by omega))]; rfl
            subst hr
            go_wp2
            go_ret
            exact ⟨rfl, HB.out⟩

end Go.Proofs.Ytjkdnibfppjolaa
