/-
  What the reference's Alike does. A lemma file: no statement of the seat is proved here.
-/
import Derived.Test.YtjkdnibfppjolaaDecEnc
namespace Go.Proofs.Ytjkdnibfppjolaa
open Go.RowKit

theorem eq_of_at (es fs : List Ed) (hl : es.length = fs.length) (h : ∀ j, j < es.length → es[j]! = fs[j]!) : es = fs := by
  apply List.ext_getElem hl
  intro k h1 h2
  have := h k h1
  rw [getElem!_pos es k h1, getElem!_pos fs k h2] at this
  exact this

set_option maxRecDepth 100000 in
set_option maxHeartbeats 4000000 in
theorem alike_any (v u : Value) (es fs : List Ed) (w : World) (hv : IsE w v es) (hu : IsE w u fs) (hl : es.length ≤ 1048576000) :
    Calls Try.prog 16 #[v, u] w fun e w' => e = .returned (.bool (decide (es = fs))) ∧ Below w.heap.size w w' := by
  obtain ⟨a, cap, rfl, _⟩ := hv.form
  obtain ⟨b, cbp, rfl, _⟩ := hu.form
  by_cases hlen : es.length = fs.length
  · have HV := hide hv
    have HU := hide hu
    have hn : ((es.length : Int) != (fs.length : Int)) = false := by simp; omega
    have HL := hide hlen
    obtain ⟨r, hr⟩ : ∃ r, r = decide (es = fs) := ⟨_, rfl⟩
    rw [← hr]
    have HR := hide hr
    clear hv hu hlen hr
    go_enter Try.func16, Try.ntmps16
    go_wp2
    go_loopw [5] (fun i wr => ∃ k : Nat, k ≤ es.length ∧ i = .int .i64 k ∧ Hid (∀ j, j < k → es[j]! = fs[j]!) ∧ Hid (Below w.heap.size w wr)) (fun i _ => es.length - (intOf i).toNat)
    case atStart => exact ⟨0, Nat.zero_le _, rfl, fun j hj => absurd hj (Nat.not_lt_zero _), Below.refl _ _⟩
    case round =>
      obtain ⟨k, hk, rfl, HA, HB⟩ := hrel
      by_cases hlt : k < es.length
      · have hlt2 : k < fs.length := by have := HL.out; omega
        obtain ⟨p, poff, pcap, he, _, hpb, hpc⟩ := (HV.out.below HB.out).opened (by omega)
        obtain ⟨q, qoff, qcap, he2, _, hqb, hqc⟩ := (HU.out.below HB.out).opened (by omega)
        simp only [Value.slice.injEq, true_and] at he he2
        obtain ⟨rfl, rfl⟩ := he
        obtain ⟨rfl, rfl⟩ := he2
        obtain ⟨l0, l1, l2⟩ := IsE.at hpc k hlt
        obtain ⟨m0, m1, m2⟩ := IsE.at hqc k hlt2
        obtain ⟨x, hx⟩ : ∃ x, x = es[k]! := ⟨_, rfl⟩
        obtain ⟨y, hy⟩ : ∃ y, y = fs[k]! := ⟨_, rfl⟩
        rw [← hx] at l0 l1 l2
        rw [← hy] at m0 m1 m2
        have HX := hide hx
        have HY := hide hy
        have hne := neqEdge.1 x y
        have hgd := fun op o1 o2 => neqEdge.2 op o1 o2 x y
        obtain ⟨x1, x2, x3⟩ := x
        obtain ⟨y1, y2, y3⟩ := y
        simp only [encE] at hne hgd
        dsimp only at l0 l1 l2 m0 m1 m2
        clear hpc hqc hx hy
        have hki : (k : Int) < (es.length : Int) := by omega
        have hki2 : (k : Int) < (fs.length : Int) := by omega
        by_cases hxy : ((x1, x2, x3) : Ed) = (y1, y2, y3)
        · rw [show (!decide (((x1, x2, x3) : Ed) = (y1, y2, y3))) = false by simpa using hxy] at hne
          have HXY := hide hxy
          clear hxy
          go_wp2
          go_quiet (fail)
          go_wp2
          go_roundw
          case rel =>
            have R : Hid (∀ j, j < k + 1 → es[j]! = fs[j]!) := fun j hj => by
              by_cases e : j = k
              · subst e; rw [← HX.out, ← HY.out, HXY.out]
              · exact HA.out j (by omega)
            have R2 := Go.Proofs.below_drewN' HB.out nq
            first | exact ⟨k + 1, by omega, by go_num, R, R2⟩ | ((repeat apply Exists.intro); exact ⟨⟨k + 1, by omega, by go_num, R, R2⟩, rfl⟩)
          case measure => simp [intOf]; omega
        · rw [show (!decide (((x1, x2, x3) : Ed) = (y1, y2, y3))) = true by rw [decide_eq_false hxy]; rfl] at hne
          have hr : r = false := by
            rw [HR.out, decide_eq_false_iff_not]
            intro e
            apply hxy
            rw [HX.out, HY.out, e]
          subst hr
          clear hxy
          go_wp2
          go_quiet (fail)
          go_wp2
          go_ret
          exact ⟨rfl, Go.Proofs.below_drewN' HB.out nq⟩
      · have hr : r = true := by
          rw [HR.out, decide_eq_true_eq]
          exact eq_of_at es fs HL.out (fun j hj => HA.out j (by omega))
        subst hr
        go_wp2
        go_ret
        exact ⟨rfl, HB.out⟩
  · have hn : ((es.length : Int) != (fs.length : Int)) = true := by simp; omega
    rw [show decide (es = fs) = false by rw [decide_eq_false_iff_not]; intro e; exact hlen (by rw [e])]
    clear hv hu hlen
    go_enter Try.func16, Try.ntmps16
    go_wp2
    go_ret
    exact ⟨rfl, Below.refl _ _⟩

end Go.Proofs.Ytjkdnibfppjolaa
