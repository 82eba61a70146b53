/-
  few, cartageref07.Same, cartageref08.Sorted. A lemma file: no statement of the seat is proved here.
-/
import Derived.Test.YtbppjbdcgcmjiaaQShown
namespace Go.Proofs.Ytbppjbdcgcmjiaa
open Go.RowKit

set_option maxRecDepth 100000 in
set_option maxHeartbeats 1000000 in
theorem few_any {w : World} {v : Value} {l : List Rc} (h : IsR w v l) (hl : l.length ≤ 9223372036854775807) :
    Calls Try.prog 12 #[v] w fun e w' => ∃ v', e = .returned v' ∧ RowR w' v' (l.take 100) ∧ Below w.heap.size w w' ∧ (∀ x ∈ own v', w.heap.size ≤ x) := by
  obtain ⟨a, cap, rfl, hcap⟩ := h.form
  obtain ⟨n, hn, hmin⟩ := min100 l.length
  have hnl : n ≤ l.length := by omega
  have ht : l.take 100 = l.take n := by
    rw [hn, List.take_eq_take_iff]
    omega
  have R0 := hide (rowR_empty w)
  have I1 := hide ((h.take n hnl).alloc (.cells #[] 44))
  have HL : Hid (([] : List Rc).length + (l.take n).length ≤ 1099511627776) := by show _ ≤ _; simp; omega
  have hmi : min (l.length : Int) 100 = (n : Int) := by omega
  have HT := hide ht
  clear h ht hn
  go_enter Try.func12, Try.ntmps12
  go_wp2_with (first | (at_builtin; refine wp_appendR _ rfl _ _ rfl (.slice (some ⟨w.heap.size, 0, none⟩) 0 0) (.slice a n cap) [] (l.take n) rfl R0.out rfl I1.out HL.out ?_; intro v' w' hrow hk hn) | go_in)
  go_ret
  refine ⟨v', rfl, by rw [HT.out]; simpa using hrow, ((Below.refl _ w).alloc (Nat.le_refl _) _).trans (hk.below (by simp) (by simp [Value.ownBlock])), fun x hx => ?_⟩
  rcases hn x hx with h | h
  · simp [Value.ownBlock] at h
    omega
  · simp at h
    omega

theorem eq_take {l m : List Rc} {i : Nat} (hl : i < l.length) (hm : i < m.length) (h : l.take i = m.take i) (e : l[i]! = m[i]!) : l.take (i + 1) = m.take (i + 1) := by
  rw [List.take_succ_eq_append_getElem hl, List.take_succ_eq_append_getElem hm, h]
  rw [getElem!_pos l i hl, getElem!_pos m i hm] at e
  rw [e]

set_option maxRecDepth 100000 in
set_option maxHeartbeats 2000000 in
theorem same_any {w : World} {v u : Value} {l m : List Rc} (h : IsR w v l) (k : IsR w u m) (hl : l.length ≤ 1000000) :
    Calls Try.prog 15 #[v, u] w fun e w' => e = .returned (.bool (decide (l = m))) ∧ Kept [] w w' := by
  obtain ⟨a, cap, rfl, hcap⟩ := h.form
  obtain ⟨b, cap2, rfl, hcap2⟩ := k.form
  by_cases hlm : l.length = m.length
  · have H := hide h
    have K := hide k
    obtain ⟨n, hn⟩ : ∃ n, n = l.length := ⟨_, rfl⟩
    have HN := hide (And.intro hn hlm)
    rw [← hlm, ← hn]
    rw [← hn] at hl
    clear h k hlm hcap hcap2 hn
    have hlt0 : Hid (∀ i, i ≤ n → l.take i = m.take i → i = n → decide (l = m) = true) := fun i _ e hi => by
      rw [List.take_of_length_le (by have := HN.out; omega), List.take_of_length_le (by have := HN.out; omega)] at e
      simpa using e
    have hne0 : Hid (∀ i, i < n → ¬ (l[i]! = m[i]!) → decide (l = m) = false) := fun i _ e => by
      simp only [decide_eq_false_iff_not]
      intro h
      exact e (by rw [h])
    generalize decide (l = m) = r at hlt0 hne0 ⊢
    go_enter Try.func15, Try.ntmps15
    go_wp2
    go_loopw [5] (fun vi wr => ∃ i : Nat, vi = .int .i64 i ∧ i ≤ n ∧ Hid (l.take i = m.take i) ∧ Hid (Kept [] w wr)) (fun vi _ => n + 1 - numOf vi)
    case atStart => exact ⟨0, by first | rfl | go_num, Nat.zero_le _, rfl, Kept.refl _ _⟩
    case round =>
      obtain ⟨i, rfl, hi, HE, HK⟩ := hrel
      have hw1 : IntKind.i64.wrap ((i : Int) + 1) = (i : Int) + 1 := i64_small _ (by omega) (by omega)
      by_cases hin : i < n
      · have hin' : (i : Int) < (n : Int) := by omega
        have hil : i < l.length := by have := HN.out; omega
        have him : i < m.length := by have := HN.out; omega
        obtain ⟨g, o, c, e, _, hc⟩ := (H.out.kept HK.out (fun _ _ => by simp)).opened (by omega)
        simp only [Value.slice.injEq] at e
        obtain ⟨rfl, _, rfl⟩ := e
        obtain ⟨g', o', c', e', _, hc'⟩ := (K.out.kept HK.out (fun _ _ => by simp)).opened (by omega)
        simp only [Value.slice.injEq] at e'
        obtain ⟨rfl, _, rfl⟩ := e'
        obtain ⟨c1, c2⟩ := hc i hil
        obtain ⟨d1, d2⟩ := hc' i him
        have HX : Hid (l[i]! = m[i]! → l.take (i + 1) = m.take (i + 1)) := fun e => eq_take hil him HE.out e
        have HY := hide (hne0.out i hin)
        generalize l[i]! = x at c1 c2 HX HY
        generalize m[i]! = y at d1 d2 HX HY
        obtain ⟨x1, x2⟩ := x
        obtain ⟨y1, y2⟩ := y
        dsimp only at c1 c2 d1 d2
        clear hc hc'
        by_cases h1 : x1 = y1
        · by_cases h2 : x2 = y2
          · subst h1
            subst h2
            go_wp2
            go_quiet (fail)
            go_wp2
            go_roundw
            case rel =>
              refine ⟨i + 1, by go_num, by omega, ?_, HK.out.drewN _⟩
              first | exact HX.out trivial | exact HX.out rfl
            case measure => simp [numOf]; omega
          · subst h1
            have HR : Hid (r = false) := HY.out (by simp [h2])
            have h2b : (x2 != y2) = true := by simpa using h2
            go_wp2
            go_quiet (fail)
            go_wp2
            go_ret
            exact ⟨by rw [HR.out]; rfl, HK.out.drewN _⟩
        · have HR : Hid (r = false) := HY.out (by simp [h1])
          have h1b : (x1 != y1) = true := by simpa using h1
          go_wp2
          go_quiet (fail)
          go_wp2
          go_ret
          exact ⟨by rw [HR.out]; rfl, HK.out.drewN _⟩
      · obtain rfl : i = n := by omega
        have HR : Hid (r = true) := hlt0.out i (Nat.le_refl _) HE.out rfl
        go_wp2
        go_ret
        exact ⟨by rw [HR.out]; rfl, HK.out⟩
  · have e : decide (l = m) = false := by
      simp only [decide_eq_false_iff_not]
      intro h
      exact hlm (by rw [h])
    rw [e]
    have hne : ¬ ((l.length : Int) = (m.length : Int)) := by omega
    have hb : ((l.length : Int) != (m.length : Int)) = true := by simpa using hne
    clear h k e
    go_enter Try.func15, Try.ntmps15
    go_wp2
    go_ret
    exact ⟨rfl, Kept.refl _ _⟩

end Go.Proofs.Ytbppjbdcgcmjiaa
