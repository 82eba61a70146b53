/-
  cartageref08.Cut. A lemma file: no statement of the seat is proved here.
-/
import Derived.Test.YtbppjbdcgcmjiaaQRefR
namespace Go.Proofs.Ytbppjbdcgcmjiaa
open Go.RowKit

set_option maxRecDepth 100000 in
set_option maxHeartbeats 2000000 in
theorem refCut_any {w : World} {v : Value} {E : List Rc} (n : Nat) (how : Int) (h : IsR w v E) (hl : E.length ≤ 100000) (hn : 0 < n) (hn1 : n ≤ 100000) :
    Calls Try.prog 18 #[v, .int .i64 n, .int .i64 how] w fun e w' => ∃ v', e = .returned v' ∧ IsRR w' v' (cutL how n E) ∧ Below w.heap.size w w' := by
  obtain ⟨a0, c0, rfl, hc0⟩ := h.form
  have SO := hide (fun (W : World) (v : Value) (l : List Rc) (h : IsR W v l) (hl : l.length ≤ 100000) => refSortedR_any how h hl)
  have HI := hide (And.intro h hl)
  have R0 := hide (And.intro (rowX_empty (fun _ => False) w) ((Below.refl _ w).alloc (Nat.le_refl _) (.cells #[] 22)))
  obtain ⟨m, hm⟩ : ∃ m, m = E.length := ⟨_, rfl⟩
  have HM := hide (And.intro hm (And.intro hn hn1))
  rw [← hm] at HI hc0 hl
  rw [← hm]
  clear h hm
  go_enter Try.func18, Try.ntmps18
  go_wp2
  go_loopw [0, 7] (fun vl vo wr => ∃ (k L : Nat) (al : Option Addr) (cl : Nat), vl = .slice al L cl ∧ L + k * n = max m (k * n) ∧ L ≤ cl ∧ k ≤ pcN m n ∧ Hid (IsR w (.slice al L cl) (E.drop (k * n)) ∧ RowX (fun _ => False) wr vo ((List.range k).map fun j => canR how (pcL E n j)) ∧ (∀ x ∈ own vo, w.heap.size ≤ x) ∧ Below w.heap.size w wr)) (fun vl _ _ => lenV vl)
  case atStart =>
    refine ⟨0, m, a0, c0, rfl, by simp, hc0, Nat.zero_le _, ?_, R0.out.1, by simp [own, Value.ownBlock], R0.out.2⟩
    have := HI.out.1
    simpa using this
  case round =>
    obtain ⟨k, L, al, cl, rfl, hL, hcl, hk, HR⟩ := hrel
    by_cases hpos : 0 < L
    · have hp' : (0 : Int) < (L : Int) := by omega
      have hkm : k * n < m := by omega
      have hkn := (pcN_lt (len := m) (k := k) HM.out.2.1).2 hkm
      have hdl : (E.drop (k * n)).length = L := by rw [List.length_drop, ← HM.out.1]; omega
      obtain ⟨h1, h2, h3, h4⟩ := HR.out
      obtain ⟨b, off, c', e, hxa, hxb⟩ := h1.opened (by omega)
      simp only [Value.slice.injEq] at e
      obtain ⟨rfl, hx1, rfl⟩ := e
      clear hx1 hxa hxb
      obtain ⟨q, hq⟩ : ∃ q, q = min n L := ⟨_, rfl⟩
      have hmi : min (n : Int) (L : Int) = (q : Int) := by omega
      have hqL : (q : Int) ≤ (L : Int) := by omega
      have hqc : (q : Int) ≤ (cl : Int) := by omega
      have hq0 : 0 < q := by have := HM.out.2.1; omega
      have hpc : (E.drop (k * n)).take q = pcL E n k := by
        unfold pcL
        rw [List.take_eq_take_iff]
        omega
      have hP := h1.take q (by omega)
      rw [hpc] at hP
      have hD := h1.drop q (by omega)
      rw [List.drop_drop] at hD
      have hL2 : L - q + (k + 1) * n = max m ((k + 1) * n) := by rw [Nat.succ_mul]; omega
      have hDD : IsR w (.slice (some ⟨b, off + q * 2, none⟩) (L - q) (cl - q)) (E.drop ((k + 1) * n)) := by
        by_cases he : q = n
        · rw [Nat.succ_mul, ← he]
          exact he ▸ hD
        · have h1 : m ≤ k * n + q := by omega
          have h2 : m ≤ (k + 1) * n := by rw [Nat.succ_mul]; omega
          rw [List.drop_of_length_le (by rw [← HM.out.1]; omega)] at hD ⊢
          exact hD
      have hDE : L = q → E.drop ((k + 1) * n) = [] := fun h => by
        refine List.drop_of_length_le ?_
        rw [← HM.out.1]
        have := Nat.le_max_left m ((k + 1) * n)
        omega
      have hPl : (pcL E n k).length ≤ 100000 := by rw [pcL_length]; have := HM.out.2.2; omega
      have HP := hide (And.intro hP (And.intro hPl (And.intro hDD (And.intro hL2 (And.intro hkn hDE)))))
      have HX := hide (And.intro h2 (And.intro h3 h4))
      have hnew : Hid (∀ u w', RowR w' u (canR how (pcL E n k)) → Below wr.heap.size wr w' → ∀ ty, ∃ v' w2, (Builtin.append_ #[28, 28] ty #[u7, .slice (some ⟨w'.heap.size, 0, none⟩) 1 1]).run Try.prog (w'.alloc (.cells #[u] 22)) = .ok v' w2 ∧ (RowX (fun _ => False) w2 v' ((List.range (k + 1)).map fun j => canR how (pcL E n j)) ∧ (∀ x ∈ own v', w.heap.size ≤ x) ∧ Below w.heap.size w w2)) := fun u w' r b' ty => by
        have h2' := HX.out.1.below b'
        obtain ⟨v', w2, hrun, hr, hkp, hnw⟩ := h2'.push r.isR (fun _ x hx => ⟨r.notX h2' x hx, fun h => h⟩) (by have := HP.out.2.2.2.2.1; have := pcN_le m n HM.out.2.1; have := HI.out.2; simp; omega) ty
        have hs := HX.out.2.2.size
        have b0 : Below w.heap.size w w' := HX.out.2.2.trans (b'.mono hs)
        refine ⟨v', w2, hrun, ?_, fun x hx => ?_, b0.trans (hkp.below b0.size HX.out.2.1)⟩
        · rw [List.range_succ, List.map_append]
          exact hr
        · rcases hnw x hx with h | h
          · exact HX.out.2.1 x h
          · have := b0.size
            omega
      clear hP hPl hDD hDE hL2 hkn hD hpc h1 h2 h3 h4 HR hdl hkm
      have hqle : q ≤ L := by omega
      have hcase : cl = q ∨ ¬ cl = q := Classical.em _
      clear hq hL
      rcases hcase with hc | hc
      · subst hc
        obtain rfl : L = cl := by omega
        go_wp2_with fail
        refine (SO.out _ _ _ (HP.out.1.below HX.out.2.2) HP.out.2.1).mono ?_
        rintro e w2 ⟨u, rfl, r2, b2⟩
        obtain ⟨ua, un, uc, rfl⟩ : ∃ a n c, u = .slice a n c := by obtain ⟨a, c, e, _⟩ := r2.isR.form; exact ⟨a, _, c, e⟩
        have H4 := hide (hnew.out _ w2 r2 b2)
        clear r2 b2
        go_wp2_with (first | (at_builtin; refine wp_appendY _ _ rfl 28 _ _ rfl _ _ rfl rfl (H4.out _) ?_; intro v' w' hrow) | go_in)
        go_roundw
        case rel =>
          refine ⟨k + 1, 0, some ⟨b, off, none⟩, 0, by simp, by have := HP.out.2.2.2.1; rw [Nat.sub_self] at this; exact this, Nat.le_refl _, HP.out.2.2.2.2.1, ?_, hrow⟩
          rw [HP.out.2.2.2.2.2 (by trivial)]
          exact IsR.none0
        case measure => simp [lenV]; omega
      · go_wp2_with fail
        refine (SO.out _ _ _ (HP.out.1.below HX.out.2.2) HP.out.2.1).mono ?_
        rintro e w2 ⟨u, rfl, r2, b2⟩
        obtain ⟨ua, un, uc, rfl⟩ : ∃ a n c, u = .slice a n c := by obtain ⟨a, c, e, _⟩ := r2.isR.form; exact ⟨a, _, c, e⟩
        have H4 := hide (hnew.out _ w2 r2 b2)
        clear r2 b2
        go_wp2_with (first | (at_builtin; refine wp_appendY _ _ rfl 28 _ _ rfl _ _ rfl rfl (H4.out _) ?_; intro v' w' hrow) | go_in)
        go_roundw
        case rel => exact ⟨k + 1, L - q, _, cl - q, rfl, HP.out.2.2.2.1, by omega, HP.out.2.2.2.2.1, HP.out.2.2.1, hrow⟩
        case measure => simp [lenV]; omega
    · obtain rfl : L = 0 := by omega
      have hle : ¬ ((0 : Int) < ((0 : Nat) : Int)) := by omega
      obtain ⟨h1, h2, h3, h4⟩ := HR.out
      have hkk : k = pcN m n := by
        have := fun h => (pcN_lt (len := m) (k := k) HM.out.2.1).1 h
        omega
      have F : Hid (IsRR wr u7 (cutL how n E) ∧ Below w.heap.size w wr) := ⟨by rw [cutL, ← HM.out.1, ← hkk]; exact h2.isRR, h4⟩
      clear h1 h2 h3 h4 HR hkk hL
      go_wp2
      go_ret
      exact ⟨_, rfl, F.out⟩

end Go.Proofs.Ytbppjbdcgcmjiaa
