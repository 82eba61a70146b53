/-
  The document's cache: Pin, Unpin. A lemma file: no statement of the seat is proved here.
-/
import Derived.Test.YtokodmeabchmjaaLRef1
namespace Go.Proofs.Ytokodmeabchmjaa
open Go.RowKit Go.Maps Go.Sort

theorem setA_at {l : List (ByteArray × Nat)} (hn : (l.map Prod.fst).Nodup) {k : Nat} (hk : k < l.length) (n : Nat) : setA l l[k].1 n = l.set k (l[k].1, n) := by
  apply List.ext_getElem
  · simp [setA]
  · intro i h1 h2
    have hi : i < l.length := by simpa [setA] using h1
    simp only [setA, List.getElem_map]
    rw [List.getElem_set]
    by_cases e : k = i
    · subst e
      simp
    · have : l[i].1 ≠ l[k].1 := by
        intro q
        have := (List.getElem_inj (h₀ := by simpa using hi) (h₁ := by simpa using hk) hn).1 (by simpa using q)
        exact e this.symm
      simp [e, this]

section
variable {w w' : World} {r : Nat} {lv pv : Value} {fr : Int} {l : List (ByteArray × Nat)}

/-- Another number of pins at a place. -/
theorem RefL.putPin (h : RefL w r lv pv fr l) {g cap : Nat} (e : pv = .slice (some ⟨g, 0, none⟩) l.length cap) {k : Nat} (hk : k < l.length) (m : Nat) : RefL (w.setCell ⟨g, k, none⟩ (.int .i64 m)) r lv pv fr (l.set k (l[k].1, m)) ∧ Kept [g] w (w.setCell ⟨g, k, none⟩ (.int .i64 m)) := by
  have hkp : Kept [g] w (w.setCell ⟨g, k, none⟩ (.int .i64 m)) := (Kept.refl _ w).setCell (p := ⟨g, k, none⟩) (.inl (by simp)) _
  have hg : g ∈ own pv := by rw [e]; simp [own, Value.ownBlock]
  refine ⟨⟨hkp.heap h.cells (by simp only [List.mem_singleton]; intro q; exact h.apartP (q ▸ hg)), ?_, ?_, h.apartL, h.apartP, h.apart⟩, hkp⟩
  · have q := ownsRow_kept h.keys hkp (fun x hx q => by
      simp only [List.mem_singleton] at q
      exact h.apart x hx (q ▸ hg))
    have e2 : (l.set k (l[k].1, m)).map (fun x => Value.string x.1) = l.map (fun x => Value.string x.1) := by
      apply List.ext_getElem
      · simp
      · intro i h1 h2
        simp only [List.getElem_map, List.getElem_set]
        split
        · rename_i q; subst q; rfl
        · rfl
    rw [e2, List.length_set]
    exact q
  · have q := h.pins
    rw [e] at q ⊢
    have s := (World.ownsRow.stored q k (.int .i64 m)).1
    rw [List.length_set, List.map_set]
    exact s

set_option maxRecDepth 100000 in
set_option maxHeartbeats 4000000 in
theorem refPinL (h : RefL w r lv pv fr l) (hf : l.length ≤ 1000) (hn : (l.map Prod.fst).Nodup) (hp : ∀ x ∈ l, x.2 ≤ 1000) (nm : ByteArray) :
    Calls Try.prog 16 #[.pointer (some ⟨r, 0, none⟩), .string nm] w fun e w' => e = .returned (.int .i64 (pinA l nm).1) ∧ RefL w' r lv pv fr (pinA l nm).2 ∧ Kept (lfeet r lv pv) w w' := by
  have FD := hide (refFindL h hf nm)
  have H := hide h
  have c2 := h.cellAt.2.2
  obtain ⟨a, cap, hpv⟩ := h.formP
  subst hpv
  clear h
  rcases placeL_look l nm with ⟨e, hl⟩ | ⟨k, hk, e, hkn, hl⟩
  · rw [e] at FD
    have ep : pinA l nm = (4, l) := by unfold pinA; rw [hl]
    rw [ep]
    clear e hl ep
    go_enter Try.func16, Try.ntmps16
    go_wp2_with (go_at_call 37; refine FD.out.mono ?_; rintro e w1 ⟨rfl, rfl⟩)
    go_ret
    exact ⟨rfl, H.out, Kept.refl _ _⟩
  · rw [e] at FD
    have ep : pinA l nm = (0, l.set k (l[k].1, l[k].2 + 1)) := by unfold pinA; rw [hl]; show (0, setA l nm (l[k].2 + 1)) = _; rw [← hkn, setA_at hn hk]
    rw [ep]
    obtain ⟨g, rfl, cp, zp⟩ := H.out.pinAt hk
    have hpb := hp l[k] (List.getElem_mem hk)
    have PP := hide (H.out.putPin rfl hk (l[k].2 + 1))
    obtain ⟨n, hnn⟩ : ∃ n, n = l[k].2 := ⟨_, rfl⟩
    rw [← hnn] at cp PP hpb ⊢
    have en : ((n + 1 : Nat) : Int) = (n : Int) + 1 := by omega
    rw [en] at PP
    clear e hl ep hkn hnn en hp hn
    go_enter Try.func16, Try.ntmps16
    go_wp2_with (go_at_call 37; refine FD.out.mono ?_; rintro e w1 ⟨rfl, rfl⟩)
    go_region
    all_goals
    go_wp2_with fail
    go_ret
    exact ⟨rfl, PP.out.1.kept ((Kept.refl [] _).drew) (by simp), (PP.out.2.mono (by simp [lfeet, own, Value.ownBlock])).drew⟩

set_option maxRecDepth 100000 in
set_option maxHeartbeats 4000000 in
theorem refUnpinL (h : RefL w r lv pv fr l) (hf : l.length ≤ 1000) (hn : (l.map Prod.fst).Nodup) (hp : ∀ x ∈ l, x.2 ≤ 1000) (nm : ByteArray) :
    Calls Try.prog 18 #[.pointer (some ⟨r, 0, none⟩), .string nm] w fun e w' => e = .returned (.int .i64 (unpinA l nm).1) ∧ RefL w' r lv pv fr (unpinA l nm).2 ∧ Kept (lfeet r lv pv) w w' := by
  have FD := hide (refFindL h hf nm)
  have H := hide h
  have c2 := h.cellAt.2.2
  obtain ⟨a, cap, hpv⟩ := h.formP
  subst hpv
  clear h
  rcases placeL_look l nm with ⟨e, hl⟩ | ⟨k, hk, e, hkn, hl⟩
  · rw [e] at FD
    have ep : unpinA l nm = (4, l) := by unfold unpinA; rw [hl]
    rw [ep]
    clear e hl ep
    go_enter Try.func18, Try.ntmps18
    go_wp2_with (go_at_call 37; refine FD.out.mono ?_; rintro e w1 ⟨rfl, rfl⟩)
    go_ret
    exact ⟨rfl, H.out, Kept.refl _ _⟩
  · rw [e] at FD
    obtain ⟨g, rfl, cp, zp⟩ := H.out.pinAt hk
    have hpb := hp l[k] (List.getElem_mem hk)
    by_cases h0 : l[k].2 = 0
    · have ep : unpinA l nm = (9, l) := by unfold unpinA; rw [hl]; show (if l[k].2 = 0 then _ else _) = _; rw [if_pos h0]
      rw [ep]
      rw [h0] at cp
      clear e hl ep hkn hp hn h0 hpb
      go_enter Try.func18, Try.ntmps18
      go_wp2_with (go_at_call 37; refine FD.out.mono ?_; rintro e w1 ⟨rfl, rfl⟩)
      go_ret
      exact ⟨rfl, H.out, Kept.refl _ _⟩
    · have ep : unpinA l nm = (0, l.set k (l[k].1, l[k].2 - 1)) := by unfold unpinA; rw [hl]; show (if l[k].2 = 0 then _ else (0, setA l nm (l[k].2 - 1))) = _; rw [if_neg h0, ← hkn, setA_at hn hk]
      rw [ep]
      have PP := hide (H.out.putPin rfl hk (l[k].2 - 1))
      obtain ⟨n, hnn⟩ : ∃ n, n = l[k].2 := ⟨_, rfl⟩
      rw [← hnn] at cp PP hpb h0 ⊢
      have en : ((n - 1 : Nat) : Int) = (n : Int) - 1 := by omega
      rw [en] at PP
      have h0z : ((n : Int) == 0) = false := by simpa using h0
      clear e hl ep hkn hnn en hp hn
      go_enter Try.func18, Try.ntmps18
      go_wp2_with (go_at_call 37; refine FD.out.mono ?_; rintro e w1 ⟨rfl, rfl⟩)
      go_region
      all_goals
      go_wp2_with fail
      go_ret
      exact ⟨rfl, PP.out.1.kept ((Kept.refl [] _).drew) (by simp), (PP.out.2.mono (by simp [lfeet, own, Value.ownBlock])).drew⟩

end

end Go.Proofs.Ytokodmeabchmjaa
