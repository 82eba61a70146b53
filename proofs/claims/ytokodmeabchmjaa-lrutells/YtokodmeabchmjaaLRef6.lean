/-
  The document's cache: Drop; what Use wants. A lemma file: no statement of the seat is proved here.
-/
import Derived.Test.YtokodmeabchmjaaLRef5
import Derived.Test.YtokodmeabchmjaaLStep
namespace Go.Proofs.Ytokodmeabchmjaa
open Go.RowKit Go.Maps Go.Sort

section
variable {w w' : World} {fp : List Nat} {r : Nat} {lv pv : Value} {fr : Int} {l : List (ByteArray × Nat)}

set_option maxRecDepth 100000 in
set_option maxHeartbeats 4000000 in
theorem refDropL (h : RefL w r lv pv fr l) (hf : l.length ≤ 1000) (hn : (l.map Prod.fst).Nodup) (hp : ∀ x ∈ l, x.2 ≤ 1000) (nm : ByteArray) :
    Calls Try.prog 20 #[.pointer (some ⟨r, 0, none⟩), .string nm] w fun e w' => e = .returned (.int .i64 (dropA l nm).1) ∧ RefO w w' (lfeet r lv pv) r fr (dropA l nm).2 := by
  have FD := hide (refFindL h hf nm)
  have H := hide h
  have c2 := h.cellAt.2.2
  obtain ⟨a, cap, hpv⟩ := h.formP
  subst hpv
  clear h
  rcases placeL_look l nm with ⟨e, hl⟩ | ⟨k, hk, e, hkn, hl⟩
  · rw [e] at FD
    have ep : dropA l nm = (4, l) := by unfold dropA; rw [hl]
    rw [ep]
    clear e hl ep
    go_enter Try.func20, Try.ntmps20
    go_wp2_with (go_at_call 37; refine FD.out.mono ?_; rintro e w1 ⟨rfl, rfl⟩)
    go_ret
    exact ⟨rfl, _, ⟨_, _, H.out, rfl⟩, Kept.refl _ _, Newly.refl _ _⟩
  · rw [e] at FD
    obtain ⟨g, rfl, cp, zp⟩ := H.out.pinAt hk
    have hpb := hp l[k] (List.getElem_mem hk)
    by_cases h0 : l[k].2 = 0
    · have ep : dropA l nm = (0, l.eraseIdx k) := by unfold dropA; rw [hl]; show (if l[k].2 = 0 then _ else _) = _; rw [if_pos h0, ← hkn, delA_at hn hk]
      rw [ep]
      rw [h0] at cp
      have CT := hide (cut_any H.out k hk hf)
      clear e hl ep hkn hp hn h0 hpb
      go_enter Try.func20, Try.ntmps20
      go_wp2_with first | (go_at_call 37; refine FD.out.mono ?_; rintro e w1 ⟨rfl, rfl⟩) | (go_at_call 38; refine CT.out.mono ?_; rintro e w1 ⟨rfl, o⟩; have O := hide o; clear o)
      go_ret
      obtain ⟨lv', pv', o1, o2, o3⟩ := O.out
      exact ⟨rfl, _, ⟨_, _, o1, rfl⟩, o2.mono (by simp [lfeet]), fun x hx => by rcases o3 x hx with q | q; exact .inl (by simp [lfeet, q]); exact .inr q⟩
    · have ep : dropA l nm = (9, l) := by unfold dropA; rw [hl]; show (if l[k].2 = 0 then _ else _) = _; rw [if_neg h0]
      rw [ep]
      obtain ⟨n, hnn⟩ : ∃ n, n = l[k].2 := ⟨_, rfl⟩
      rw [← hnn] at cp hpb h0
      have h0z : (0 : Int) < (n : Int) := by omega
      clear e hl ep hkn hnn hp hn
      go_enter Try.func20, Try.ntmps20
      go_wp2_with (go_at_call 37; refine FD.out.mono ?_; rintro e w1 ⟨rfl, rfl⟩)
      go_ret
      exact ⟨rfl, _, ⟨_, _, H.out, rfl⟩, Kept.refl _ _, Newly.refl _ _⟩

end
end Go.Proofs.Ytokodmeabchmjaa
