/-
  The document's cache: Use where all frames are taken. A lemma file: no statement of the seat is proved here.
-/
import Derived.Test.YtokodmeabchmjaaLRef7
namespace Go.Proofs.Ytokodmeabchmjaa
open Go.RowKit Go.Maps Go.Sort

/-- What cut leaves. -/
def CutO (w w' : World) (r : Nat) (fr : Int) (l : List (ByteArray × Nat)) : Prop := ∃ lv' pv', RefL w' r lv' pv' fr l ∧ Kept [r] w w' ∧ ∀ x ∈ lfeet r lv' pv', x = r ∨ w.heap.size ≤ x

/-- How the search stands. -/
def SeekL (W : World) (r : Nat) (fr : Int) (l : List (ByteArray × Nat)) (g i k : Value) (wr : World) : Prop :=
  (∃ j : Nat, j ≤ l.length ∧ k = .int .i64 j ∧ g = .string ⟨#[]⟩ ∧ i = .bool false ∧ Hid (∀ t (h : t < l.length), t < j → l[t].2 ≠ 0) ∧ wr = W) ∨
  (∃ (j : Nat) (h : j < l.length), k = .int .i64 ((j : Int) + 1) ∧ g = .string l[j].1 ∧ i = .bool true ∧ Hid (l[j].2 = 0 ∧ ∀ t (h : t < l.length), t < j → l[t].2 ≠ 0) ∧ Hid (CutO W wr r fr (l.eraseIdx j)))

def seekM (l : List (ByteArray × Nat)) (i k : Value) : Nat := match i with | .bool true => 0 | _ => l.length + 1 - numOf k

theorem firstA_at {l : List (ByteArray × Nat)} {j : Nat} (hj : j < l.length) (h0 : l[j].2 = 0) (h : ∀ t (h : t < l.length), t < j → l[t].2 ≠ 0) : firstA l = some l[j].1 := by
  unfold firstA
  have : l.find? (fun x => decide (x.2 = 0)) = some l[j] := by
    rw [List.find?_eq_some_iff_getElem]
    exact ⟨by simpa using h0, j, hj, rfl, fun t ht => by simpa using h t (by omega) ht⟩
  rw [this]
  rfl
theorem firstA_none {l : List (ByteArray × Nat)} (h : ∀ t (h : t < l.length), l[t].2 ≠ 0) : firstA l = none := by
  unfold firstA
  rw [Option.map_eq_none_iff, List.find?_eq_none]
  intro x hx
  obtain ⟨t, ht, rfl⟩ := List.getElem_of_mem hx
  simpa using h t ht

section
variable {w w' : World} {fp : List Nat} {r : Nat} {lv pv : Value} {fr : Int} {l : List (ByteArray × Nat)}

set_option maxRecDepth 100000 in
set_option maxHeartbeats 4000000 in
theorem refUseB (h : RefL w r lv pv fr l) (hf : l.length ≤ 1000) (hnd : (l.map Prod.fst).Nodup) (nm : ByteArray) (hl : lookA l nm = none) (hle : (l.length : Int) = fr) :
    Calls Try.prog 14 #[.pointer (some ⟨r, 0, none⟩), .string nm] w fun e w' => e = .returned (.tuple #[S.goneV (useA fr l nm).1, .bool (useA fr l nm).1.isSome, .int .i64 (useA fr l nm).2.1]) ∧ RefO w w' (lfeet r lv pv) r fr (useA fr l nm).2.2 := by
  have FD := hide (refFindL h hf nm)
  have HU : Hid (firstA l = none → useA fr l nm = (none, 8, l)) := fun q => by unfold useA; rw [hl]; simp [hle, q]
  have HU2 : Hid (∀ k0, firstA l = some k0 → useA fr l nm = (some k0, 0, delA l k0 ++ [(nm, 0)])) := fun k0 q => by unfold useA; rw [hl]; simp [hle, q]
  rcases placeL_look l nm with ⟨e, hl⟩ | ⟨k, hk, e, hkn, hl2⟩
  rotate_left
  · rw [hl] at hl2; cases hl2
  rw [e] at FD
  have h1 : RefL w.drew r lv pv fr l := h.kept (fp := []) ((Kept.refl [] w).drew) (by simp)
  have HDR := hide ((Kept.refl (lfeet r lv pv) w).drew)
  obtain ⟨a, cap, hlv⟩ := h.formL
  obtain ⟨b, capb, hpv⟩ := h.formP
  obtain ⟨c0, c1, c2⟩ := h.cellAt
  obtain ⟨d0, d1, d2⟩ := h1.cellAt
  have H1 := hide h1
  have HND := hide hnd
  have HF := hide hf
  subst hlv
  subst hpv
  clear e hl h h1 hnd hf
  generalize hU : useA fr l nm = U at HU HU2 ⊢
  have HUU := hide hU
  clear hU
  subst hle
  go_enter Try.func14, Try.ntmps14
  go_wp2_with (go_at_call 37; refine FD.out.mono ?_; rintro e w1 ⟨rfl, rfl⟩)
  go_region
  all_goals
    have HW := hide (rfl : w1.drew = w1.drew)
    generalize w1.drew = W at H1 d0 d1 d2 HDR HW ⊢
    go_wp2_with fail
    go_loopw [9, 10, 11] (fun g i k wr => SeekL W r (l.length : Int) l g i k wr) (fun _ i k _ => seekM l i k)
    case atStart => exact .inl ⟨0, Nat.zero_le _, rfl, rfl, rfl, fun j _ hj => absurd hj (Nat.not_lt_zero _), rfl⟩
    case round =>
      rcases hrel with ⟨j, hj, rfl, rfl, rfl, HN, rfl⟩ | ⟨j, hj, rfl, rfl, rfl, HN, HC⟩
      · have hfo : l.length ≤ 1000 := HF.out
        by_cases hlt : j < l.length
        · obtain ⟨gp, rfl, cp, _⟩ := H1.out.pinAt hlt
          obtain ⟨gl, rfl, cl⟩ := H1.out.keyAt hlt
          by_cases h0 : l[j].2 = 0
          · rw [h0] at cp
            have CT := hide (cut_any H1.out j hlt HF.out)
            have hi : (j : Int) < (l.length : Int) := by omega
            obtain ⟨kk, hkk⟩ : ∃ kk, kk = l[j].1 := ⟨_, rfl⟩
            rw [← hkk] at cl
            have HKK := hide hkk
            clear hkk
            go_wp2_with (go_at_call 38; refine CT.out.mono ?_; rintro e w2 ⟨rfl, o⟩; have O := hide o; clear o)
            go_roundw
            case rel => exact .inr ⟨j, hlt, by go_num, by rw [HKK.out], rfl, ⟨h0, HN.out⟩, O.out⟩
            case measure => simp [seekM, numOf]; omega
          · obtain ⟨pn, hpn⟩ : ∃ pn, pn = l[j].2 := ⟨_, rfl⟩
            rw [← hpn] at cp h0
            have hz : ((pn : Int) == 0) = false := by simpa using h0
            have hi : (j : Int) < (l.length : Int) := by omega
            have HN2 : Hid (∀ t (h : t < l.length), t < j + 1 → l[t].2 ≠ 0) := by
              intro t ht htj e
              by_cases e2 : t = j
              · subst e2; exact h0 (by rw [hpn, e])
              · exact HN.out t ht (by omega) e
            clear hpn
            go_wp2_with fail
            go_roundw
            case rel => exact .inl ⟨j + 1, by omega, by go_num, rfl, rfl, HN2, rfl⟩
            case measure => simp [seekM, numOf]; omega
        · have HE := hide (HU.out (firstA_none fun t ht => HN.out t ht (by omega)))
          have hi : ¬ (j : Int) < (l.length : Int) := by omega
          go_wp2_with fail
          go_ret3
          rw [HE.out]
          exact ⟨rfl, _, ⟨_, _, H1.out, rfl⟩, HDR.out, Newly.refl _ _⟩
      · have HE := hide (HU2.out _ (firstA_at hj HN.out.1 HN.out.2))
        have HDL := hide (delA_at HND.out hj)
        obtain ⟨m, hm⟩ : ∃ m, m = l.eraseIdx j := ⟨_, rfl⟩
        have hml : m.length ≤ 1000 := by have := HF.out; rw [hm, List.length_eraseIdx]; split <;> omega
        rw [← hm] at HC HDL
        obtain ⟨XS, hXS⟩ : ∃ XS, XS = m.map fun x => Value.string x.1 := ⟨_, rfl⟩
        obtain ⟨YS, hYS⟩ : ∃ YS, YS = m.map fun x => Value.int .i64 x.2 := ⟨_, rfl⟩
        have HL1 : Hid (XS.length + 1 ≤ 1000000) := by show _ ≤ _; rw [hXS]; simp; omega
        have HL2 : Hid (YS.length + 1 ≤ 1000000) := by show _ ≤ _; rw [hYS]; simp; omega
        have HX := hide (And.intro hXS hYS)
        obtain ⟨lv', pv', o1, o2, o3⟩ := HC.out
        obtain ⟨a', cap', hlv⟩ := o1.formL
        subst hlv
        obtain ⟨e0, e1, e2⟩ := o1.cellAt
        have HT := hide o1
        have HR1 := hide o1.rows.1
        rw [← HX.out.1] at HR1
        have HK := hide (And.intro o2 o3)
        obtain ⟨kk, hkk⟩ : ∃ kk, kk = l[j].1 := ⟨_, rfl⟩
        rw [← hkk] at HE HDL
        rw [← hkk]
        clear hkk hXS hYS hm hml o1 o2 o3 HC d0 d1 d2 c0 c1 c2
        by_cases hb : (j : Int) + 1 < (m.length : Int)
        all_goals
          go_wp2_with first | (refine wp_pushVS _ rfl (.tmp 74) (.tmp 76) rfl (.slice a' m.length cap') XS nm rfl HR1.out rfl HL1.out ?_; intro v5 w5 r5 k5 n5; obtain ⟨a5, p5, e5⟩ := r5.form; obtain ⟨m5, hm5⟩ : ∃ m, m = (XS ++ [Value.string nm]).length := ⟨_, rfl⟩; rw [← hm5] at e5; clear hm5; subst e5; have R5 := hide r5; have K5 := hide k5; have N5 := hide n5; obtain ⟨g1, g2, g3, g4⟩ := push_mid HT.out k5 (.slice a5 m5 p5); rw [← HX.out.2] at g4; have G4 := hide g4; clear r5 k5 n5 g4) | (refine wp_pushVI _ w5.heap.size (by simp [World.setCell]) rfl (.tmp 84) (.tmp 86) rfl pv' YS 0 rfl G4.out rfl HL2.out ?_; intro v7 w7 r7 k7 n7; obtain ⟨a7, p7, e7⟩ := r7.form; obtain ⟨m7, hm7⟩ : ∃ m, m = (YS ++ [Value.int .i64 0]).length := ⟨_, rfl⟩; rw [← hm7] at e7; clear hm7; subst e7; have R7 := hide r7; have K7 := hide k7; have N7 := hide n7; obtain ⟨g5, g6⟩ := push_mid2 HT.out K5.out (.slice a5 m5 p5) k7; clear r7 k7 n7)
          go_ret3
          have A := R5.out
          have B := R7.out
          rw [HX.out.1] at A
          rw [HX.out.2] at B
          rw [HE.out, HDL.out]
          refine ⟨rfl, ?_⟩
          refine RefO.trans HDR.out (Newly.refl _ _) ?_
          exact RefO.trans (HK.out.1.mono (by simp [lfeet])) (fun x hx => by rcases HK.out.2 x hx with q | q; exact .inl (by simp [lfeet, q]); exact .inr q) (push_end (p := 0) HT.out A K5.out N5.out B K7.out N7.out)

end
end Go.Proofs.Ytokodmeabchmjaa
