/-
  What block's Join does. A lemma file: no statement of the seat is proved here.
-/
import Derived.Test.YtjnmggbkclnbkaaBRow
import Derived.Test.YtjnmggbkclnbkaaBDec
namespace Go.Proofs.Ytjnmggbkclnbkaa
open Go.RowKit Go.Maps

/-- The blocks of texts, one behind the other. -/
def joinB (l : List (List Int)) : List Int := l.flatMap blkB
/-- Has each of them at most a thousand bytes? -/
def okL (l : List (List Int)) : Bool := l.all (fun t => decide (t.length ≤ 1000))

theorem joinB_snoc (l : List (List Int)) (t : List Int) : joinB (l ++ [t]) = joinB l ++ blkB t := by simp [joinB]
theorem joinB_length_le (l : List (List Int)) (h : okL l = true) : (joinB l).length ≤ 1006 * l.length := by
  induction l with
  | nil => simp [joinB]
  | cons t l ih =>
    simp only [okL, List.all_cons, Bool.and_eq_true, decide_eq_true_eq] at h
    have := ih h.2
    simp only [joinB, List.flatMap_cons, List.length_append, blkB_length, List.length_cons] at this ⊢
    omega
theorem okL_snoc (l : List (List Int)) (t : List Int) : okL (l ++ [t]) = (okL l && decide (t.length ≤ 1000)) := by simp [okL]
theorem okL_take (l : List (List Int)) (k : Nat) (h : okL l = true) : okL (l.take k) = true := by
  simp only [okL, List.all_eq_true] at h ⊢
  exact fun x hx => h x (List.mem_of_mem_take hx)

theorem take_snocL (l : List (List Int)) (k : Nat) (h : k < l.length) : l.take (k + 1) = l.take k ++ [l[k]?.getD []] := by
  rw [List.take_succ_eq_append_getElem h]
  simp [h]

/-- What Join leaves. -/
def JoinP (w : World) (R : List Int × Int) (e : Ending) (w' : World) : Prop :=
  ∃ v', e = .returned (.tuple #[v', .int .i64 R.2]) ∧ RowB w' v' R.1 ∧ Below w.heap.size w w' ∧ ∀ x ∈ own v', w.heap.size ≤ x

def joinR (l : List (List Int)) : List Int × Int := if okL l = true then (joinB l, 0) else ([], 1)

set_option maxRecDepth 100000 in
set_option maxHeartbeats 1000000 in
theorem join_any (v : Value) (bss : List (List Int)) (w : World) (hb : IsBB w v bss) (hl : bss.length ≤ 1000000) (hl2 : ∀ t ∈ bss, t.length ≤ 70368744177664) :
    Calls Try.prog 14 #[v] w (JoinP w (joinR bss)) := by
  obtain ⟨R, hR⟩ : ∃ R, R = joinR bss := ⟨_, rfl⟩
  rw [← hR]
  have HR := hide hR
  have HI := hide hb
  obtain ⟨a, cap, rfl, hlc⟩ := hb.form
  clear hb hR
  go_enter Try.func14, Try.ntmps14
  go_wp2
  go_loopw [4, 6, 7, 8, 11] (fun all _ _ _ i wr => ∃ k : Nat, k ≤ bss.length ∧ i = .int .i64 k ∧ Hid (okL (bss.take k) = true) ∧ Hid (RowB wr all (joinB (bss.take k))) ∧ Hid (∀ x ∈ own all, w.heap.size ≤ x) ∧ Hid (Below w.heap.size w wr)) (fun _ _ _ _ i _ => bss.length - (intOf i).toNat)
  case atStart => exact ⟨0, Nat.zero_le _, rfl, by simp [Hid, okL], by simpa [Hid, joinB] using RowB.nil w, by simp [Hid, Value.ownBlock], Below.refl _ _⟩
  case round =>
    obtain ⟨k, hk, rfl, HO, HA, HF, HB⟩ := hrel
    by_cases hlt : k < bss.length
    · obtain ⟨b, off, cap', he, _, hc⟩ := (HI.out.below HB.out).opened (by omega)
      simp only [Value.slice.injEq, true_and] at he
      obtain ⟨rfl, rfl⟩ := he
      obtain ⟨ta, tc, hcell, ht⟩ := hc k hlt
      have htl : (bss[k]?.getD []).length ≤ 70368744177664 := hl2 _ (by simp [hlt])
      have hsn := take_snocL bss k hlt
      obtain ⟨t, hte⟩ : ∃ t, t = bss[k]?.getD [] := ⟨_, rfl⟩
      rw [← hte] at hcell ht htl hsn
      have HT := hide ht
      have HS := hide hsn
      have HTE := hide hte
      clear hc ht hsn hte
      by_cases h1000 : t.length ≤ 1000
      · obtain ⟨xs, hxs⟩ : ∃ xs, xs = blkB t := ⟨_, rfl⟩
        have HX := hide hxs
        have hxl : xs.length ≤ 1006 := by rw [hxs, blkB_length]; omega
        clear hxs
        have hjl := joinB_length_le _ HO.out
        rw [List.length_take] at hjl
        have hjl2 : (joinB (bss.take k)).length ≤ 1006 * 1000000 := by omega
        clear hjl
        go_wp2_with fail
        refine (encode_go _ t xs wr HT.out h1000 HX).mono ?_
        rintro e w1 ⟨g1, cap1, rfl, o1, b1⟩
        have ha1 := hide (HA.out.kept (Kept.of_below (fp := []) b1) (by simp))
        go_wp2_with (at_builtin; refine wp_appendR w1 rfl _ _ rfl _ _ _ xs rfl ha1.out rfl o1.isB (by omega) ?_; intro v2 w2 r2 k2 n2 _)
        go_roundw
        case rel =>
          have hs1 := HB.out.size
          have hs2 := b1.size
          refine ⟨k + 1, by omega, by go_num, ?_, ?_, ?_, ?_⟩
          · show okL _ = true
            rw [HS.out, okL_snoc, HO.out]
            simpa using h1000
          · show RowB _ _ _
            rw [HS.out, joinB_snoc, ← HX.out]
            exact r2
          · intro x hx
            rcases n2 x hx with h | h
            · exact HF.out x h
            · omega
          · exact (below_then HB.out b1).trans (k2.below (by omega) HF.out)
        case measure => simp [intOf]; omega
      · go_wp2_with fail
        refine (encode_no _ t wr HT.out (by omega) htl).mono ?_
        rintro e w1 ⟨rfl, rfl⟩
        have hRR : R = ([], 1) := by
          rw [HR.out, joinR, if_neg]
          intro h
          simp only [okL, List.all_eq_true, decide_eq_true_eq] at h
          have := h t (by rw [HTE.out]; simp [hlt])
          omega
        subst hRR
        go_wp2
        go_ret2
        exact ⟨_, rfl, RowB.nil _, HB.out, by simp [Value.ownBlock]⟩
    · have hkk : bss.take k = bss := List.take_of_length_le (by omega)
      have hRR : R = (joinB bss, 0) := by
        have := HO.out
        rw [hkk] at this
        rw [HR.out, joinR, if_pos this]
      have HA2 := hide HA.out
      rw [hkk] at HA2
      obtain ⟨js, hjs⟩ : ∃ js, js = joinB bss := ⟨_, rfl⟩
      rw [← hjs] at HA2 hRR
      subst hRR
      clear hkk hjs
      go_wp2
      go_ret2
      exact ⟨_, rfl, HA2.out, HB.out, HF.out⟩

end Go.Proofs.Ytjnmggbkclnbkaa
