/-
  What the document's Encode, Decode, Join and All (the reference) do. A lemma file: no statement of the seat is proved here.
-/
import Derived.Deep.RegionHeld
import Derived.Test.YtjnmggbkclnbkaaRefPG
import Derived.Test.YtjnmggbkclnbkaaBStep
namespace Go.Proofs.Ytjnmggbkclnbkaa
open Go.RowKit Go.Maps

set_option maxHeartbeats 1000000 in
theorem refEncode_go (v : Value) (bs xs : List Int) (w : World) (hb : IsB w v bs) (hl : bs.length ≤ 1000) (hx : Hid (xs = blkB bs)) :
    Calls Try.prog 13 #[v] w fun e w' => ∃ g cap, e = .returned (.slice (some ⟨g, 0, none⟩) xs.length cap) ∧ OwnB w.heap.size w' g cap xs ∧ Below w.heap.size w w' := by
  have P2 := fun w => refPut_any (.slice none 0 0) [] 2 bs.length w (IsB.nil w) (by simp) (by omega) (by omega)
  obtain ⟨ps, hps⟩ : ∃ ps, ps = [] ++ putB (min (2 : Int) 8).toNat bs.length := ⟨_, rfl⟩
  rw [← hps] at P2
  have hps2 : ps = putB 2 bs.length := by rw [hps]; rfl
  have hpl : ps.length = 2 := by rw [hps2, putB_length]
  obtain ⟨hs, hhs⟩ : ∃ hs, hs = headB bs := ⟨_, rfl⟩
  have hh2 : ps ++ bs = hs := by rw [hhs, hps2]; rfl
  have hhl : ps.length + bs.length = hs.length := by rw [← hh2, List.length_append]
  have hhl2 : hs.length ≤ 1002 := by omega
  have hhb : ∀ z ∈ hs, 0 ≤ z ∧ z ≤ 255 := by rw [hhs]; exact headB_bytes bs hb.bytes
  have hcl := crcSum_lt hs hhb
  have P4 := fun v w h => refPut_any v hs 4 (crcSum hs : Nat) w h (by omega) (by omega) (by omega)
  have hxe : hs ++ putB (min (4 : Int) 8).toNat (crcSum hs : Nat) = xs := by rw [hx.out, blkB, ← hhs]; rfl
  rw [hxe] at P4
  have HP2 := hide P2
  have HP4 := hide P4
  have HH := hide hh2
  have HHL := hide hhl
  have HI := hide hb
  obtain ⟨c, hc⟩ : ∃ c, c = crcSum hs := ⟨_, rfl⟩
  rw [← hc] at hcl HP4
  have HC := hide hc
  obtain ⟨a, cap, rfl, hlc⟩ := hb.form
  have hpb : ps.length ≤ 2 := by omega
  clear hpl hps hps2 hhs hh2 hhl hhb P2 P4 hxe hb hc hx
  go_enter Try.func13, Try.ntmps13
  go_wp2_with fail
  refine (HP2.out w).mono ?_
  rintro e w1 ⟨g1, cap1, rfl, o1, b1⟩
  have i1 := HI.out.below b1
  have hs1 := b1.size
  go_wp2_with (at_builtin; refine wp_appendB w1 rfl _ _ rfl w.heap.size g1 cap1 ps bs _ rfl o1 rfl i1 (by omega) hs1 ?_; intro g2 cap2 w2 o2 b2; rw [HH.out] at o2; rw [HHL.out])
  have B2 := b1.trans b2
  go_wp2_with fail
  refine (refCrc_any _ hs w2 o2.isB (by omega)).mono ?_
  rintro e w3 ⟨rfl, rfl⟩
  rw [← HC.out]
  go_wp2_with fail
  refine (HP4.out _ _ o2.isB).mono ?_
  rintro e w4 ⟨g4, cap4, rfl, o4, b4⟩
  go_wp2
  go_ret
  exact ⟨g4, cap4, rfl, o4.mono B2.size, below_then B2 b4⟩

set_option maxRecDepth 100000 in
set_option maxHeartbeats 1000000 in
theorem refJoin_any (v : Value) (bss : List (List Int)) (w : World) (hb : IsBB w v bss) (hl : bss.length ≤ 1000000) :
    Calls Try.prog 15 #[v] w fun e w' => ∃ v', e = .returned (.tuple #[v', .bool (okL bss)]) ∧ RowB w' v' (joinR bss).1 ∧ Below w.heap.size w w' := by
  obtain ⟨R, hR⟩ : ∃ R, R = (joinR bss).1 := ⟨_, rfl⟩
  obtain ⟨K, hK⟩ : ∃ K, K = okL bss := ⟨_, rfl⟩
  rw [← hR, ← hK]
  have HR := hide hR
  have HK := hide hK
  have HI := hide hb
  obtain ⟨a, cap, rfl, hlc⟩ := hb.form
  clear hb hR hK
  go_enter Try.func15, Try.ntmps15
  go_wp2
  go_loopw [4, 5] (fun all i wr => ∃ k : Nat, k ≤ bss.length ∧ i = .int .i64 k ∧ Hid (okL (bss.take k) = true) ∧ Hid (RowB wr all (joinB (bss.take k))) ∧ Hid (∀ x ∈ own all, w.heap.size ≤ x) ∧ Hid (Below w.heap.size w wr)) (fun _ i _ => bss.length - (intOf i).toNat)
  case atStart => exact ⟨0, Nat.zero_le _, rfl, by simp [Hid, okL], by simpa [Hid, joinB] using (OwnB.empty w 0 (Nat.zero_le _)).rowB, by simp [Hid, Value.ownBlock], (Below.refl _ _).alloc (Nat.le_refl _) _⟩
  case round =>
    obtain ⟨k, hk, rfl, HO, HA, HF, HB⟩ := hrel
    by_cases hlt : k < bss.length
    · obtain ⟨b, off, cap', he, _, hc⟩ := (HI.out.below HB.out).opened (by omega)
      simp only [Value.slice.injEq, true_and] at he
      obtain ⟨rfl, rfl⟩ := he
      obtain ⟨ta, tc, hcell, ht⟩ := hc k hlt
      have hsn := take_snocL bss k hlt
      obtain ⟨t, hte⟩ : ∃ t, t = bss[k]?.getD [] := ⟨_, rfl⟩
      rw [← hte] at hcell ht hsn
      have HT := hide ht
      have HS := hide hsn
      have HTE := hide hte
      clear hc ht hsn hte
      by_cases h1000 : t.length ≤ 1000
      · obtain ⟨xs, hxs⟩ : ∃ xs, xs = blkB t := ⟨_, rfl⟩
        have HX := hide hxs
        have hxl : xs.length ≤ 1006 := by rw [hxs, blkB_length]; omega
        clear hxs
        have hjl := joinB_length_le _ HO.out
        rw [List.length_take] at hjl
        have hjl2 : (joinB (bss.take k)).length ≤ 1006 * 1000000 := by omega
        clear hjl
        go_wp2_with fail
        refine (refEncode_go _ t xs wr HT.out h1000 HX).mono ?_
        rintro e w1 ⟨g1, cap1, rfl, o1, b1⟩
        have ha1 := hide (HA.out.kept (Kept.of_below (fp := []) b1) (by simp))
        go_wp2_with (at_builtin; refine wp_appendR w1 rfl _ _ rfl _ _ _ xs rfl ha1.out rfl o1.isB (by omega) ?_; intro v2 w2 r2 k2 n2 _)
        go_roundw
        case rel =>
          have hs1 := HB.out.size
          have hs2 := b1.size
          refine ⟨k + 1, by omega, by go_num, ?_, ?_, ?_, ?_⟩
          · show okL _ = true
            rw [HS.out, okL_snoc, HO.out]
            simpa using h1000
          · show RowB _ _ _
            rw [HS.out, joinB_snoc, ← HX.out]
            exact r2
          · intro x hx
            rcases n2 x hx with h | h
            · exact HF.out x h
            · omega
          · exact (below_then HB.out b1).trans (k2.below (by omega) HF.out)
        case measure => simp [intOf]; omega
      · have hRR : R = [] := by
          rw [HR.out, joinR, if_neg]
          intro h
          simp only [okL, List.all_eq_true, decide_eq_true_eq] at h
          have := h t (by rw [HTE.out]; simp [hlt])
          omega
        have hKK : K = false := by
          rw [HK.out]
          cases h : okL bss with
          | false => rfl
          | true =>
            simp only [okL, List.all_eq_true, decide_eq_true_eq] at h
            have := h t (by rw [HTE.out]; simp [hlt])
            omega
        subst hRR hKK
        go_wp2
        go_ret2
        exact ⟨_, rfl, RowB.nil _, HB.out⟩
    · have hkk : bss.take k = bss := List.take_of_length_le (by omega)
      have hok := HO.out
      rw [hkk] at hok
      have hRR : R = joinB bss := by rw [HR.out, joinR, if_pos hok]
      have hKK : K = true := by rw [HK.out]; exact hok
      have HA2 := hide HA.out
      rw [hkk] at HA2
      obtain ⟨js, hjs⟩ : ∃ js, js = joinB bss := ⟨_, rfl⟩
      rw [← hjs] at HA2 hRR
      subst hRR hKK
      clear hkk hjs hok
      go_wp2
      go_ret2
      exact ⟨_, rfl, HA2.out, HB.out⟩

end Go.Proofs.Ytjnmggbkclnbkaa
