/-
  What the document's Decode and All (the reference) do. A lemma file: no statement of the seat is proved here.
-/
import Derived.Test.YtjnmggbkclnbkaaBRef
namespace Go.Proofs.Ytjnmggbkclnbkaa
open Go.RowKit Go.Maps

theorem refGet2 (v : Value) (bs : List Int) (w : World) (hb : IsB w v bs) (hl : bs.length ≤ 140737488355328) (h : ¬ bs.length < 2) :
    Calls Try.prog 27 #[v, .int .i64 0, .int .i64 2] w fun e w' => e = .returned (.tuple #[.int .u64 (sizeB bs : Nat), .bool true]) ∧ w' = w := by
  have := refGet_yes v bs 0 2 w hb hl (by omega) (by omega) (by omega)
  rw [List.drop_zero, sizeB_eq bs hb.bytes] at this
  exact this

/-- Strings that are not the same, in the walk's own form. -/
theorem str_ne {a b : ByteArray} (h : ¬ a = b) : (a.toList == b.toList) = false := by
  rw [beq_eq_false_iff_ne]
  intro e
  rw [ByteArray.toList_eq, ByteArray.toList_eq] at e
  apply h
  cases a
  cases b
  simp at e
  rw [e]

/-- The sum is right just if the bytes are the block of their text. -/
theorem sum_iff (bs : List Int) (hb : ∀ z ∈ bs, 0 ≤ z ∧ z ≤ 255) (h1 : ¬ bs.length < 2) (h2 : ¬ 1000 < sizeB bs) (h3 : ¬ bs.length < sizeB bs + 6) :
    valB 256 ((bs.drop (sizeB bs + 2)).take 4) = (crcSum (bs.take (sizeB bs + 2)) : Nat) ↔ blkB ((bs.drop 2).take (sizeB bs)) = bs.take (sizeB bs + 6) := by
  have hd : decB bs = if valB 256 ((bs.drop (sizeB bs + 2)).take 4) ≠ (crcSum (bs.take (sizeB bs + 2)) : Nat) then ([], 0, 3) else ((bs.drop 2).take (sizeB bs), sizeB bs + 6, 0) := by
    rw [decB, if_neg h1, if_neg h2, if_neg h3]
  have hml : ((bs.drop 2).take (sizeB bs)).length = sizeB bs := by simp; omega
  constructor
  · intro h
    rw [if_neg (by omega)] at hd
    have := (decB_back bs hb (by rw [hd])).1
    rw [hd] at this
    exact this
  · intro h
    have hd2 := decB_blk ((bs.drop 2).take (sizeB bs)) (bs.drop (sizeB bs + 6)) (by omega) (fun z hz => hb z (List.mem_of_mem_drop (List.mem_of_mem_take hz)))
    rw [h, List.take_append_drop] at hd2
    rw [hd2] at hd
    by_cases hv : valB 256 ((bs.drop (sizeB bs + 2)).take 4) = (crcSum (bs.take (sizeB bs + 2)) : Nat)
    · exact hv
    · rw [if_pos hv] at hd
      simp at hd

set_option maxHeartbeats 1000000 in
theorem refDecode_form (v : Value) (bs : List Int) (w : World) (hb : IsB w v bs) (hl : bs.length ≤ 1099511627776) (h : bs.length < 2 ∨ 1000 < sizeB bs ∨ bs.length < sizeB bs + 6) : Calls Try.prog 18 #[v] w (DecP w ([], 0, 2)) := by
  by_cases h1 : bs.length < 2
  · have G := hide (refGet_no v bs 0 2 w hb (by omega) (by omega))
    obtain ⟨a, cap, rfl, hlc⟩ := hb.form
    clear hb
    go_enter Try.func18, Try.ntmps18
    go_wp2_with fail
    refine G.out.mono ?_
    rintro e w1 ⟨rfl, rfl⟩
    go_wp2
    go_ret3
    exact ⟨_, rfl, IsB.nil _, Below.refl _ _, by simp [Value.ownBlock]⟩
  · have G := hide (refGet2 v bs w hb (by omega) h1)
    have hlt := sizeB_lt bs hb.bytes
    generalize sizeB bs = n at G hlt h
    obtain ⟨a, cap, rfl, hlc⟩ := hb.form
    clear hb
    by_cases h2 : 1000 < n
    · go_enter Try.func18, Try.ntmps18
      go_wp2_with fail
      refine G.out.mono ?_
      rintro e w1 ⟨rfl, rfl⟩
      go_wp2
      go_ret3
      exact ⟨_, rfl, IsB.nil _, Below.refl _ _, by simp [Value.ownBlock]⟩
    · have h3 : bs.length < n + 6 := by omega
      have h3d : decide ((bs.length : Int) < (n : Int) + 6) = true := by simp; omega
      go_enter Try.func18, Try.ntmps18
      go_wp2_with fail
      refine G.out.mono ?_
      rintro e w1 ⟨rfl, rfl⟩
      go_wp2
      go_ret3
      exact ⟨_, rfl, IsB.nil _, Below.refl _ _, by simp [Value.ownBlock]⟩

set_option maxRecDepth 100000 in
set_option maxHeartbeats 1000000 in
theorem refDecode_in (v : Value) (bs : List Int) (w : World) (hb : IsB w v bs) (hl : bs.length ≤ 1099511627776) (h : ¬ bs.length < 2) (h2 : ¬ 1000 < sizeB bs) (h3 : ¬ bs.length < sizeB bs + 6) :
    Calls Try.prog 18 #[v] w (DecP w (if valB 256 ((bs.drop (sizeB bs + 2)).take 4) ≠ (crcSum (bs.take (sizeB bs + 2)) : Nat) then ([], 0, 3) else ((bs.drop 2).take (sizeB bs), sizeB bs + 6, 0))) := by
  have G := hide (refGet2 v bs w hb (by omega) h)
  have hiff := sum_iff bs hb.bytes h h2 h3
  have hlt := sizeB_lt bs hb.bytes
  obtain ⟨b, off, cap, rfl, hlc, _⟩ := hb.opened (by omega)
  have HI := hide hb
  have HF := hide fun w (hi : IsB w (.slice (some ⟨b, off, none⟩) bs.length cap) bs) => hi.take (sizeB bs + 6) (by omega)
  have HM := hide fun w (hi : IsB w (.slice (some ⟨b, off, none⟩) bs.length cap) bs) => hi.mid 2 (sizeB bs) (by omega)
  have hml : ((bs.drop 2).take (sizeB bs)).length = sizeB bs := by simp; omega
  have hbb := hb.bytes
  have htb : ∀ z ∈ (bs.drop 2).take (sizeB bs), 0 ≤ z ∧ z ≤ 255 := fun z hz => hbb z (List.mem_of_mem_drop (List.mem_of_mem_take hz))
  have hfb : ∀ z ∈ bs.take (sizeB bs + 6), 0 ≤ z ∧ z ≤ 255 := fun z hz => hbb z (List.mem_of_mem_take hz)
  obtain ⟨t, ht⟩ : ∃ t, t = (bs.drop 2).take (sizeB bs) := ⟨_, rfl⟩
  obtain ⟨xs, hxs⟩ : ∃ xs, xs = blkB t := ⟨_, rfl⟩
  have hxb : ∀ z ∈ xs, 0 ≤ z ∧ z ≤ 255 := by rw [hxs, ht]; exact blkB_bytes _ htb
  obtain ⟨fs, hfs⟩ : ∃ fs, fs = bs.take (sizeB bs + 6) := ⟨_, rfl⟩
  rw [← ht, ← hxs, ← hfs] at hiff
  rw [← ht] at HM hml ⊢
  rw [← hfs] at HF hfb
  have HX := hide hxs
  generalize sizeB bs = n at *
  by_cases hxf : xs = fs
  · rw [if_neg (by simpa using hiff.2 hxf)]
    obtain ⟨str, hstr⟩ : ∃ str, str = strOfNums xs := ⟨_, rfl⟩
    have HS1 := hide hstr
    have HS2 : Hid (str = strOfNums fs) := by show _ = _; rw [hstr, hxf]
    have hfl : fs.length = n + 6 := by rw [hfs, List.length_take]; omega
    subst hml
    have htl : t.length ≤ 1000 := by omega
    have hd3 : decide ((bs.length : Int) < (t.length : Int) + 6) = false := by simp; omega
    have htc : (t.length : Int) + 6 ≤ cap := by omega
    have hw1 : IntKind.i64.wrap (t.length : Int) = t.length := by rw [IntKind.wrap_i64]; omega
    have hw2 : IntKind.i64.wrap ((t.length : Int) + 6) = (t.length : Int) + 6 := by rw [IntKind.wrap_i64]; omega
    clear hb hiff hbb htb hfb hxb ht hxs hfs hstr hxf hfl
    go_enter Try.func18, Try.ntmps18
    go_wp2_with fail
    refine G.out.mono ?_
    rintro e w1 ⟨rfl, rfl⟩
    have E1 := hide (OwnB.empty w1 w1.heap.size (Nat.le_refl _))
    have I1 : Hid (IsB (w1.alloc (.cells #[] 5)) (.slice (some ⟨b, off + 2, none⟩) (2 + t.length - 2) (cap - 2)) t) := by show IsB _ _ _; rw [Nat.add_sub_cancel_left]; exact (HM.out _ HI.out).below ((Below.refl _ w1).alloc (Nat.le_refl _) (.cells #[] 5))
    go_wp2_with (at_builtin; refine wp_appendB _ rfl _ _ rfl w1.heap.size w1.heap.size 0 [] t (.slice (some ⟨b, off + 2, none⟩) (2 + t.length - 2) (cap - 2)) rfl E1.out rfl I1.out (by simp; omega) (by simp) ?_; intro g2 cap2 w2 o2 b2; rw [List.nil_append] at o2; have B2 := hide (((Below.refl _ w1).alloc (Nat.le_refl _) _).trans b2); clear b2)
    have PX := hide fun w h => refEncode_go (.slice (some ⟨g2, 0, none⟩) t.length cap2) t xs w h htl HX
    have J2 := hide (HF.out _ (HI.out.below B2.out.drew))
    have O2 := hide o2
    have y2 := conv_isB J2.out
    rw [← HS2.out] at y2
    clear o2 E1 I1
    go_wp2
    go_region_held (fun w' => (convert 25 9 (.slice (some ⟨b, off, none⟩) (t.length + 6) cap)).run Try.prog w' = .ok (.string str) w') (first | assumption) (first | (go_at_call 13; refine (PX.out w2.drew O2.out.isB).mono ?_; rintro e w3 ⟨g3, cap3, rfl, o3, b3⟩; have b3' := undrew_below b3; have B3 := hide (below_then B2.out b3'); have O3 := hide (O2.out.below b3'); have z3 := conv_isB o3.isB; have y3 := conv_isB (HF.out _ (HI.out.below B3.out)); rw [← HS1.out] at z3; rw [← HS2.out] at y3; clear o3 b3 b3'))
    all_goals
      go_wp2
      go_ret3
      exact ⟨_, by simp, O3.out.isB, B3.out, fun x hx => by simp [Value.ownBlock] at hx; have := O2.out.base; omega⟩
  · rw [if_pos (fun h => hxf (hiff.1 h))]
    obtain ⟨sx, hsx⟩ : ∃ sx, sx = strOfNums xs := ⟨_, rfl⟩
    obtain ⟨sf, hsf⟩ : ∃ sf, sf = strOfNums fs := ⟨_, rfl⟩
    have hst : (sx.toList == sf.toList) = false := str_ne fun e => hxf (strOfNums_inj hxb hfb (by rw [← hsx, ← hsf]; exact e))
    have HS1 := hide hsx
    have HS2 := hide hsf
    subst hml
    have htl : t.length ≤ 1000 := by omega
    have hd3 : decide ((bs.length : Int) < (t.length : Int) + 6) = false := by simp; omega
    have htc : (t.length : Int) + 6 ≤ cap := by omega
    have hw1 : IntKind.i64.wrap (t.length : Int) = t.length := by rw [IntKind.wrap_i64]; omega
    have hw2 : IntKind.i64.wrap ((t.length : Int) + 6) = (t.length : Int) + 6 := by rw [IntKind.wrap_i64]; omega
    clear hb hiff hbb htb hfb hxb ht hxs hfs hsx hsf hxf
    go_enter Try.func18, Try.ntmps18
    go_wp2_with fail
    refine G.out.mono ?_
    rintro e w1 ⟨rfl, rfl⟩
    have E1 := hide (OwnB.empty w1 w1.heap.size (Nat.le_refl _))
    have I1 : Hid (IsB (w1.alloc (.cells #[] 5)) (.slice (some ⟨b, off + 2, none⟩) (2 + t.length - 2) (cap - 2)) t) := by show IsB _ _ _; rw [Nat.add_sub_cancel_left]; exact (HM.out _ HI.out).below ((Below.refl _ w1).alloc (Nat.le_refl _) (.cells #[] 5))
    go_wp2_with (at_builtin; refine wp_appendB _ rfl _ _ rfl w1.heap.size w1.heap.size 0 [] t (.slice (some ⟨b, off + 2, none⟩) (2 + t.length - 2) (cap - 2)) rfl E1.out rfl I1.out (by simp; omega) (by simp) ?_; intro g2 cap2 w2 o2 b2; rw [List.nil_append] at o2; have B2 := hide (((Below.refl _ w1).alloc (Nat.le_refl _) _).trans b2); clear b2)
    have PX := hide fun w h => refEncode_go (.slice (some ⟨g2, 0, none⟩) t.length cap2) t xs w h htl HX
    have J2 := hide (HF.out _ (HI.out.below B2.out.drew))
    have O2 := hide o2
    have y2 := conv_isB J2.out
    rw [← HS2.out] at y2
    clear o2 E1 I1
    go_wp2
    go_region_held (fun w' => (convert 25 9 (.slice (some ⟨b, off, none⟩) (t.length + 6) cap)).run Try.prog w' = .ok (.string sf) w') (first | assumption) (first | (go_at_call 13; refine (PX.out w2.drew O2.out.isB).mono ?_; rintro e w3 ⟨g3, cap3, rfl, o3, b3⟩; have b3' := undrew_below b3; have B3 := hide (below_then B2.out b3'); have z3 := conv_isB o3.isB; have y3 := conv_isB (HF.out _ (HI.out.below B3.out)); rw [← HS1.out] at z3; rw [← HS2.out] at y3; clear o3 b3 b3'))
    all_goals
      go_wp2
      go_ret3
      exact ⟨_, rfl, IsB.nil _, B3.out, by simp [Value.ownBlock]⟩

/-- Decode, of whatever bytes. -/
theorem refDecode_any (v : Value) (bs : List Int) (w : World) (hb : IsB w v bs) (hl : bs.length ≤ 1099511627776) : Calls Try.prog 18 #[v] w (DecP w (decB bs)) := by
  unfold decB
  by_cases h : bs.length < 2
  · rw [if_pos h]
    exact refDecode_form v bs w hb hl (.inl h)
  · rw [if_neg h]
    by_cases h2 : 1000 < sizeB bs
    · rw [if_pos h2]
      exact refDecode_form v bs w hb hl (.inr (.inl h2))
    · rw [if_neg h2]
      by_cases h3 : bs.length < sizeB bs + 6
      · rw [if_pos h3]
        exact refDecode_form v bs w hb hl (.inr (.inr h3))
      · rw [if_neg h3]
        exact refDecode_in v bs w hb hl h h2 h3

set_option maxRecDepth 100000 in
set_option maxHeartbeats 1000000 in
theorem refAll_any (v : Value) (bs : List Int) (w : World) (hb : IsB w v bs) (hl : bs.length ≤ 1099511627776) :
    Calls Try.prog 20 #[v] w (AllP w (allB bs)) := by
  obtain ⟨R, hR⟩ : ∃ R, R = allB bs := ⟨_, rfl⟩
  rw [← hR]
  have HR := hide hR
  have HI := hide hb
  obtain ⟨a, cap, rfl, hlc⟩ := hb.form
  clear hb hR
  go_enter Try.func20, Try.ntmps20
  go_wp2
  go_loopw [5, 6, 7, 8, 9] (fun l i _ _ _ wr => ∃ (k f : Nat) (acc : List (List Int)), k ≤ bs.length ∧ i = .int .i64 k ∧ acc.length ≤ k ∧ bs.length < k + f ∧ Hid (R = allF f bs k acc) ∧ Hid (RowT wr l acc) ∧ Hid (∀ x ∈ own l, w.heap.size ≤ x) ∧ Hid (Below w.heap.size w wr)) (fun _ i _ _ _ _ => bs.length - (intOf i).toNat)
  case atStart => exact ⟨0, bs.length + 1, [], Nat.zero_le _, rfl, by simp, by omega, HR, RowT.empty w, by simp [Hid, Value.ownBlock], (Below.refl _ _).alloc (Nat.le_refl _) _⟩
  case round =>
    obtain ⟨k, f, acc, hk, rfl, hal, hf, HRk, HA, HF, HB⟩ := hrel
    obtain ⟨f', rfl⟩ : ∃ f', f = f' + 1 := ⟨f - 1, by omega⟩
    by_cases hlt : k < bs.length
    · have hi := HI.out.below HB.out
      obtain ⟨b, off, cap', he, _, _⟩ := hi.opened (by omega)
      simp only [Value.slice.injEq, true_and] at he
      obtain ⟨rfl, rfl⟩ := he
      have hD := refDecode_any _ _ wr (hi.drop b off rfl k (by omega)) (by simp; omega)
      have hok := decB_ok (bs.drop k)
      have hstep : R = if (decB (bs.drop k)).2.2 = 0 then allF f' bs (k + (decB (bs.drop k)).2.1) (acc ++ [(decB (bs.drop k)).1]) else ([], k, (decB (bs.drop k)).2.2) := by
        rw [HRk.out, allF, if_neg (by omega)]
      obtain ⟨D, hDD⟩ : ∃ D, D = decB (bs.drop k) := ⟨_, rfl⟩
      rw [← hDD] at hD hstep hok
      obtain ⟨t, n, er⟩ := D
      dsimp only at hstep hok
      have HD := hide hD
      have HST := hide hstep
      have HOK := hide hok
      clear hi hD hstep hok hDD
      by_cases her : er = 0
      · subst her
        obtain ⟨hn6, hnl, htn, hn1⟩ := HOK.out rfl
        rw [List.length_drop] at hnl
        rw [if_pos rfl] at HST
        go_wp2_with fail
        refine HD.out.mono ?_
        rintro e w1 ⟨v1, rfl, i1, b1, f1⟩
        dsimp only at i1 ⊢
        obtain ⟨a1, c1, rfl, _⟩ := i1.form
        have hs1 := b1.size
        have hs0 := HB.out.size
        have HA1 := hide (HA.out.below b1)
        have hla := HA.out.lt
        obtain ⟨la, lc, rfl⟩ := HA.out.slice
        have I1 := hide i1
        have DIS : Hid (t ≠ [] → ∀ x ∈ own (Value.slice a1 t.length c1), x ∉ own (Value.slice la acc.length lc)) := fun _ x hx hy => absurd (f1 x hx) (by have := hla x hy; omega)
        clear i1 f1 hla
        go_wp2_with (at_builtin; refine wp_pushT w1 rfl _ _ rfl (.slice la acc.length lc) (.slice a1 t.length c1) acc t rfl HA1.out rfl I1.out DIS.out (by omega) ?_; intro v2 w2 r2 k2 n2)
        go_roundw
        case rel =>
          refine ⟨k + n, f', acc ++ [t], by omega, by go_num, by simp; omega, by omega, HST, r2, fun x hx => ?_, ?_⟩
          · rcases n2 x hx with h | h
            · exact HF.out x h
            · omega
          · exact (below_then HB.out b1).trans (k2.below (by omega) HF.out)
        case measure => simp [intOf]; omega
      · have hRR := HST.out
        rw [if_neg her] at hRR
        subst hRR
        go_wp2_with fail
        refine HD.out.mono ?_
        rintro e w1 ⟨v1, rfl, i1, b1, f1⟩
        obtain ⟨a1, c1, rfl, _⟩ := i1.form
        dsimp only
        go_wp2
        go_ret3
        exact ⟨_, rfl, RowT.nil _, below_then HB.out b1⟩
    · have hRR := HRk.out
      rw [allF, if_pos (by omega)] at hRR
      subst hRR
      obtain ⟨la, lc, rfl⟩ := HA.out.slice
      go_wp2
      go_ret3
      exact ⟨_, rfl, HA.out, HB.out⟩

end Go.Proofs.Ytjnmggbkclnbkaa
