/-
  What tear does to a file. A lemma file: no statement of the seat is proved here.
-/
import Derived.Deep.RegionHeldLaw
import Derived.Deep.RegionLaw
import Derived.Test.YtbhjdcoehgajcaaDCopy
namespace Go.Proofs.Ytbhjdcoehgajcaa
open Go.RowKit Go.Maps Go.Sort Go.Shelf

/-- In the middle of tear: what is left so far, and how many sectors were asked for. -/
structure TearSt (w wr : World) (c k : Nat) (v : Value) (rest : List Int) : Prop where
  row : RowB wr v rest
  fresh : ∀ x ∈ own v, w.heap.size ≤ x
  cnt : wr.heap[c]? = some (.cells #[.int .i64 k] 3 (0, 0))
  kept : Kept [c] w wr

section
variable {w wr : World} {c k : Nat} {v : Value} {rest : List Int}

theorem TearSt.drewN (h : TearSt w wr c k v rest) (n : Nat) : TearSt w (wr.drewN n) c k v rest := ⟨h.row, h.fresh, h.cnt, h.kept.drewN n⟩
theorem TearSt.drew (h : TearSt w wr c k v rest) : TearSt w wr.drew c k v rest := ⟨h.row, h.fresh, h.cnt, h.kept.drew⟩

theorem TearSt.count (h : TearSt w wr c k v rest) (hc : c < w.heap.size) : TearSt w (wr.setCell ⟨c, 0, none⟩ (.int .i64 ((k + 1 : Nat) : Int))) c (k + 1) v rest := by
  have hk : Kept [c] wr (wr.setCell ⟨c, 0, none⟩ (.int .i64 ((k + 1 : Nat) : Int))) := (Kept.refl _ _).setCell (p := ⟨c, 0, none⟩) (.inl (by simp)) _
  refine ⟨h.row.kept hk (fun x hx => ?_), h.fresh, ?_, h.kept.trans hk (Newly.refl _ _)⟩
  · have := h.fresh x hx
    simp
    omega
  · rw [heap_setCell h.cnt]
    simp

theorem TearSt.turn {w2 : World} {v2 : Value} {rest2 : List Int} (h : TearSt w wr c k v rest) (hc : c < w.heap.size) (hr : RowB w2 v2 rest2) (hk : Kept (own v) wr w2) (hn : Newly wr (own v) (own v2)) : TearSt w w2 c k v2 rest2 := by
  refine ⟨hr, fun x hx => ?_, ?_, h.kept.trans hk (fun x hx => .inr (h.fresh x hx))⟩
  · rcases hn x hx with h1 | h1
    · exact h.fresh x h1
    · exact Nat.le_trans h.kept.size h1
  · rw [hk.block c (Nat.lt_of_lt_of_le hc h.kept.size) (fun e => by have := h.fresh c e; omega)]
    exact h.cnt
end

theorem over_in (rest : List Int) (a : Nat) (xs : List Int) (h : a + xs.length ≤ rest.length) : rest.take a ++ (xs.take (rest.length - a) ++ rest.drop (a + xs.length)) = over rest a xs := by
  have e : a + xs.length - rest.length = 0 := by omega
  unfold over
  rw [e, List.replicate_zero, List.append_nil, List.take_of_length_le (i := rest.length - a) (by omega)]

theorem over_out (rest : List Int) (a : Nat) (xs : List Int) (n : Nat) (h : a + xs.length = rest.length + n) : (rest ++ List.replicate n 0).take a ++ (xs.take ((rest ++ List.replicate n (0 : Int)).length - a) ++ (rest ++ List.replicate n 0).drop (a + xs.length)) = over rest a xs := by
  have e : a + xs.length - rest.length = n := by omega
  unfold over
  rw [e, List.take_of_length_le (i := (rest ++ List.replicate n (0 : Int)).length - a) (by simp; omega)]

theorem IsB.segm {w : World} {g : Nat} {len cap : Nat} {bs : List Int} (h : IsB w (.slice (some ⟨g, 0, none⟩) len cap) bs) (a b : Nat) (hab : a ≤ b) (hb : b ≤ len) : IsB w (.slice (some ⟨g, a, none⟩) (b - a) (cap - a)) (seg bs a b) := by
  have := h.mid a (b - a) (by omega)
  rw [Nat.zero_add] at this
  exact this

set_option maxRecDepth 100000 in
set_option maxHeartbeats 8000000 in
theorem tear_any {w : World} {f : Fl} (h : FileAt w f) (c kb k0 : Nat) (kv : Value) (ks : List Bool) (hc : w.heap[c]? = some (.cells #[.int .i64 k0] 3 (0, 0))) (hkb : w.cell? ⟨kb, 0, none⟩ = some kv) (hne : c ≠ kb) (hv : IsK w kv ks)
    (hcv : ks ≠ [] → c ∉ own kv) (hcf : c ∉ foot f) (hl : f.now.length ≤ 1073741824) (hs : f.syn.length ≤ f.now.length) (hk0 : k0 ≤ 1073741824) (hkl : ks.length ≤ 1099511627776) :
    Calls Try.prog 39 #[.pointer (some ⟨f.blk, 0, none⟩), .func (.func 37) #[] #[.pointer (some ⟨c, 0, none⟩), .pointer (some ⟨kb, 0, none⟩)]] w fun e w' =>
      e = .returned (.tuple #[]) ∧ ∃ vn vs, FileAt w' { f with vn := vn, vs := vs, now := (tearB ks f.now f.syn k0).1, syn := (tearB ks f.now f.syn k0).1 } ∧
        w'.heap[c]? = some (.cells #[.int .i64 (tearB ks f.now f.syn k0).2] 3 (0, 0)) ∧ Kept [c, f.blk] w w' ∧ (∀ x ∈ own vn ++ own vs, w.heap.size ≤ x) := by
  have hcl : c < w.heap.size := (Array.getElem?_eq_some_iff.1 hc).1
  obtain ⟨p, hp⟩ : ∃ p, p = f.blk := ⟨_, rfl⟩
  have hcp : p ≠ c := by rw [hp]; intro e; exact hcf (by simp [foot, e])
  have hpl : p < w.heap.size := by rw [hp]; exact h.lt _ (by simp [foot])
  -- what of the file is read while it is torn
  have HF := hide (fun (W : World) (hk : Kept [c] w W) => h.kept hk (fun x hx => by simp; rintro rfl; exact hcf hx))
  have HC := hide (fun (W : World) (hk : Kept [c] w W) => by
    have hf := HF.out W hk
    have a0 := cell_of_heap hf.cells 0
    have a1 := cell_of_heap hf.cells 1
    have a2 := frozen_of_heap hf.cells
    simp at a0 a1
    rw [← hp] at a0 a1 a2
    exact (⟨a0, a1, a2⟩ : W.cell? ⟨p, 0, none⟩ = some f.vn ∧ W.cell? ⟨p, 1, none⟩ = some f.vs ∧ ∀ o, W.frozen? ⟨p, o, none⟩ = false))
  have HK := hide (fun (W : World) (hk : Kept [c] w W) => (⟨hk.cell hkb (by simp; omega), hv.kept hk (fun hks x hx => by simp; rintro rfl; exact hcv hks hx)⟩ : W.cell? ⟨kb, 0, none⟩ = some kv ∧ IsK W kv ks))
  obtain ⟨a0, a1, a2⟩ := HC.out w (Kept.refl _ _)
  have CL := hide (cloneB_any f.vs f.syn w h.rsyn.isB (by omega))
  have HN := hide (fun (W : World) (hk : Kept [c] w W) => (HF.out W hk).rnow)
  obtain ⟨L, hL⟩ : ∃ L, L = f.now.length := ⟨_, rfl⟩
  obtain ⟨⟨na, ncap, hvn, hnc⟩, hform⟩ : (∃ na ncap, f.vn = .slice na L ncap ∧ L ≤ ncap) ∧ True := by
    obtain ⟨x, y, e, e2⟩ := h.rnow.isB.form
    exact ⟨⟨x, y, by rw [hL]; exact e, by rw [hL]; exact e2⟩, trivial⟩
  clear hform
  have HCV := hide hcv
  have HCF := hide hcf
  have HS := hide hs
  have HL := hide hL
  have HP := hide hp
  have HH := hide h
  have HCN := hide hc
  rw [← hL] at hl
  rw [← hp]
  clear hcv hcf hs hp hkb hv h hc hL
  rw [hvn] at a0
  go_enter Try.func39, Try.ntmps39
  go_wp2_with (go_at_call 55; refine CL.out.mono ?_; rintro e w1 ⟨v1, rfl, r1, b1, n1⟩)
  have ST0 : Hid (TearSt w w1 c k0 v1 f.syn) := ⟨r1, n1, (b1.block c hcl).trans HCN.out, Kept.of_below b1⟩
  clear r1 n1 b1 a0 a1 a2
  go_loopw [4, 5] (fun v i wr => ∃ (j a k : Nat) (rest : List Int), a = 16 * j ∧ a < L + 16 ∧ i = .int .i64 (a : Int) ∧ Hid (tearTo ks f.now f.syn k0 j = (rest, k)) ∧ Hid (TearSt w wr c k v rest)) (fun _ i _ => L + 16 - (intOf i).toNat)
  case atStart => exact ⟨0, 0, k0, f.syn, rfl, by omega, rfl, rfl, ST0⟩
  case round =>
    obtain ⟨j, a, k, rest, haj, hab, rfl, HT, HST⟩ := hrel
    have HTL := tearTo_len ks f.now f.syn k0 j (by rw [← HL.out]; omega) HS.out
    rw [HT.out, ← HL.out] at HTL
    simp only at HTL
    obtain ⟨hr1, _, hr3, _⟩ := HTL
    have hjl : j ≤ 67108864 := by omega
    have HAJ := hide haj
    clear haj
    obtain ⟨a0, a1, a2⟩ := HC.out wr HST.out.kept
    rw [hvn] at a0
    by_cases hlt : a < L
    · obtain ⟨en, hen⟩ : ∃ en, en = min (a + 16) L := ⟨_, rfl⟩
      have hmin : ∀ (ts : Array TypeId) (t : TypeId) (W : World), (Builtin.min_ ts t #[.int .i64 ((a : Int) + 16), .int .i64 (L : Int)]).run Try.prog W = .ok (.int .i64 (en : Int)) W := by
        intro ts t W
        rw [run_min_int2]
        congr 2
        split <;> omega
      have hae : a < en := by omega
      have heL : en ≤ L := by omega
      have he16 : en ≤ a + 16 := by omega
      have HEN := hide hen
      clear hen
      have S1 := same_any (HF.out wr HST.out.kept) a en hae (by rw [← HL.out]; exact heL) (by rw [← HL.out]; omega) (by have := HS.out; rw [← HL.out] at this; omega)
      rw [← HP.out] at S1
      have HSM : Hid (sameB f.now f.syn (16 * j) (min (16 * j + 16) f.now.length) = sameB f.now f.syn a en) := by
        show _ = _
        rw [HEN.out, HAJ.out, HL.out]
      have HSEG : Hid (seg f.now (16 * j) (min (16 * j + 16) f.now.length) = seg f.now a en) := by
        show _ = _
        rw [HEN.out, HAJ.out, HL.out]
      by_cases hsame : sameB f.now f.syn a en = true
      · rw [hsame] at S1
        have HS1 := hide S1
        have HT2 : Hid (tearTo ks f.now f.syn k0 (j + 1) = (rest, k)) := by
          show _ = _
          rw [tearTo, HSM.out, if_pos hsame]
          exact HT.out
        clear S1 hsame
        go_wp2_with (first | (go_at_call 56; refine HS1.out.mono ?_; rintro e w2 ⟨rfl, n2, rfl⟩) | go_in)
        go_roundw
        case rel => exact ⟨j + 1, a + 16, k, rest, by have := HAJ.out; omega, by omega, by go_num, HT2, HST.out.drewN _⟩
        case measure => simp [intOf]; omega
      · have hsf : sameB f.now f.syn a en = false := by simpa using hsame
        rw [hsf] at S1
        have HS1 := hide S1
        clear S1
        have HS2 := hide (fun n => stays_any c kb k kv ks (wr.drewN n) HST.out.cnt (HK.out wr HST.out.kept).1 hne (HK.out wr HST.out.kept).2 HCV.out (by omega) hkl)
        by_cases hst : staysB ks k = true
        · rw [hst] at HS2
          have hsl : (seg f.now a en).length = en - a := seg_length _ _ _ (by rw [← HL.out]; exact heL)
          have HT2 : Hid (tearTo ks f.now f.syn k0 (j + 1) = (over rest a (seg f.now a en), k + 1)) := by
            show _ = _
            rw [tearTo, HSM.out, if_neg hsame, HT.out, HSEG.out]
            simp [hst, HAJ.out]
          obtain ⟨ng, hng⟩ : ∃ ng, na = some ⟨ng, 0, none⟩ := by
            rcases HH.out.rnow.form with ⟨e1, e2⟩ | ⟨g, cp, e1, _⟩
            · have := HL.out
              rw [e2] at this
              simp at this
              omega
            · rw [hvn] at e1
              simp only [Value.slice.injEq] at e1
              exact ⟨g, e1.1⟩
          subst hng
          obtain ⟨XS, hXS⟩ : ∃ XS, XS = seg f.now a en := ⟨_, rfl⟩
          have HSRC := hide (fun (W : World) (hk : Kept [c] w W) => by
            have h1 := (HN.out W hk).isB
            rw [hvn] at h1
            have h2 := h1.segm a en (by omega) heL
            rw [← hXS] at h2
            exact h2)
          rw [← hXS] at hsl HT2
          have HXL := hide hsl
          clear hsame hsf hst hXS hsl
          obtain ⟨ra, rcap, rfl, hrc⟩ := HST.out.row.isB.form
          by_cases hin : en ≤ rest.length
          · obtain ⟨g, hg⟩ : ∃ g, ra = some ⟨g, 0, none⟩ := by
              rcases HST.out.row.form with ⟨e1, e2⟩ | ⟨g, cp, e1, _⟩
              · rw [e2] at hin
                simp at hin
                omega
              · simp only [Value.slice.injEq] at e1
                exact ⟨g, e1.1⟩
            subst hg
            have hz1 : ¬ rcap = a := by omega
            have hz2 : ¬ ncap = a := by omega
            have hi1 : (a : Int) ≤ (rest.length : Int) := by omega
            have hi2 : (a : Int) ≤ (en : Int) := by omega
            have hi3 : (en : Int) ≤ (ncap : Int) := by omega
            have hi4 : ¬ (rest.length : Int) < (en : Int) := by omega
            have hfit : a ≤ rest.length := by omega
            have hdp : a < rest.length → ∀ g', (Value.slice (some ⟨g, 0, none⟩) rest.length rcap).ownBlock = some g' → (some ⟨g, a, none⟩ : Option Addr) = some ⟨g', a, none⟩ := by
              intro _ g' e
              simp [Value.ownBlock] at e
              rw [e]
            have HOV : Hid (rest.take a ++ (XS.take (rest.length - a) ++ rest.drop (a + XS.length)) = over rest a XS) := over_in rest a XS (by rw [HXL.out]; omega)
            go_wp2_with (first | (go_at_call 56; refine HS1.out.mono ?_; rintro e w2 ⟨rfl, n2, rfl⟩) | (go_at_call 37; refine (HS2.out _).mono ?_; rintro e w3 ⟨rfl, hw3⟩; have ST3 := hide (HST.out.drewN n2 |>.count hcl); rw [← hw3] at ST3; clear hw3; have d0 := (HC.out w3 ST3.out.kept).1; rw [hvn] at d0) | go_in)
            go_region_law (refine step_copyR _ ?_ (.tmp 50) (.tmp 57) ?_ (.slice (some ⟨g, 0, none⟩) rest.length rcap) rest ?_ a ?_ (.slice (some ⟨ng, a, none⟩) (en - a) (ncap - a)) XS ?_ (some ⟨g, a, none⟩) (rest.length - a) (rcap - a) ?_ ?_ ?_ ?_ ?_; rfl; rfl; exact ST3.out.row; exact hfit; exact HSRC.out w3 ST3.out.kept; rfl; rfl; exact hdp; rfl; intro w4 r4 k4)
            have HR4 := hide r4
            have HK4 := hide k4
            clear r4 k4 d0
            have ST4 : Hid (TearSt w w4 c (k + 1) (.slice (some ⟨g, 0, none⟩) rest.length rcap) (over rest a XS)) := by
              have h1 := HR4.out
              rw [HOV.out] at h1
              exact ST3.out.drew.turn hcl h1 HK4.out (Newly.refl _ _)
            go_wp2
            go_roundw
            case rel => exact ⟨j + 1, a + 16, k + 1, over rest a XS, by have := HAJ.out; omega, by omega, by go_num, HT2, ST4⟩
            case measure => simp [intOf]; omega
          · obtain ⟨n, hn⟩ : ∃ n, n = en - rest.length := ⟨_, rfl⟩
            have hn0 : 0 < n := by omega
            have hen2 : en = rest.length + n := by omega
            have hez : (en : Int) - (rest.length : Int) = (n : Int) := by omega
            have hbd : rest.length + n ≤ 1099511627776 := by omega
            have HN2 := hide hn
            have HE2 := hide hen2
            have HEZ := hide hez
            clear hn hen2 hez
            have hz2 : ¬ ncap = a := by omega
            have hi1 : (a : Int) ≤ (en : Int) := by omega
            have hi3 : (en : Int) ≤ (ncap : Int) := by omega
            have hi4 : (rest.length : Int) < (en : Int) := by omega
            have hfit : a ≤ (rest ++ List.replicate n (0 : Int)).length := by simp; have := HE2.out; omega
            have hdl : en - a = (rest ++ List.replicate n (0 : Int)).length - a := by simp; have := HE2.out; omega
            have HFT := hide hfit
            have HDL := hide hdl
            clear hfit hdl
            have HOV : Hid ((rest ++ List.replicate n 0).take a ++ (XS.take ((rest ++ List.replicate n (0 : Int)).length - a) ++ (rest ++ List.replicate n 0).drop (a + XS.length)) = over rest a XS) := over_out rest a XS n (by rw [HXL.out]; have := HE2.out; omega)
            go_wp2_with (first | (go_at_call 56; refine HS1.out.mono ?_; rintro e w2 ⟨rfl, n2, rfl⟩) | (go_at_call 37; refine (HS2.out _).mono ?_; rintro e w3 ⟨rfl, hw3⟩; have ST3 := hide (HST.out.drewN n2 |>.count hcl); rw [← hw3] at ST3; clear hw3) | (at_builtin; refine wp_zeros _ rfl _ _ rfl (.slice ra rest.length rcap) rest n en ((en : Int) - (rest.length : Int)) rfl ST3.out.row rfl HEZ.out hn0 HE2.out hbd ?_; intro g cap4 w4 r4 hc4 k4 nw4; have ST4 := hide (ST3.out.turn hcl r4 k4 nw4); clear r4 k4 nw4; have d0 := (HC.out w4 ST4.out.kept).1; rw [hvn] at d0) | go_in)
            have hz1 : ¬ cap4 = a := by omega
            have hdp : a < (rest ++ List.replicate n (0 : Int)).length → ∀ g', (Value.slice (some ⟨g, 0, none⟩) en cap4).ownBlock = some g' → (some ⟨g, a, none⟩ : Option Addr) = some ⟨g', a, none⟩ := by
              intro _ g' e
              simp [Value.ownBlock] at e
              rw [e]
            have HDP := hide hdp
            clear hdp
            go_region_law (refine step_copyR _ ?_ (.tmp 50) (.tmp 57) ?_ (.slice (some ⟨g, 0, none⟩) en cap4) (rest ++ List.replicate n (0 : Int)) ?_ a ?_ (.slice (some ⟨ng, a, none⟩) (en - a) (ncap - a)) XS ?_ (some ⟨g, a, none⟩) (en - a) (cap4 - a) ?_ ?_ ?_ ?_ ?_; rfl; rfl; exact ST4.out.row; exact HFT.out; exact HSRC.out w4 ST4.out.kept; rfl; exact HDL.out; exact HDP.out; rfl; intro w5 r5 k5)
            have HR5 := hide r5
            have HK5 := hide k5
            clear r5 k5 d0
            have ST5 : Hid (TearSt w w5 c (k + 1) (.slice (some ⟨g, 0, none⟩) en cap4) (over rest a XS)) := by
              have h1 := HR5.out
              rw [HOV.out] at h1
              exact ST4.out.drew.turn hcl h1 HK5.out (Newly.refl _ _)
            go_wp2
            go_roundw
            case rel => exact ⟨j + 1, a + 16, k + 1, over rest a XS, by have := HAJ.out; omega, by omega, by go_num, HT2, ST5⟩
            case measure => simp [intOf]; omega
        · have hstf : staysB ks k = false := by simpa using hst
          rw [hstf] at HS2
          have HT2 : Hid (tearTo ks f.now f.syn k0 (j + 1) = (rest, k + 1)) := by
            show _ = _
            rw [tearTo, HSM.out, if_neg hsame, HT.out]
            simp [hstf]
          clear hsame hsf hst hstf
          go_wp2_with (first | (go_at_call 56; refine HS1.out.mono ?_; rintro e w2 ⟨rfl, n2, rfl⟩) | (go_at_call 37; refine (HS2.out _).mono ?_; rintro e w3 ⟨rfl, hw3⟩; have ST3 := hide (HST.out.drewN n2 |>.count hcl); rw [← hw3] at ST3; clear hw3) | go_in)
          go_roundw
          case rel => exact ⟨j + 1, a + 16, k + 1, rest, by have := HAJ.out; omega, by omega, by go_num, HT2, ST3⟩
          case measure => simp [intOf]; omega
    · have hJ : j = (f.now.length + 15) / 16 := by have := HAJ.out; rw [← HL.out]; omega
      have HB : Hid (tearB ks f.now f.syn k0 = (rest, k)) := by
        show _ = _
        unfold tearB
        rw [← hJ]
        exact HT.out
      clear hJ
      obtain ⟨ra, rcap, rfl, hrc⟩ := HST.out.row.isB.form
      have CL2 := hide (cloneB_any (.slice ra rest.length rcap) rest wr HST.out.row.isB (by omega))
      go_wp2_with (go_at_call 55; refine CL2.out.mono ?_; rintro e w3 ⟨v3, rfl, r3, b3, n3⟩; obtain ⟨ra3, rc3, rfl, hrc3⟩ := r3.isB.form; have R3 := hide r3; have B3 := hide b3; have N3 := hide n3; clear r3 b3 n3; have K3 := hide (HST.out.kept.trans (Kept.of_below (fp := []) B3.out) (Newly.of_sub (by simp))); have d0 := (HC.out w3 K3.out).1; have d1 := (HC.out w3 K3.out).2.1; have d2 := (HC.out w3 K3.out).2.2)
      go_end0
      have hf := HF.out w3 K3.out
      have hcells := hf.cells
      rw [← HP.out] at hcells
      have k2 : Kept [p] w3 ((w3.setCell ⟨p, 0, none⟩ (.slice ra rest.length rcap)).setCell ⟨p, 1, none⟩ (.slice ra3 rest.length rc3)) := ((Kept.refl _ w3).setCell (p := ⟨p, 0, none⟩) (.inl (by simp)) _).setCell (p := ⟨p, 1, none⟩) (.inl (by simp)) _
      have hnew1 : ∀ x ∈ own (.slice ra rest.length rcap), w.heap.size ≤ x := HST.out.fresh
      have hnew2 : ∀ x ∈ own (.slice ra3 rest.length rc3), wr.heap.size ≤ x := N3.out
      have hsz := HST.out.kept.size
      have hlt1 : ∀ x ∈ own (.slice ra rest.length rcap), x < wr.heap.size := HST.out.row.lt
      rw [HB.out]
      refine ⟨rfl, .slice ra rest.length rcap, .slice ra3 rest.length rc3, ⟨?_, ?_, ?_, ?_⟩, ?_, ?_, ?_⟩
      · have e := heap_setCell (heap_setCell hcells 0 (.slice ra rest.length rcap)) 1 (.slice ra3 rest.length rc3)
        simpa using e
      · exact ((HST.out.row.kept (Kept.of_below (fp := []) B3.out) (by simp)).kept k2 (fun x hx => by simp; have := hnew1 x hx; omega))
      · exact R3.out.kept k2 (fun x hx => by simp; have := hnew2 x hx; omega)
      · show (p :: (own (.slice ra rest.length rcap) ++ own (.slice ra3 rest.length rc3))).Nodup
        have nd1 : (own (.slice ra rest.length rcap)).Nodup := by cases ra <;> simp [own, Value.ownBlock]
        have nd2 : (own (.slice ra3 rest.length rc3)).Nodup := by cases ra3 <;> simp [own, Value.ownBlock]
        rw [List.nodup_cons, List.nodup_append]
        refine ⟨fun e => ?_, nd1, nd2, fun x hx y hy e => ?_⟩
        · rcases List.mem_append.1 e with e | e
          · have := hnew1 p e
            omega
          · have := hnew2 p e
            omega
        · have h1 := hlt1 x hx
          have h2 := hnew2 y hy
          omega
      · rw [k2.block c (by have := K3.out.size; omega) (by simp; omega), B3.out.block c (by omega)]
        exact HST.out.cnt
      · refine (K3.out.mono (fp' := [c, p]) (by simp)).trans k2 (Newly.of_sub (by simp))
      · intro x hx
        rcases List.mem_append.1 hx with hx | hx
        · exact hnew1 x hx
        · have := hnew2 x hx
          omega


end Go.Proofs.Ytbhjdcoehgajcaa
