/-
  What the reference's Sort does. A lemma file: no statement of the seat is proved here.
-/
import Derived.Test.YtjkdnibfppjolaaRefSort
namespace Go.Proofs.Ytjkdnibfppjolaa
open Go.RowKit

theorem OwnV.at0 {B : Nat} {w : World} {ad : Addr} {len cap : Nat} {es : List Ed} (h : OwnV B w (.slice (some ad) len cap) es) : ∃ g, ad = ⟨g, 0, none⟩ := by
  rcases h.1.2 with ⟨h', _⟩ | ⟨g, cap', cur, he, _⟩
  · simp at h'
  · simp only [Value.slice.injEq, Option.some.injEq] at he
    exact ⟨g, he.1⟩

set_option maxRecDepth 100000 in
set_option maxHeartbeats 8000000 in
theorem rsort_any (v : Value) (es : List Ed) (w : World) (hv : IsE w v es) (hl : es.length ≤ 1048576) :
    Calls Try.prog 34 #[v] w fun e w' => ∃ g cap R, e = .returned (.slice (some ⟨g, 0, none⟩) R.length cap) ∧ IsE w' (.slice (some ⟨g, 0, none⟩) R.length cap) R ∧ R.Perm es ∧ Ord R ∧ Below w.heap.size w w' := by
  have HV := hide hv
  have HOK := hide hv.ok
  obtain ⟨a, cap0, rfl, _⟩ := hv.form
  have O0 := hide (OwnV.empty w w.heap.size (Nat.le_refl _))
  have B0 := hide ((Below.refl _ w).alloc (Nat.le_refl _) (.cells #[] 39))
  clear hv
  go_enter Try.func34, Try.ntmps34
  go_wp2
  go_loopw [3, 4] (fun row i wr => ∃ (k g cap : Nat) (out : List Ed), k ≤ es.length ∧ i = .int .i64 k ∧ row = .slice (some ⟨g, 0, none⟩) out.length cap ∧ Hid (OwnE 39 w.heap.size wr g cap out) ∧ Hid (out.Perm (es.take k)) ∧ Hid (Ord out) ∧ Hid (Below w.heap.size w wr) ∧ Hid (out.length = k)) (fun _ i _ => es.length - (intOf i).toNat)
  case atStart => exact ⟨0, w.heap.size, 0, [], Nat.zero_le _, rfl, rfl, O0, (by simp [Hid]), List.Pairwise.nil, B0, rfl⟩
  case round =>
    obtain ⟨k, g, cap, out, hk, rfl, rfl, HO, HP, HD, HB, HL⟩ := hrel
    obtain ⟨wo, hwo⟩ : ∃ wo, wo = wr := ⟨_, rfl⟩
    subst hwo
    by_cases hlt : k < es.length
    · have hok := HOK.out es[k]! (by rw [getElem!_pos es k hlt]; exact List.getElem_mem hlt)
      have htk : es.take (k + 1) = es.take k ++ [es[k]!] := by rw [List.take_succ_eq_append_getElem hlt, getElem!_pos es k hlt]
      have hol : out.length ≤ 1048576 := by have := HL.out; omega
      have hki : (k : Int) < (es.length : Int) := by omega
      obtain ⟨p, poff, pcap, he, _, hpb, hpc⟩ := (HV.out.below HB.out).opened (by omega)
      simp only [Value.slice.injEq, true_and] at he
      obtain ⟨rfl, rfl⟩ := he
      have hat := IsE.at hpc k hlt
      obtain ⟨x, hx⟩ : ∃ x, x = es[k]! := ⟨_, rfl⟩
      rw [← hx] at hok htk hat
      have HXE := hide hx
      have LX := hide fun y w => less_any x y w
      have HTK := hide htk
      have HOKx := hide hok
      have hxc : ∀ w', Below wo.heap.size wo w' → w'.cell? ⟨p, poff + k * 3, none⟩ = some (.int .u32 x.1) ∧ w'.cell? ⟨p, poff + k * 3 + 1, none⟩ = some (.int .u32 x.2.1) ∧ w'.cell? ⟨p, poff + k * 3 + 2, none⟩ = some (.int .u32 x.2.2) := fun w' hb =>
        ⟨(hb.cell (p := ⟨p, poff + k * 3, none⟩) hpb).trans hat.1, (hb.cell (p := ⟨p, poff + k * 3 + 1, none⟩) hpb).trans hat.2.1, (hb.cell (p := ⟨p, poff + k * 3 + 2, none⟩) hpb).trans hat.2.2⟩
      have HXC := hide hxc
      clear hpc hx htk hok hat hxc
      obtain ⟨x1, x2, x3⟩ := x
      dsimp only at LX HXC
      go_wp2
      go_loopw [5] (fun s wr => ∃ kk : Nat, kk ≤ out.length ∧ s = .int .i64 kk ∧ Hid (∀ j, kk ≤ j → j < out.length → ltR (x1, x2, x3) out[j]! = true) ∧ Hid (Below wo.heap.size wo wr)) (fun s _ => (intOf s).toNat)
      case atStart => exact ⟨out.length, Nat.le_refl _, rfl, fun j h1 h2 => by omega, Below.refl _ _⟩
      case round =>
        obtain ⟨kk, hkk, rfl, HH, HBi⟩ := hrel
        obtain ⟨wi, hwi⟩ : ∃ wi, wi = wr := ⟨_, rfl⟩
        subst hwi
        by_cases hpos : 0 < kk
        · obtain ⟨k1, rfl⟩ : ∃ k1, kk = k1 + 1 := ⟨kk - 1, by omega⟩
          have oi := HO.out.below HBi.out
          have m0 := oi.cellAt k1 0 _ (by omega) rfl
          have m1 := oi.cellAt k1 1 _ (by omega) rfl
          have m2 := oi.cellAt k1 2 _ (by omega) rfl
          rw [Nat.add_zero] at m0
          obtain ⟨c0, c1, c2⟩ := HXC.out wi HBi.out
          obtain ⟨y, hy⟩ : ∃ y, y = out[k1]! := ⟨_, rfl⟩
          rw [← hy] at m0 m1 m2
          have HY := hide hy
          obtain ⟨y1, y2, y3⟩ := y
          dsimp only at m0 m1 m2
          have hcs : ∀ w', Below wi.heap.size wi w' → (w'.cell? ⟨p, poff + k * 3, none⟩ = some (.int .u32 x1) ∧ w'.cell? ⟨p, poff + k * 3 + 1, none⟩ = some (.int .u32 x2) ∧ w'.cell? ⟨p, poff + k * 3 + 2, none⟩ = some (.int .u32 x3)) ∧ w'.cell? ⟨g, k1 * 3, none⟩ = some (.int .u32 y1) ∧ w'.cell? ⟨g, k1 * 3 + 1, none⟩ = some (.int .u32 y2) ∧ w'.cell? ⟨g, k1 * 3 + 2, none⟩ = some (.int .u32 y3) := fun w' hb =>
            ⟨HXC.out w' (below_then HBi.out hb), (hb.cell (p := ⟨g, k1 * 3, none⟩) oi.base.2).trans m0, (hb.cell (p := ⟨g, k1 * 3 + 1, none⟩) oi.base.2).trans m1, (hb.cell (p := ⟨g, k1 * 3 + 2, none⟩) oi.base.2).trans m2⟩
          have HCS := hide hcs
          have hL := LX.out (y1, y2, y3)
          dsimp only at hL
          have hw1 : IntKind.i64.wrap ((k1 : Int) + 1 - 1) = (k1 : Int) := by rw [i64_small _ (by omega) (by omega)]; omega
          have hw2 : IntKind.i64.wrap (k1 : Int) = (k1 : Int) := i64_small _ (by omega) (by omega)
          have hkz : (0 : Int) < (k1 : Int) + 1 := by omega
          have hk0 : (0 : Int) ≤ (k1 : Int) := by omega
          have hk3 : (k1 : Int) < (out.length : Int) := by omega
          clear hcs oi hy
          cases hlx : ltR (x1, x2, x3) (y1, y2, y3) with
          | true =>
            rw [hlx] at hL
            have HLX := hide hL
            clear hL
            go_wp2
            go_region_held (fun w' => (w'.cell? ⟨p, poff + k * 3, none⟩ = some (.int .u32 x1) ∧ w'.cell? ⟨p, poff + k * 3 + 1, none⟩ = some (.int .u32 x2) ∧ w'.cell? ⟨p, poff + k * 3 + 2, none⟩ = some (.int .u32 x3)) ∧ w'.cell? ⟨g, k1 * 3, none⟩ = some (.int .u32 y1) ∧ w'.cell? ⟨g, k1 * 3 + 1, none⟩ = some (.int .u32 y2) ∧ w'.cell? ⟨g, k1 * 3 + 2, none⟩ = some (.int .u32 y3)) (first | exact HCS.out _ (Below.refl _ _).drew | exact HCS.out _ b2') (first | (go_at_call 43; refine (HLX.out _).mono ?_; rintro e w2 ⟨rfl, b2⟩; have b2' := below_undrew b2))
            go_wp2
            go_roundw
            case rel =>
              have R1 : Hid (∀ j, k1 ≤ j → j < out.length → ltR (x1, x2, x3) out[j]! = true) := fun j h1 h2 => by
                by_cases e : j = k1
                · subst e; rw [← HY.out]; exact hlx
                · exact HH.out j (by omega) h2
              have R2 := hide (below_then HBi.out b2')
              first | exact ⟨k1, by omega, by go_num, R1, R2⟩ | ((repeat apply Exists.intro); exact ⟨⟨k1, by omega, by go_num, R1, R2⟩, rfl⟩)
            case measure => simp [intOf]
          | false =>
            rw [hlx] at hL
            have HLX := hide hL
            have h2 : Hid (0 < k1 + 1 → ltR (x1, x2, x3) out[k1 + 1 - 1]! = false) := fun _ => by rw [Nat.add_sub_cancel, ← HY.out]; exact hlx
            clear hL
            go_wp2
            go_region_held (fun w' => (w'.cell? ⟨p, poff + k * 3, none⟩ = some (.int .u32 x1) ∧ w'.cell? ⟨p, poff + k * 3 + 1, none⟩ = some (.int .u32 x2) ∧ w'.cell? ⟨p, poff + k * 3 + 2, none⟩ = some (.int .u32 x3)) ∧ w'.cell? ⟨g, k1 * 3, none⟩ = some (.int .u32 y1) ∧ w'.cell? ⟨g, k1 * 3 + 1, none⟩ = some (.int .u32 y2) ∧ w'.cell? ⟨g, k1 * 3 + 2, none⟩ = some (.int .u32 y3)) (first | exact HCS.out _ (Below.refl _ _).drew | exact HCS.out _ b2') (first | (go_at_call 43; refine (HLX.out _).mono ?_; rintro e w2 ⟨rfl, b2⟩; have b2' := below_undrew b2))
            have HB2 := hide (below_then HBi.out b2')
            clear b2 b2' c0 c1 c2 m0 m1 m2 HCS HLX LX hw1 hw2 hkz hk0 hk3
            obtain ⟨kk, hkkd⟩ : ∃ kk, kk = k1 + 1 := ⟨_, rfl⟩
            have hki' : (k1 : Int) + 1 = (kk : Int) := by omega
            rw [← hkkd] at hkk HH h2
            rw [hki']
            clear hkkd hki'
            obtain ⟨c0, c1, c2⟩ := HXC.out w2 HB2.out
            have O2 := hide (HO.out.below HB2.out)
            have b3 : Below w2.heap.size w2 (w2.alloc (.cells #[.int .u32 x1, .int .u32 x2, .int .u32 x3] 39)) := (Below.refl _ w2).alloc (Nat.le_refl _) _
            have O3 : Hid (OwnV w.heap.size (w2.alloc (.cells #[.int .u32 x1, .int .u32 x2, .int .u32 x3] 39)) (.slice (some ⟨g, 0, none⟩) out.length cap) out) := O2.out.below b3
            have I3 := hide (IsE.new w2 [(x1, x2, x3)] 39 (0, 0) (fun e he => by simp at he; subst he; exact HOKx.out))
            have hwB := (below_then HB.out HB2.out).size
            clear b3
            go_wp2_with (at_builtin; refine wp_appendE _ rfl (.tmp 32) (.tmp 37) rfl w.heap.size (.slice (some ⟨g, 0, none⟩) out.length cap) (.slice (some ⟨w2.heap.size, 0, none⟩) 1 1) out [(x1, x2, x3)] rfl O3.out rfl I3.out (by simp; omega) (by simp; omega) ?_; intro a4 cap4 w4 o4 g4 n4; rw [List.length_singleton] at o4; rw [List.length_singleton])
            obtain ⟨ad, rfl⟩ : ∃ ad, a4 = some ad := Option.ne_none_iff_exists'.1 (n4 (by simp [Value.ownBlock]))
            obtain ⟨gn, rfl⟩ := o4.at0
            have O4 : Hid (OwnE 39 w.heap.size w4 gn cap4 (gap out out.length (x1, x2, x3))) := by
              rw [gap_end] at o4
              show OwnE _ _ _ _ _ _
              unfold OwnE
              rw [gap_length]
              have := o4
              unfold OwnV at this
              rw [gap_length] at this
              exact this
            have B4 : Hid (Below w.heap.size w w4) := ((below_then HB.out HB2.out).alloc hwB _).grown g4 (by simp; omega) (by intro j hj; have := O2.out.base; simp [Value.ownBlock] at hj; omega)
            clear o4 g4 n4 c0 c1 c2
            go_loopw [6] (fun s wr => ∃ (j : Nat) (c : Ed), kk ≤ j ∧ j ≤ out.length ∧ s = .int .i64 j ∧ Hid (OwnE 39 w.heap.size wr gn cap4 (gap out j c)) ∧ Hid (Below w.heap.size w wr)) (fun s _ => (intOf s).toNat)
            case atStart => exact ⟨out.length, _, hkk, Nat.le_refl _, by simp, O4, B4⟩
            case round =>
              obtain ⟨j, c, hj1, hj2, rfl, HOj, HBj⟩ := hrel
              have hgl := gap_length out j c
              by_cases hjk : kk < j
              · have m0 := HOj.out.cellAt (j - 1) 0 _ (by rw [hgl]; omega) rfl
                have m1 := HOj.out.cellAt (j - 1) 1 _ (by rw [hgl]; omega) rfl
                have m2 := HOj.out.cellAt (j - 1) 2 _ (by rw [hgl]; omega) rfl
                have u0 := HOj.out.cellAt j 0 _ (by rw [hgl]; omega) rfl
                have u1 := HOj.out.cellAt j 1 _ (by rw [hgl]; omega) rfl
                have u2 := HOj.out.cellAt j 2 _ (by rw [hgl]; omega) rfl
                have fz := HOj.out.frozenAt
                have hya := HOj.out.2 (gap out j c)[j - 1]! (by rw [getElem!_pos _ (j - 1) (by rw [hgl]; omega)]; exact List.getElem_mem _)
                have hst := gap_step out j c (by omega) hj2
                rw [← gap_at out j c (by omega) hj2] at hst
                rw [Nat.add_zero] at m0 u0
                obtain ⟨y, hy⟩ : ∃ y, y = (gap out j c)[j - 1]! := ⟨_, rfl⟩
                obtain ⟨z, hz⟩ : ∃ z, z = (gap out j c)[j]! := ⟨_, rfl⟩
                rw [← hy] at m0 m1 m2 hya hst
                rw [← hz] at u0 u1 u2
                have HYA := hide hya
                have HST := hide hst
                clear hy hz hya hst
                obtain ⟨y1, y2, y3⟩ := y
                obtain ⟨z1, z2, z3⟩ := z
                dsimp only at m0 m1 m2 u0 u1 u2
                have hjz : (kk : Int) < (j : Int) := by omega
                have hjt : ((j : Int) - 1).toNat = j - 1 := by omega
                have hGL := hide hgl
                clear hgl
                go_wp2
                go_roundw
                case rel =>
                  have R1 := HOj.out.stored j (by rw [hGL.out]; omega) (y1, y2, y3) HYA.out
                  rw [HST.out] at R1
                  have R2 : Below w.heap.size w (((wr.setCell ⟨gn, j * 3, none⟩ (.int .u32 y1)).setCell ⟨gn, j * 3 + 1, none⟩ (.int .u32 y2)).setCell ⟨gn, j * 3 + 2, none⟩ (.int .u32 y3)) := ((HBj.out.setCell (p := ⟨gn, j * 3, none⟩) HOj.out.base.1 _).setCell (p := ⟨gn, j * 3 + 1, none⟩) HOj.out.base.1 _).setCell (p := ⟨gn, j * 3 + 2, none⟩) HOj.out.base.1 _
                  have R3 : Value.int .i64 ((j : Int) - 1) = Value.int .i64 ((j - 1 : Nat) : Int) := by rw [show ((j - 1 : Nat) : Int) = (j : Int) - 1 by omega]
                  first | exact ⟨j - 1, _, by omega, by omega, R3, R1, R2⟩ | ((repeat apply Exists.intro); exact ⟨⟨j - 1, _, by omega, by omega, R3, R1, R2⟩, rfl⟩)
                case measure => simp [intOf]; omega
              · obtain rfl : j = kk := by omega
                have u0 := HOj.out.cellAt j 0 _ (by rw [hgl]; omega) rfl
                have u1 := HOj.out.cellAt j 1 _ (by rw [hgl]; omega) rfl
                have u2 := HOj.out.cellAt j 2 _ (by rw [hgl]; omega) rfl
                have fz := HOj.out.frozenAt
                rw [Nat.add_zero] at u0
                obtain ⟨z, hz⟩ : ∃ z, z = (gap out j c)[j]! := ⟨_, rfl⟩
                rw [← hz] at u0 u1 u2
                clear hz
                obtain ⟨z1, z2, z3⟩ := z
                dsimp only at u0 u1 u2
                obtain ⟨p', poff', pcap', he', _, hpb', hpc'⟩ := (HV.out.below HBj.out).opened (by omega)
                simp only [Value.slice.injEq, Option.some.injEq, Addr.mk.injEq, and_true, true_and] at he'
                obtain ⟨⟨rfl, rfl⟩, rfl⟩ := he'
                obtain ⟨c0, c1, c2⟩ := IsE.at hpc' k hlt
                rw [← HXE.out] at c0 c1 c2
                dsimp only at c0 c1 c2
                have hjz : ¬ (j : Int) < (j : Int) := by omega
                have hjl : (j : Int) < (out.length : Int) + 1 := by omega
                have hGL := hide hgl
                clear hgl hpc'
                go_wp2
                go_roundw
                case rel =>
                  have R1 := HOj.out.stored j (by rw [hGL.out]; omega) (x1, x2, x3) HOKx.out
                  rw [gap_set out j c (x1, x2, x3) hkk] at R1
                  have R2 : Below w.heap.size w (((wr.setCell ⟨gn, j * 3, none⟩ (.int .u32 x1)).setCell ⟨gn, j * 3 + 1, none⟩ (.int .u32 x2)).setCell ⟨gn, j * 3 + 2, none⟩ (.int .u32 x3)) := ((HBj.out.setCell (p := ⟨gn, j * 3, none⟩) HOj.out.base.1 _).setCell (p := ⟨gn, j * 3 + 1, none⟩) HOj.out.base.1 _).setCell (p := ⟨gn, j * 3 + 2, none⟩) HOj.out.base.1 _
                  have R3 : Hid ((out.take j ++ (x1, x2, x3) :: out.drop j).Perm (es.take (k + 1))) := by
                    show List.Perm _ _
                    rw [HTK.out]
                    exact perm_insert out (x1, x2, x3) j _ HP.out
                  have R4 : Hid (Ord (out.take j ++ (x1, x2, x3) :: out.drop j)) := ord_insert out HD.out (x1, x2, x3) j hkk HH.out h2.out
                  have R5 : Hid ((out.take j ++ (x1, x2, x3) :: out.drop j).length = k + 1) := by
                    show _ = _
                    have := HL.out
                    simp
                    omega
                  have R6 : Value.slice (some ⟨gn, 0, none⟩) (out.length + 1) cap4 = Value.slice (some ⟨gn, 0, none⟩) (out.take j ++ (x1, x2, x3) :: out.drop j).length cap4 := by rw [R5.out, HL.out]
                  first | exact ⟨k + 1, gn, cap4, _, by omega, by go_num, R6, R1, R3, R4, R2, R5⟩ | ((repeat apply Exists.intro); exact ⟨⟨k + 1, gn, cap4, _, by omega, by go_num, R6, R1, R3, R4, R2, R5⟩, rfl⟩)
                case measure => simp [intOf]; omega
        · have h2 : Hid (0 < kk → ltR (x1, x2, x3) out[kk - 1]! = false) := fun h => absurd h hpos
          have hkz : decide ((0 : Int) < (kk : Int)) = false := by simp; omega
          clear LX
          go_wp2
          go_quiet (fail)
          have HB2 := hide (Go.Proofs.below_drewN' HBi.out nq)
          obtain ⟨w2, hw2⟩ : ∃ w2, w2 = wi.drewN nq := ⟨_, rfl⟩
          rw [← hw2] at HB2 ⊢
          clear hw2
          obtain ⟨c0, c1, c2⟩ := HXC.out w2 HB2.out
          have O2 := hide (HO.out.below HB2.out)
          have b3 : Below w2.heap.size w2 (w2.alloc (.cells #[.int .u32 x1, .int .u32 x2, .int .u32 x3] 39)) := (Below.refl _ w2).alloc (Nat.le_refl _) _
          have O3 : Hid (OwnV w.heap.size (w2.alloc (.cells #[.int .u32 x1, .int .u32 x2, .int .u32 x3] 39)) (.slice (some ⟨g, 0, none⟩) out.length cap) out) := O2.out.below b3
          have I3 := hide (IsE.new w2 [(x1, x2, x3)] 39 (0, 0) (fun e he => by simp at he; subst he; exact HOKx.out))
          have hwB := (below_then HB.out HB2.out).size
          clear b3
          go_wp2_with (at_builtin; refine wp_appendE _ rfl (.tmp 32) (.tmp 37) rfl w.heap.size (.slice (some ⟨g, 0, none⟩) out.length cap) (.slice (some ⟨w2.heap.size, 0, none⟩) 1 1) out [(x1, x2, x3)] rfl O3.out rfl I3.out (by simp; omega) (by simp; omega) ?_; intro a4 cap4 w4 o4 g4 n4; rw [List.length_singleton] at o4; rw [List.length_singleton])
          obtain ⟨ad, rfl⟩ : ∃ ad, a4 = some ad := Option.ne_none_iff_exists'.1 (n4 (by simp [Value.ownBlock]))
          obtain ⟨gn, rfl⟩ := o4.at0
          have O4 : Hid (OwnE 39 w.heap.size w4 gn cap4 (gap out out.length (x1, x2, x3))) := by
            rw [gap_end] at o4
            show OwnE _ _ _ _ _ _
            unfold OwnE
            rw [gap_length]
            have := o4
            unfold OwnV at this
            rw [gap_length] at this
            exact this
          have B4 : Hid (Below w.heap.size w w4) := ((below_then HB.out HB2.out).alloc hwB _).grown g4 (by simp; omega) (by intro j hj; have := O2.out.base; simp [Value.ownBlock] at hj; omega)
          clear o4 g4 n4 c0 c1 c2
          go_loopw [6] (fun s wr => ∃ (j : Nat) (c : Ed), kk ≤ j ∧ j ≤ out.length ∧ s = .int .i64 j ∧ Hid (OwnE 39 w.heap.size wr gn cap4 (gap out j c)) ∧ Hid (Below w.heap.size w wr)) (fun s _ => (intOf s).toNat)
          case atStart => exact ⟨out.length, _, hkk, Nat.le_refl _, by simp, O4, B4⟩
          case round =>
            obtain ⟨j, c, hj1, hj2, rfl, HOj, HBj⟩ := hrel
            have hgl := gap_length out j c
            by_cases hjk : kk < j
            · have m0 := HOj.out.cellAt (j - 1) 0 _ (by rw [hgl]; omega) rfl
              have m1 := HOj.out.cellAt (j - 1) 1 _ (by rw [hgl]; omega) rfl
              have m2 := HOj.out.cellAt (j - 1) 2 _ (by rw [hgl]; omega) rfl
              have u0 := HOj.out.cellAt j 0 _ (by rw [hgl]; omega) rfl
              have u1 := HOj.out.cellAt j 1 _ (by rw [hgl]; omega) rfl
              have u2 := HOj.out.cellAt j 2 _ (by rw [hgl]; omega) rfl
              have fz := HOj.out.frozenAt
              have hya := HOj.out.2 (gap out j c)[j - 1]! (by rw [getElem!_pos _ (j - 1) (by rw [hgl]; omega)]; exact List.getElem_mem _)
              have hst := gap_step out j c (by omega) hj2
              rw [← gap_at out j c (by omega) hj2] at hst
              rw [Nat.add_zero] at m0 u0
              obtain ⟨y, hy⟩ : ∃ y, y = (gap out j c)[j - 1]! := ⟨_, rfl⟩
              obtain ⟨z, hz⟩ : ∃ z, z = (gap out j c)[j]! := ⟨_, rfl⟩
              rw [← hy] at m0 m1 m2 hya hst
              rw [← hz] at u0 u1 u2
              have HYA := hide hya
              have HST := hide hst
              clear hy hz hya hst
              obtain ⟨y1, y2, y3⟩ := y
              obtain ⟨z1, z2, z3⟩ := z
              dsimp only at m0 m1 m2 u0 u1 u2
              have hjz : (kk : Int) < (j : Int) := by omega
              have hjt : ((j : Int) - 1).toNat = j - 1 := by omega
              have hGL := hide hgl
              clear hgl
              go_wp2
              go_roundw
              case rel =>
                have R1 := HOj.out.stored j (by rw [hGL.out]; omega) (y1, y2, y3) HYA.out
                rw [HST.out] at R1
                have R2 : Below w.heap.size w (((wr.setCell ⟨gn, j * 3, none⟩ (.int .u32 y1)).setCell ⟨gn, j * 3 + 1, none⟩ (.int .u32 y2)).setCell ⟨gn, j * 3 + 2, none⟩ (.int .u32 y3)) := ((HBj.out.setCell (p := ⟨gn, j * 3, none⟩) HOj.out.base.1 _).setCell (p := ⟨gn, j * 3 + 1, none⟩) HOj.out.base.1 _).setCell (p := ⟨gn, j * 3 + 2, none⟩) HOj.out.base.1 _
                have R3 : Value.int .i64 ((j : Int) - 1) = Value.int .i64 ((j - 1 : Nat) : Int) := by rw [show ((j - 1 : Nat) : Int) = (j : Int) - 1 by omega]
                first | exact ⟨j - 1, _, by omega, by omega, R3, R1, R2⟩ | ((repeat apply Exists.intro); exact ⟨⟨j - 1, _, by omega, by omega, R3, R1, R2⟩, rfl⟩)
              case measure => simp [intOf]; omega
            · obtain rfl : j = kk := by omega
              have u0 := HOj.out.cellAt j 0 _ (by rw [hgl]; omega) rfl
              have u1 := HOj.out.cellAt j 1 _ (by rw [hgl]; omega) rfl
              have u2 := HOj.out.cellAt j 2 _ (by rw [hgl]; omega) rfl
              have fz := HOj.out.frozenAt
              rw [Nat.add_zero] at u0
              obtain ⟨z, hz⟩ : ∃ z, z = (gap out j c)[j]! := ⟨_, rfl⟩
              rw [← hz] at u0 u1 u2
              clear hz
              obtain ⟨z1, z2, z3⟩ := z
              dsimp only at u0 u1 u2
              obtain ⟨p', poff', pcap', he', _, hpb', hpc'⟩ := (HV.out.below HBj.out).opened (by omega)
              simp only [Value.slice.injEq, Option.some.injEq, Addr.mk.injEq, and_true, true_and] at he'
              obtain ⟨⟨rfl, rfl⟩, rfl⟩ := he'
              obtain ⟨c0, c1, c2⟩ := IsE.at hpc' k hlt
              rw [← HXE.out] at c0 c1 c2
              dsimp only at c0 c1 c2
              have hjz : ¬ (j : Int) < (j : Int) := by omega
              have hjl : (j : Int) < (out.length : Int) + 1 := by omega
              have hGL := hide hgl
              clear hgl hpc'
              go_wp2
              go_roundw
              case rel =>
                have R1 := HOj.out.stored j (by rw [hGL.out]; omega) (x1, x2, x3) HOKx.out
                rw [gap_set out j c (x1, x2, x3) hkk] at R1
                have R2 : Below w.heap.size w (((wr.setCell ⟨gn, j * 3, none⟩ (.int .u32 x1)).setCell ⟨gn, j * 3 + 1, none⟩ (.int .u32 x2)).setCell ⟨gn, j * 3 + 2, none⟩ (.int .u32 x3)) := ((HBj.out.setCell (p := ⟨gn, j * 3, none⟩) HOj.out.base.1 _).setCell (p := ⟨gn, j * 3 + 1, none⟩) HOj.out.base.1 _).setCell (p := ⟨gn, j * 3 + 2, none⟩) HOj.out.base.1 _
                have R3 : Hid ((out.take j ++ (x1, x2, x3) :: out.drop j).Perm (es.take (k + 1))) := by
                  show List.Perm _ _
                  rw [HTK.out]
                  exact perm_insert out (x1, x2, x3) j _ HP.out
                have R4 : Hid (Ord (out.take j ++ (x1, x2, x3) :: out.drop j)) := ord_insert out HD.out (x1, x2, x3) j hkk HH.out h2.out
                have R5 : Hid ((out.take j ++ (x1, x2, x3) :: out.drop j).length = k + 1) := by
                  show _ = _
                  have := HL.out
                  simp
                  omega
                have R6 : Value.slice (some ⟨gn, 0, none⟩) (out.length + 1) cap4 = Value.slice (some ⟨gn, 0, none⟩) (out.take j ++ (x1, x2, x3) :: out.drop j).length cap4 := by rw [R5.out, HL.out]
                first | exact ⟨k + 1, gn, cap4, _, by omega, by go_num, R6, R1, R3, R4, R2, R5⟩ | ((repeat apply Exists.intro); exact ⟨⟨k + 1, gn, cap4, _, by omega, by go_num, R6, R1, R3, R4, R2, R5⟩, rfl⟩)
              case measure => simp [intOf]; omega
    · have e : k = es.length := by omega
      subst e
      have hp := HP.out
      rw [List.take_of_length_le (Nat.le_refl _)] at hp
      have HPP := hide hp
      clear hp
      go_wp2
      go_ret
      exact ⟨g, cap, out, rfl, HO.out.isE, HPP.out, HD.out, HB.out⟩

end Go.Proofs.Ytjkdnibfppjolaa
