/-
  Pools: what is done with a page. A lemma file: no statement of the seat is proved here.
-/
import Derived.Test.YtbhjdcoehgajcaaPWithin
namespace Go.Proofs.Ytbhjdcoehgajcaa.L.P
open Go.RowKit Go.Maps

theorem dp_at {w : World} {na : Option Addr} {L cap a : Nat} {bs : List Int} (hr : RowB w (.slice na L cap) bs) : a < bs.length → ∀ g, (Value.slice na L cap).ownBlock = some g → (if cap = a then na else na.map (·.add a)) = some ⟨g, a, none⟩ := by
  intro ha g hg
  rcases hr.1.2 with ⟨_, h0⟩ | ⟨g2, cap2, cur, e, _, _, hnc, _⟩
  · omega
  · simp only [Value.slice.injEq] at e
    obtain ⟨rfl, _, rfl⟩ := e
    simp [Value.ownBlock] at hg
    subst hg
    rw [if_neg (by omega)]
    simp [Addr.add_lit]

section
variable {w : World}

set_option maxRecDepth 100000 in
set_option maxHeartbeats 400000 in
/-- What ReadAt does with a page. -/
theorem read1_any (gb R D bx n c pn pc : Nat) (va pa : Option Addr) (buf bs : List Int) (hb : w.cell? ⟨bx, 0, none⟩ = some (.slice va n c)) (hg : w.cell? ⟨gb, 0, none⟩ = some (.slice pa pn pc)) (hr : RowB w (.slice va n c) buf) (hn : buf.length = n) (hp : IsB w (.slice pa pn pc) bs) (hD : D ≤ n) (hR : R ≤ pn) (hx : bx ∉ own (.slice va n c)) (hy : gb ∉ own (.slice va n c)) :
    Calls Try.prog 30 #[.pointer (some ⟨gb, 0, none⟩), .int .i64 R, .int .i64 D, .pointer (some ⟨bx, 0, none⟩)] w fun e w' => e = .returned (.tuple #[]) ∧ RowB w' (.slice va n c) (buf.take D ++ ((bs.drop R).take (n - D) ++ buf.drop (D + (bs.drop R).length))) ∧ Kept (own (.slice va n c)) w w' := by
  have sl1 := slice_from va n c D hD
  have sl2 := slice_from pa pn pc R hR
  obtain ⟨dp, hdp⟩ : ∃ dp, dp = (if c = D then va else va.map (·.add D)) := ⟨_, rfl⟩
  obtain ⟨sp, hsp⟩ : ∃ sp, sp = (if pc = R then pa else pa.map (·.add R)) := ⟨_, rfl⟩
  have HD := hide (dp_at (a := D) hr)
  have HF := hide (hp.from R hR)
  rw [← hdp] at sl1 HD
  rw [← hsp] at sl2 HF
  have HR := hide hr
  have HN := hide hn
  have hb' : w.drew.cell? ⟨bx, 0, none⟩ = some (.slice va n c) := hb
  have hg' : w.drew.cell? ⟨gb, 0, none⟩ = some (.slice pa pn pc) := hg
  obtain ⟨n1, hn1⟩ : ∃ n1, n1 = n - D := ⟨_, rfl⟩
  obtain ⟨c1, hc1⟩ : ∃ c1, c1 = c - D := ⟨_, rfl⟩
  obtain ⟨n2, hn2⟩ : ∃ n2, n2 = pn - R := ⟨_, rfl⟩
  obtain ⟨c2, hc2⟩ : ∃ c2, c2 = pc - R := ⟨_, rfl⟩
  rw [← hn1, ← hc1] at sl1
  rw [← hn2, ← hc2] at sl2 HF
  have HQ := hide hn1
  have HDn := hide hD
  clear hr hn hp hdp hsp hn1 hc1 hn2 hc2
  go_enter Try.func30, Try.ntmps30
  go_wp2_with fail
  go_region_held_law (fun W => W.cell? ⟨bx, 0, none⟩ = some (.slice va n c) ∧ W.cell? ⟨gb, 0, none⟩ = some (.slice pa pn pc)) (exact ⟨by assumption, by assumption⟩) ((refine step_copyR _ ?_ (.tmp 9) (.tmp 15) ?_ (.slice va n c) buf ?_ D ?_ (.slice sp n2 c2) (bs.drop R) ?_ dp n1 c1 ?_ ?_ HD.out ?_ ?_; rfl; rfl; exact HR.out.kept (fp := []) (Kept.of_below (Below.refl _ w).drew) (by simp); (rw [HN.out]; exact HDn.out); exact HF.out.kept (fp := []) (Kept.of_below (Below.refl _ w).drew) (by simp); rfl; (rw [HN.out]; exact HQ.out); rfl; intro w2 r2 k2; have u0 := k2.cell hb' hx; have u1 := k2.cell hg' hy; have R2 := hide r2; have K2 := hide k2; clear r2 k2))
  all_goals
    go_wp2_with fail
    go_end0
    have r := R2.out
    rw [HN.out] at r
    exact ⟨rfl, r, ((Kept.refl (own (.slice va n c)) w).drew).trans K2.out (Newly.refl _ _)⟩

set_option maxRecDepth 100000 in
set_option maxHeartbeats 400000 in
/-- What WriteAt does with a page. -/
theorem write1_any (gb R D bx n c pn pc : Nat) (va pa : Option Addr) (buf bs : List Int) (hb : w.cell? ⟨bx, 0, none⟩ = some (.slice va n c)) (hg : w.cell? ⟨gb, 0, none⟩ = some (.slice pa pn pc)) (hp : RowB w (.slice pa pn pc) bs) (hpn : bs.length = pn) (hr : IsB w (.slice va n c) buf) (hD : D ≤ n) (hR : R ≤ pn) (hx : bx ∉ own (.slice pa pn pc)) (hy : gb ∉ own (.slice pa pn pc))
    {dt : Bool} (hc : w.heap[gb]? = some (.cells #[.slice pa pn pc, .bool dt] 63 (0, 0))) :
    Calls Try.prog 31 #[.pointer (some ⟨gb, 0, none⟩), .int .i64 R, .int .i64 D, .pointer (some ⟨bx, 0, none⟩)] w fun e w' => e = .returned (.tuple #[]) ∧ ∃ w2, w' = w2.setCell ⟨gb, 1, none⟩ (.bool true) ∧ RowB w2 (.slice pa pn pc) (bs.take R ++ ((buf.drop D).take (pn - R) ++ bs.drop (R + (buf.drop D).length))) ∧ Kept (own (.slice pa pn pc)) w w2 := by
  have sl1 := slice_from va n c D hD
  have sl2 := slice_from pa pn pc R hR
  obtain ⟨dp, hdp⟩ : ∃ dp, dp = (if pc = R then pa else pa.map (·.add R)) := ⟨_, rfl⟩
  obtain ⟨sp, hsp⟩ : ∃ sp, sp = (if c = D then va else va.map (·.add D)) := ⟨_, rfl⟩
  have HD := hide (dp_at (a := R) hp)
  have HF := hide (hr.from D hD)
  rw [← hsp] at sl1 HF
  rw [← hdp] at sl2 HD
  have HR := hide hp
  have HN := hide hpn
  have hb' : w.drew.cell? ⟨bx, 0, none⟩ = some (.slice va n c) := hb
  have hg' : w.drew.cell? ⟨gb, 0, none⟩ = some (.slice pa pn pc) := hg
  obtain ⟨n1, hn1⟩ : ∃ n1, n1 = n - D := ⟨_, rfl⟩
  obtain ⟨c1, hc1⟩ : ∃ c1, c1 = c - D := ⟨_, rfl⟩
  obtain ⟨n2, hn2⟩ : ∃ n2, n2 = pn - R := ⟨_, rfl⟩
  obtain ⟨c2, hc2⟩ : ∃ c2, c2 = pc - R := ⟨_, rfl⟩
  rw [← hn1, ← hc1] at sl1 HF
  rw [← hn2, ← hc2] at sl2
  have HQ := hide hn2
  have HDn := hide hR
  have HC := hide hc
  clear hr hp hpn hdp hsp hn1 hc1 hn2 hc2 hc
  go_enter Try.func31, Try.ntmps31
  go_wp2_with fail

  go_region_held_law (fun W => W.cell? ⟨bx, 0, none⟩ = some (.slice va n c) ∧ W.cell? ⟨gb, 0, none⟩ = some (.slice pa pn pc)) (exact ⟨by assumption, by assumption⟩) ((refine step_copyR _ ?_ (.tmp 12) (.tmp 15) ?_ (.slice pa pn pc) bs ?_ R ?_ (.slice sp n1 c1) (buf.drop D) ?_ dp n2 c2 ?_ ?_ HD.out ?_ ?_; rfl; rfl; exact HR.out.kept (fp := []) (Kept.of_below (Below.refl _ w).drew) (by simp); (rw [HN.out]; exact HDn.out); exact HF.out.kept (fp := []) (Kept.of_below (Below.refl _ w).drew) (by simp); rfl; (rw [HN.out]; exact HQ.out); rfl; intro w2 r2 k2; have u0 := k2.cell hb' hx; have u1 := k2.cell hg' hy; have R2 := hide r2; have K2 := hide k2; have hc2 := k2.heap (w := w.drew) HC.out hy; have t1 := cell_of_heap hc2 1; simp at t1; have t2 := frozen_of_heap hc2 1; clear r2 k2 hc2))
  all_goals
    go_wp2_with fail
    go_end0
    have r := R2.out
    rw [HN.out] at r
    exact ⟨rfl, w2, rfl, r, ((Kept.refl (own (.slice pa pn pc)) w).drew).trans K2.out (Newly.refl _ _)⟩

end
end Go.Proofs.Ytbhjdcoehgajcaa.L.P
