/-
  What ReadAt tells, of a file that there is; what Sync does. A lemma file: no statement of the seat is proved here.
-/
import Derived.Test.YtbhjdcoehgajcaaDDrop
namespace Go.Proofs.Ytbhjdcoehgajcaa
open Go.RowKit Go.Maps Go.Sort Go.Shelf

theorem read_list (now : List Int) (a m : Nat) (h : a + m ≤ now.length) : (zs0 m).take 0 ++ ((now.drop a).take ((zs0 m).length - 0) ++ (zs0 m).drop (0 + (now.drop a).length)) = (now.drop a).take m := by
  have e : (zs0 m).drop (0 + (now.drop a).length) = [] := List.drop_of_length_le (by rw [zs0_length]; simp; omega)
  rw [e, zs0_length]
  simp

set_option maxRecDepth 100000 in
set_option maxHeartbeats 4000000 in
/-- ReadAt: bytes of a file that there is. -/
theorem Dk.read {w : World} {fp : List Nat} {p : Nat} {l : List Ab} {s : Ds} (h : Dk w fp p l s) (hn : s.ops ≤ 1000000) (nm : ByteArray) (hnm : nm.size ≤ maxLen) {x : Ab} (he : errA (beginA l s) nm.data.toList = none) (hx : lookA (beginA l s).1 nm.data.toList = some x) (a m : Nat) (ham : a + m ≤ x.2.1.length) :
    Calls Try.prog 16 #[.pointer (some ⟨p, 0, none⟩), .string nm, .int .i64 (a : Int), .int .i64 (m : Int)] w fun e w' => ∃ v, e = .returned (.tuple #[v, .int .i64 0]) ∧ RowB w' v ((x.2.1.drop a).take m) ∧
      ∃ fp', Dk w' fp' p (beginA l s).1 (beginA l s).2 ∧ Kept fp w w' ∧ Newly w fp fp' ∧ ∀ y ∈ own v, w.heap.size ≤ y ∧ y ∉ fp' := by
  obtain ⟨bm, kv, fs, d, rfl, rfl, ho⟩ := h
  have hok := beginA_ok ho
  have HOK := hide hok
  have FD := hide (find_ok d ho hn nm hnm he hx)
  have hxl : x.2.1.length ≤ 1073741824 := by
    have h1 := usedB_mem (lookA_mem hx).1
    have h2 := hok.used
    have h3 := hok.fits
    have h4 := hok.room
    have h5 := sec_le _ _ (Int.le_trans h1 (by omega : usedB (beginA (fs.map Fl.ab) s).1 ≤ 67108864))
    omega
  obtain ⟨L, hL⟩ : ∃ L, L = x.2.1.length := ⟨_, rfl⟩
  have HL := hide hL
  have HRL := hide (read_list x.2.1 a m ham)
  have hi1 : (m : Int) ≤ (L : Int) - (a : Int) := by omega
  have hi2 : ¬ (L : Int) - (a : Int) < (m : Int) := by omega
  have haL : a ≤ L := by omega
  have hmL : m ≤ 1099511627776 := by omega
  have hL2 : L ≤ 1073741824 := by omega
  clear d ho he hnm hx hL hok
  generalize beginA (fs.map Fl.ab) s = A at FD HOK ⊢
  go_enter Try.func16, Try.ntmps16
  go_wp2_with (first
    | (go_at_call 34; refine FD.out.mono ?_; rintro e w1 ⟨kv1, fs1, s1, f1, rfl, hl1, hf1, L1⟩; have FA := L1.1.files f1 (look_name hl1).1; have c0 := cell_of_heap FA.cells 0; simp at c0; obtain ⟨va, vc, hvn, hvc⟩ := FA.rnow.isB.form; rw [hvn] at c0; have e3 : f1.now = x.2.1 := (by rw [← hf1]; rfl); rw [e3, ← HL.out] at c0 hvc; have RN := FA.rnow; rw [hvn, e3, ← HL.out] at RN; have HRN := hide RN; have hfl := FA.lt f1.blk (by simp [foot]); have sl1 := slice_from va L vc a haL; obtain ⟨dp, hdp⟩ : ∃ dp, dp = (if vc = a then va else va.map (·.add a)) := ⟨_, rfl⟩; have HSB : Hid (IsB w1 (.slice dp (L - a) (vc - a)) (x.2.1.drop a)) := (by rw [hdp]; exact RN.isB.from a haL); rw [← hdp] at sl1; have HLT := hide L1.1.lt; have HL1 := hide L1; clear L1 FA hvn hf1 hl1 e3 RN hdp)
    | (at_make; refine wp_makeB _ rfl _ _ rfl m (m : Int) (m : Int) rfl rfl rfl rfl hmL ?_; intro w2 r2 b2; have R2 := hide r2; have B2 := hide b2; clear r2 b2; have c2 := (B2.out.cell (p := ⟨f1.blk, 0, none⟩) hfl).trans c0)
    | (refine wp_copyM _ rfl _ _ rfl (.slice (some ⟨w1.heap.size, 0, none⟩) m m) (zs0 m) R2.out 0 (Nat.zero_le _) (.slice dp (L - a) (vc - a)) (x.2.1.drop a) (HSB.out.below B2.out) (some ⟨w1.heap.size, 0, none⟩) m m rfl (by rw [zs0_length]; rfl) (by intro _ g hg; simp [Value.ownBlock] at hg; rw [hg]) rfl (min (x.2.1.drop a).length ((zs0 m).length - 0)) rfl ((x.2.1.drop a).take m) HRL.out.symm ?_; intro w3 r3 k3; have R3 := hide r3; have K3 := hide k3; clear r3 k3))
  go_ret2
  obtain ⟨q1, q2, q3, q4⟩ := HL1.out
  have hnw : ∀ y ∈ own (.slice (some ⟨w1.heap.size, 0, none⟩) m m), y = w1.heap.size := fun y hy => by simp [own, Value.ownBlock] at hy; omega
  have k13 : Kept [] w1 w3 := (Kept.of_below (fp := []) B2.out).trans K3.out (fun y hy => .inr (by rw [hnw y hy]; exact Nat.le_refl _))
  refine ⟨_, rfl, R3.out, feet p bm kv1 fs1, ⟨bm, kv1, fs1, ?_, ?_, rfl, HOK.out⟩, q3.trans k13 (Newly.of_sub (by simp)), q4, fun y hy => ?_⟩
  · have e2 := congrArg (fun z => z.2) q2
    simp only at e2
    rw [← e2]
    exact q1.kept k13 (by simp)
  · exact congrArg (fun z => z.1) q2
  · rw [hnw y hy]
    refine ⟨q3.size, fun e => ?_⟩
    have := HLT.out _ e
    omega

end Go.Proofs.Ytbhjdcoehgajcaa
