/-
  What the statements' same and few do. A lemma file: no statement of the seat is proved here.
-/
import Derived.Deep.RegionHeld
import Derived.Test.YtjnmggbkclnbkaaBShown
namespace Go.Proofs.Ytjnmggbkclnbkaa
open Go.RowKit Go.Maps

set_option maxRecDepth 100000 in
set_option maxHeartbeats 1000000 in
/-- same, of rows that are the same. -/
theorem same_yes (v u : Value) (bss : List (List Int)) (w : World) (hv : IsBB w v bss) (hu : IsBB w u bss) (hl : bss.length ≤ 1099511627776) :
    Calls Try.prog 16 #[v, u] w fun e w' => e = .returned (.bool true) ∧ Below w.heap.size w w' := by
  have hov := hv.opened
  have hou := hu.opened
  obtain ⟨a, cap, rfl, hlc⟩ := hv.form
  obtain ⟨b, cap', rfl, hlc'⟩ := hu.form
  have HV := hide hv
  have HU := hide hu
  clear hv hu
  go_enter Try.func16, Try.ntmps16
  go_wp2
  go_loopw [5] (fun i wr => ∃ k : Nat, k ≤ bss.length ∧ i = .int .i64 k ∧ Hid (Below w.heap.size w wr)) (fun i _ => bss.length - (intOf i).toNat)
  case atStart => exact ⟨0, Nat.zero_le _, rfl, Below.refl _ _⟩
  case round =>
    obtain ⟨k, hk, rfl, HB⟩ := hrel
    by_cases hlt : k < bss.length
    · obtain ⟨b1, off1, cap1, he1, _, hc1⟩ := hov (by omega)
      simp only [Value.slice.injEq, true_and] at he1
      obtain ⟨rfl, rfl⟩ := he1
      obtain ⟨b2, off2, cap2, he2, _, hc2⟩ := hou (by omega)
      simp only [Value.slice.injEq, true_and] at he2
      obtain ⟨rfl, rfl⟩ := he2
      obtain ⟨ta, tc, hcell1, ht1⟩ := hc1 k hlt
      obtain ⟨ua, uc, hcell2, ht2⟩ := hc2 k hlt
      obtain ⟨t, hte⟩ : ∃ t, t = bss[k]?.getD [] := ⟨_, rfl⟩
      rw [← hte] at hcell1 hcell2 ht1 ht2
      obtain ⟨str, hstr⟩ : ∃ str, str = strOfNums t := ⟨_, rfl⟩
      have hbk : Below w.heap.size w wr.drew := HB.out.drew
      have x1 : wr.drew.cell? ⟨b1, off1 + k, none⟩ = some (.slice ta t.length tc) := (World.cell?_of_block (w := w) (hbk.block _ (World.block_lt_of_cell? w _ hcell1))).trans hcell1
      have x2 : wr.drew.cell? ⟨b2, off2 + k, none⟩ = some (.slice ua t.length uc) := (World.cell?_of_block (w := w) (hbk.block _ (World.block_lt_of_cell? w _ hcell2))).trans hcell2
      have x3 := conv_isB (ht1.below hbk)
      have x4 := conv_isB (ht2.below hbk)
      rw [← hstr] at x3 x4
      clear hc1 hc2 ht1 ht2 hte hstr hcell1 hcell2 hov hou hbk
      go_wp2
      go_region_held (fun w' => w'.cell? ⟨b1, off1 + k, none⟩ = some (.slice ta t.length tc) ∧ w'.cell? ⟨b2, off2 + k, none⟩ = some (.slice ua t.length uc) ∧ (convert 25 9 (.slice ta t.length tc)).run Try.prog w' = .ok (.string str) w' ∧ (convert 25 9 (.slice ua t.length uc)).run Try.prog w' = .ok (.string str) w') (exact ⟨by assumption, by assumption, by assumption, by assumption⟩) (fail)
      go_wp2
      go_roundw
      case rel => exact ⟨k + 1, by omega, by go_num, HB.out.drew⟩
      case measure => simp [intOf]; omega
    · go_wp2
      go_ret
      exact ⟨rfl, HB.out⟩

end Go.Proofs.Ytjnmggbkclnbkaa
