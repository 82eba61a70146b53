/-
  What the statements' few does. A lemma file: no statement of the seat is proved here.
-/
import Derived.Test.YtjnmggbkclnbkaaBStep
namespace Go.Proofs.Ytjnmggbkclnbkaa
open Go.RowKit Go.Maps

def fewT (bss : List (List Int)) : List (List Int) := (bss.take 20).map (fun t => t.take 1010)

theorem few_dis {w : World} {la : Option Addr} {n lc : Nat} {w2 : World} {g cap : Nat} {ts : List Int} (hla : ∀ x ∈ own (.slice la n lc), x < w.heap.size) (o2 : OwnB w.drew.heap.size w2 g cap ts) :
    ts ≠ [] → ∀ x ∈ own (.slice (some ⟨g, 0, none⟩) ts.length cap), x ∉ own (.slice la n lc) := fun _ x hx hy => by
  simp [Value.ownBlock] at hx
  subst hx
  have h1 := hla _ hy
  have h2 := o2.base.1
  simp at h2
  omega

set_option maxRecDepth 100000 in
set_option maxHeartbeats 1000000 in
/-- few, of whatever row. -/
theorem few_any (v : Value) (bss : List (List Int)) (w : World) (hv : IsBB w v bss) (hl : bss.length ≤ 9223372036854775807) :
    Calls Try.prog 11 #[v] w fun e w' => ∃ v', e = .returned v' ∧ RowT w' v' (fewT bss) ∧ Below w.heap.size w w' ∧ ∀ x ∈ own v', w.heap.size ≤ x := by
  have hov := hv.opened
  obtain ⟨a, cap, rfl, hlc⟩ := hv.form
  have HV := hide hv
  clear hv
  go_enter Try.func11, Try.ntmps11
  go_wp2
  go_loopw [3, 4] (fun o i wr => ∃ (k : Nat) (acc : List (List Int)), k ≤ bss.length ∧ k ≤ 20 ∧ i = .int .i64 k ∧ acc.length = k ∧ Hid (acc = (bss.take k).map (fun t => t.take 1010)) ∧ Hid (RowT wr o acc) ∧ Hid (∀ x ∈ own o, w.heap.size ≤ x) ∧ Hid (Below w.heap.size w wr)) (fun _ i _ => 20 - (intOf i).toNat)
  case atStart => exact ⟨0, [], Nat.zero_le _, Nat.zero_le _, rfl, rfl, by simp [Hid], RowT.nil w, by simp [Hid, Value.ownBlock], Below.refl _ _⟩
  case round =>
    obtain ⟨k, acc, hk, hk20, rfl, hal, HE, HA, HF, HB⟩ := hrel
    obtain ⟨la, lc, rfl⟩ := HA.out.slice
    subst hal
    by_cases hlt : acc.length < bss.length
    · by_cases hlt2 : acc.length < 20
      · obtain ⟨b1, off1, cap1, he1, _, hc1⟩ := hov (by omega)
        simp only [Value.slice.injEq, true_and] at he1
        obtain ⟨rfl, rfl⟩ := he1
        obtain ⟨ta, tc, hcell1, ht1⟩ := hc1 acc.length hlt
        obtain ⟨t, hte⟩ : ∃ t, t = bss[acc.length]?.getD [] := ⟨_, rfl⟩
        rw [← hte] at hcell1 ht1
        have HT := hide ht1
        have HTE := hide hte
        have F1 : Hid (∀ w', Below w.heap.size w w' → w'.cell? ⟨b1, off1 + acc.length, none⟩ = some (.slice ta t.length tc)) := fun w' hb => (World.cell?_of_block (w := w) (hb.block _ (World.block_lt_of_cell? w _ hcell1))).trans hcell1
        have hm := min_len t.length 1010 1010 rfl
        obtain ⟨m, hmm⟩ : ∃ m, m = min t.length 1010 := ⟨_, rfl⟩
        rw [← hmm] at hm
        obtain ⟨_, _, he, htc, _⟩ := ht1
        simp only [Value.slice.injEq, true_and] at he
        obtain ⟨rfl, rfl⟩ := he
        have hmc : (m : Int) ≤ tc := by omega
        have hmt : m ≤ t.length := by omega
        have hm0 : (0 : Int) ≤ (m : Int) := by omega
        obtain ⟨ts, hts⟩ : ∃ ts, ts = t.take m := ⟨_, rfl⟩
        have htl : ts.length = m := by rw [hts, List.length_take]; omega
        have hte2 : ts = (bss[acc.length]?.getD []).take 1010 := by
          rw [hts, ← hte, hmm]
          by_cases h : t.length ≤ 1010
          · rw [Nat.min_eq_left h, List.take_of_length_le (Nat.le_refl _), List.take_of_length_le h]
          · rw [Nat.min_eq_right (by omega)]
        have HTS := hide hte2
        have HTT := hide fun w' (hb : Below w.heap.size w w') => ((HT.out.below hb).take m hmt)
        rw [← hts] at HTT
        subst htl
        have hml : ts.length ≤ 1010 := by omega
        have hsz := HB.out.size
        have hla := HA.out.lt
        have hsd : w.heap.size ≤ wr.drew.heap.size := by simpa using hsz
        clear hc1 hte hcell1 hov hmm hts hte2
        go_wp2
        go_region_held_law (fun w' => w'.cell? ⟨b1, off1 + acc.length, none⟩ = some (.slice ta t.length tc)) (first | exact F1.out _ HB.out.drew | exact F1.out _ (HB.out.drew.alloc hsd _) | exact F1.out _ B2.out | exact F1.out _ (B2.out.alloc B2.out.size _) | exact F1.out _ B3.out) (first
          | (refine step_copyB wr.drew ?_ (.tmp 16) (.tmp 27) ?_ ts (.slice ta ts.length tc) ?_ ?_ ?_ ?_ ?_; rfl; rfl; rfl; rfl; exact HTT.out _ HB.out.drew; omega; intro g2 cap2 w2 o2 b2; have B2 := hide (HB.out.drew.trans (b2.mono hsd)))
          | (refine step_pushT w2 ?_ (.tmp 15) (.tmp 29) ?_ (.slice la acc.length lc) (.slice (some ⟨g2, 0, none⟩) ts.length cap2) acc ts ?_ ?_ ?_ ?_ ?_ ?_ ?_; rfl; rfl; rfl; exact HA.out.below (undrew_below b2); rfl; exact o2.isB; exact few_dis hla o2; omega; intro v3 w3 r3 k3 n3; have B3 := hide (B2.out.trans (k3.below B2.out.size HF.out))))
        all_goals
          have hrel2 : ∃ (k : Nat) (acc' : List (List Int)), k ≤ bss.length ∧ k ≤ 20 ∧ Value.int .i64 ((acc.length : Int) + 1) = .int .i64 k ∧ acc'.length = k ∧ Hid (acc' = (bss.take k).map (fun t => t.take 1010)) ∧ Hid (RowT w3 v3 acc') ∧ Hid (∀ x ∈ own v3, w.heap.size ≤ x) ∧ Hid (Below w.heap.size w w3) := by
            refine ⟨acc.length + 1, acc ++ [ts], by omega, by omega, by simp, by simp, ?_, r3, fun x hx => ?_, B3.out⟩
            · show _ = _
              rw [take_snocL bss _ hlt, List.map_append, List.map_cons, List.map_nil, ← HTS.out, ← HE.out]
            · rcases n3 x hx with h | h
              · exact HF.out x h
              · have := B2.out.size
                omega
          try go_wp2
          exact ⟨hrel2, by simp [intOf]; omega⟩
      · have hE : acc = fewT bss := by
          rw [HE.out, fewT]
          congr 1
          have : acc.length = 20 := by omega
          rw [this]
        subst hE
        go_wp2
        go_ret
        exact ⟨_, rfl, HA.out, HB.out, HF.out⟩
    · have hE : acc = fewT bss := by
        have h1 : acc.length = bss.length := by omega
        have h2 := HE.out
        rw [h1] at h2
        rw [h2, fewT, List.take_of_length_le (Nat.le_refl _), List.take_of_length_le (by omega)]
      subst hE
      go_wp2
      go_ret
      exact ⟨_, rfl, HA.out, HB.out, HF.out⟩

end Go.Proofs.Ytjnmggbkclnbkaa
