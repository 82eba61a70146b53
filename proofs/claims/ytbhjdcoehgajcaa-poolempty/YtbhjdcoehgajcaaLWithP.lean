/-
  Caches with keys of type cartage/pool.place: with. A lemma file: no statement of the seat is proved here.
-/
import Derived.Test.YtbhjdcoehgajcaaLPutP
namespace Go.Proofs.Ytbhjdcoehgajcaa.L.P
open Go.RowKit Go.Maps

section
variable {w w' : World} {p bh bl : Nat} {fr : Int} {us : Nat}

set_option maxRecDepth 100000 in
set_option maxHeartbeats 4000000 in
theorem with_none {es : List (Fr Key)} (h : Cat w p bh bl fr us es) (k : Key) (hok : kP.ok k) (hno : ∀ e ∈ es, e.key ≠ k) (f : Value) :
    Calls Try.prog 49 #[.pointer (some ⟨p, 0, none⟩), kP.enc k, f] w fun x w' => x = .returned (.int .i64 4) ∧ Below w.heap.size w w' := by
  have FN := hide (fun W => findable_any k W)
  have HA := hide (fun W (b : Below w.heap.size w W) => (Cat.cellAt (CacheAt.below h b)).2.2.2.1)
  have HB := hide (fun W (b : Below w.heap.size w W) => Cat.last_none (CacheAt.below h b) k hok hno)
  clear h hok hno
  go_enter Try.func49, Try.ntmps49
  go_wp2_with (go_at_call 64; refine (FN.out _).mono ?_; rintro x w1 ⟨rfl, b0⟩; have bx : w1.drew.cell? ⟨w.heap.size, 0, none⟩ = some (.string k.1.1) := (Kept.of_below (fp := []) b0).cell (box2 w (.string k.1.1) (.int .i64 k.1.2) 54).1 (by simp); have bz : w1.drew.cell? ⟨w.heap.size, 1, none⟩ = some (.int .i64 k.1.2) := (Kept.of_below (fp := []) b0).cell (box2 w (.string k.1.1) (.int .i64 k.1.2) 54).2 (by simp); have b1 := (below_then ((Below.refl _ w).alloc (Nat.le_refl _) (.cells #[.string k.1.1, .int .i64 k.1.2] 54)) b0).drew; clear b0; have c3 := HA.out _ b1; have LK := HB.out _ b1; have B1 := hide b1; clear b1)
  go_region_held (fun W => W.cell? ⟨p, 3, none⟩ = some (.map (some bl)) ∧ W.cell? ⟨w.heap.size, 0, none⟩ = some (.string k.1.1) ∧ W.cell? ⟨w.heap.size, 1, none⟩ = some (.int .i64 k.1.2)) (go_keep) (fail)
  all_goals
  go_wp2_with fail
  go_ret
  exact ⟨rfl, B1.out⟩

set_option maxRecDepth 100000 in
set_option maxHeartbeats 4000000 in
theorem with_some {es : List (Fr Key)} (h : Cat w p bh bl fr us es) {e : Fr Key} (he : e ∈ es) (g : Nat) (lb : Array Value) (eg : ∀ args w, (callFunc g args).run Try.prog w = .ok (.enter g args) w) (Q : Ending → World → Prop)
    (hg : ∀ w1, Below w.heap.size w w1 → Calls Try.prog g (#[.int .u64 e.use, .pointer (some ⟨e.blk, 0, none⟩)] ++ lb) w1 fun x w' => ∃ n : Int, x = .returned (.int .i64 n) ∧ Q x w') :
    Calls Try.prog 49 #[.pointer (some ⟨p, 0, none⟩), kP.enc e.key, .func (.func g) #[] lb] w Q := by
  have FN := hide (fun W => findable_any e.key W)
  have HA := hide (fun W (b : Below w.heap.size w W) => (Cat.cellAt (CacheAt.below h b)).2.2.2.1)
  have HC := hide (fun W (b : Below w.heap.size w W) => (Cat.cellAt (CacheAt.below h b)).2.2.1)
  have HB := hide (fun W (b : Below w.heap.size w W) => Cat.last_some (CacheAt.below h b) he)
  have HD := hide (fun W (b : Below w.heap.size w W) => Cat.held_at (CacheAt.below h b) he)
  have HG := hide hg
  clear h hg he
  obtain ⟨q, hq⟩ : ∃ q, q = e.blk := ⟨_, rfl⟩
  obtain ⟨ky, hky⟩ : ∃ ky, ky = e.key := ⟨_, rfl⟩
  obtain ⟨u, hu0⟩ : ∃ u, u = e.use := ⟨_, rfl⟩
  rw [← hq, ← hu0] at HD HG
  rw [← hky, ← hu0] at HB
  rw [← hky] at FN ⊢
  clear hq hky hu0
  go_enter Try.func49, Try.ntmps49
  go_wp2_with (go_at_call 64; refine (FN.out _).mono ?_; rintro x w1 ⟨rfl, b0⟩; have bx : w1.drew.cell? ⟨w.heap.size, 0, none⟩ = some (.string ky.1.1) := (Kept.of_below (fp := []) b0).cell (box2 w (.string ky.1.1) (.int .i64 ky.1.2) 54).1 (by simp); have bz : w1.drew.cell? ⟨w.heap.size, 1, none⟩ = some (.int .i64 ky.1.2) := (Kept.of_below (fp := []) b0).cell (box2 w (.string ky.1.1) (.int .i64 ky.1.2) 54).2 (by simp); have b1 := (below_then ((Below.refl _ w).alloc (Nat.le_refl _) (.cells #[.string ky.1.1, .int .i64 ky.1.2] 54)) b0).drew; clear b0; have c3 := HA.out _ b1; have c2 := HC.out _ b1; have LK := HB.out _ b1; have LH := HD.out _ b1; have B1 := hide b1; clear b1)
  go_region_held (fun W => W.cell? ⟨p, 3, none⟩ = some (.map (some bl)) ∧ W.cell? ⟨w.heap.size, 0, none⟩ = some (.string ky.1.1) ∧ W.cell? ⟨w.heap.size, 1, none⟩ = some (.int .i64 ky.1.2)) (go_keep) (fail)
  all_goals
  go_wp2_with fail
  refine (HG.out _ B1.out).mono ?_
  rintro x w2 ⟨n, rfl, hq⟩
  have HQ := hide hq
  clear hq
  go_wp2_with fail
  exact HQ.out

end
end Go.Proofs.Ytbhjdcoehgajcaa.L.P
