/-
  Caches with keys of type string: with. A lemma file: no statement of the seat is proved here.
-/
import Derived.Test.YtokodmeabchmjaaLPutS
namespace Go.Proofs.Ytokodmeabchmjaa.S
open Go.RowKit Go.Maps

section
variable {w w' : World} {p bh bl : Nat} {fr : Int} {us : Nat}

set_option maxRecDepth 100000 in
set_option maxHeartbeats 4000000 in
theorem with_none {es : List (Fr Key)} (h : Cat w p bh bl fr us es) (k : Key) (hok : kS.ok k) (hno : ∀ e ∈ es, e.key ≠ k) (f : Value) :
    Calls Try.prog 35 #[.pointer (some ⟨p, 0, none⟩), kS.enc k, f] w fun x w' => x = .returned (.int .i64 4) ∧ Below w.heap.size w w' := by
  have FN := hide (fun W => findable_any k W)
  have HA := hide (fun W (b : Below w.heap.size w W) => (Cat.cellAt (CacheAt.below h b)).2.2.2.1)
  have HB := hide (fun W (b : Below w.heap.size w W) => Cat.last_none (CacheAt.below h b) k hok hno)
  clear h hok hno
  go_enter Try.func35, Try.ntmps35
  go_wp2_with (go_at_call 55; refine (FN.out _).mono ?_; rintro x w1 ⟨rfl, b1⟩; have c3 := HA.out _ b1; have LK := HB.out _ b1; have B1 := hide b1; clear b1)
  go_ret
  exact ⟨rfl, B1.out⟩

set_option maxRecDepth 100000 in
set_option maxHeartbeats 4000000 in
theorem with_some {es : List (Fr Key)} (h : Cat w p bh bl fr us es) {e : Fr Key} (he : e ∈ es) (g : Nat) (lb : Array Value) (eg : ∀ args w, (callFunc g args).run Try.prog w = .ok (.enter g args) w) (Q : Ending → World → Prop)
    (hg : ∀ w1, Below w.heap.size w w1 → Calls Try.prog g (#[.int .u64 e.use, .pointer (some ⟨e.blk, 0, none⟩)] ++ lb) w1 fun x w' => ∃ n : Int, x = .returned (.int .i64 n) ∧ Q x w') :
    Calls Try.prog 35 #[.pointer (some ⟨p, 0, none⟩), kS.enc e.key, .func (.func g) #[] lb] w Q := by
  have FN := hide (fun W => findable_any e.key W)
  have HA := hide (fun W (b : Below w.heap.size w W) => (Cat.cellAt (CacheAt.below h b)).2.2.2.1)
  have HC := hide (fun W (b : Below w.heap.size w W) => (Cat.cellAt (CacheAt.below h b)).2.2.1)
  have HB := hide (fun W (b : Below w.heap.size w W) => Cat.last_some (CacheAt.below h b) he)
  have HD := hide (fun W (b : Below w.heap.size w W) => Cat.held_at (CacheAt.below h b) he)
  have HG := hide hg
  clear h hg he
  obtain ⟨q, hq⟩ : ∃ q, q = e.blk := ⟨_, rfl⟩
  obtain ⟨ky, hky⟩ : ∃ ky, ky = e.key := ⟨_, rfl⟩
  obtain ⟨u, hu0⟩ : ∃ u, u = e.use := ⟨_, rfl⟩
  rw [← hq, ← hu0] at HD HG
  rw [← hky, ← hu0] at HB
  rw [← hky] at FN ⊢
  clear hq hky hu0
  go_enter Try.func35, Try.ntmps35
  go_wp2_with (go_at_call 55; refine (FN.out _).mono ?_; rintro x w1 ⟨rfl, b1⟩; have c3 := HA.out _ b1; have c2 := HC.out _ b1; have LK := HB.out _ b1; have LH := HD.out _ b1; have B1 := hide b1; clear b1)
  refine (HG.out _ B1.out).mono ?_
  rintro x w2 ⟨n, rfl, hq⟩
  have HQ := hide hq
  clear hq
  go_wp2_with fail
  exact HQ.out

end
end Go.Proofs.Ytokodmeabchmjaa.S
