/-
  Caches with keys of type cartage/pool.place: Pin, Unpin, Drop, Has. A lemma file: no statement of the seat is proved here.
-/
import Derived.Test.YtbhjdcoehgajcaaLClosP
import Derived.Shelf.Abstract
namespace Go.Proofs.Ytbhjdcoehgajcaa.L.P
open Go.RowKit Go.Maps

theorem Try.mf (fn : Fn) (first cap : Array Value) (w : World) : (Instr.makeFunc fn first cap).run Try.prog w = .ok (.func fn first cap) w := rfl

theorem eDrop : ∀ args w, (callFunc 50 args).run Try.prog w = .ok (.enter 50 args) w := enters_of Try.func50 (by kernel_rfl) rfl
theorem eUse : ∀ args w, (callFunc 85 args).run Try.prog w = .ok (.enter 85 args) w := enters_of Try.func85 (by kernel_rfl) rfl

section
variable {w w' : World} {fp : List Nat} {p : Nat} {fr : Int} {N : Nat} {l : List (Key × Nat)}



set_option maxRecDepth 100000 in
set_option maxHeartbeats 4000000 in
theorem drop_any (h : Ck kP w fp p fr N l) (k : Key) (hok : kP.ok k) :
    Calls Try.prog 35 #[.pointer (some ⟨p, 0, none⟩), kP.enc k] w fun x w' => x = .returned (.int .i64 (dropA l k).1) ∧ Outc kP w w' fp p fr N (dropA l k).2 := by
  have hmf := Try.mf
  have hcall : Calls Try.prog 49 #[.pointer (some ⟨p, 0, none⟩), kP.enc k, .func (.func 50) #[] #[.pointer (some ⟨w.heap.size, 0, none⟩)]] (boxes w p k) fun x w' => x = .returned (.int .i64 (dropA l k).1) ∧ Outc kP w w' fp p fr N (dropA l k).2 := by
    obtain ⟨bh, bl, us, es, c, hN, rfl, rfl⟩ := h
    have b0 : Below w.heap.size w (boxes w p k) := (boxes_at w p k).2.2.2
    have hc0 := (boxes_at w p k).1
    have c0 : Cat (boxes w p k) p bh bl fr us es := c.below b0
    have hs : w.heap.size ≤ (boxes w p k).heap.size := b0.size
    generalize boxes w p k = w0 at *
    unfold dropA
    cases hl : lookA (es.map Fr.ab) k with
    | none =>
      refine (with_none c0 k hok (lookA_none hl) _).mono ?_
      rintro x w' ⟨rfl, hb⟩
      exact ⟨rfl, Ck.same ⟨bh, bl, us, es, c, hN, rfl, rfl⟩ (below_then b0 hb)⟩
    | some n =>
      obtain ⟨ds, e, rs, rfl, rfl, rfl⟩ := lookA_some hl
      refine with_some c0 (e := e) (by simp) _ _ eDrop _ fun w1 b1 => ?_
      have c1 : Cat w1 p bh bl fr us (ds ++ e :: rs) := CacheAt.below c0 b1
      have hc1 := (Kept.of_below (fp := []) b1).cell hc0 (by simp)
      have b2 := below_then b0 b1
      obtain ⟨_, f1, _⟩ := Cat.frameAt c1 (e := e) (by simp)
      by_cases hz : e.pins = 0
      · refine (drop1_go c1 hz w.heap.size hc1).mono ?_
        rintro x w2 ⟨rfl, c2, k2⟩
        refine ⟨0, rfl, ?_⟩
        simp only [hz, if_true]
        refine ⟨trivial, _, ⟨bh, bl, us, _, c2, hN, rfl, delA_ab c.keys⟩, (Kept.of_below (fp := feet p bh bl (ds ++ e :: rs)) b2).trans k2 (Newly.of_sub (by simp [feet])), Newly.of_sub feet_sub⟩
      · have hp : e.pins - 1 + 1 = e.pins := by omega
        rw [← hp] at f1
        refine (drop1_no (.int .u64 e.use) (.pointer (some ⟨w.heap.size, 0, none⟩)) e.blk (e.pins - 1) f1).mono ?_
        rintro x w2 ⟨rfl, rfl⟩
        refine ⟨9, rfl, ?_⟩
        simp only [hz, if_false]
        exact ⟨trivial, Ck.same ⟨bh, bl, us, _, c, hN, rfl, rfl⟩ b2⟩
  have HC := hide hcall
  clear hcall h hok
  generalize dropA l k = A at *
  obtain ⟨r, l'⟩ := A
  go_enter Try.func35, Try.ntmps35
  go_wp2_with (go_at_call 49; refine HC.out.mono ?_; rintro x w1 ⟨rfl, o1⟩; have O1 := hide o1; clear o1)
  go_ret
  exact ⟨rfl, O1.out⟩

end
end Go.Proofs.Ytbhjdcoehgajcaa.L.P
