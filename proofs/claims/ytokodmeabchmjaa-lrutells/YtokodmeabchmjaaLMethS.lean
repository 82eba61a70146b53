/-
  Caches with keys of type string: Pin, Unpin, Drop, Has. A lemma file: no statement of the seat is proved here.
-/
import Derived.Test.YtokodmeabchmjaaLClosS
import Derived.Shelf.Abstract
namespace Go.Proofs.Ytokodmeabchmjaa.S
open Go.RowKit Go.Maps

theorem Try.mf (fn : Fn) (first cap : Array Value) (w : World) : (Instr.makeFunc fn first cap).run Try.prog w = .ok (.func fn first cap) w := rfl

theorem ePin : ∀ args w, (callFunc 39 args).run Try.prog w = .ok (.enter 39 args) w := enters_of Try.func39 (by kernel_rfl) rfl
theorem eUnpin : ∀ args w, (callFunc 40 args).run Try.prog w = .ok (.enter 40 args) w := enters_of Try.func40 (by kernel_rfl) rfl
theorem eDrop : ∀ args w, (callFunc 41 args).run Try.prog w = .ok (.enter 41 args) w := enters_of Try.func41 (by kernel_rfl) rfl
theorem eHas : ∀ args w, (callFunc 44 args).run Try.prog w = .ok (.enter 44 args) w := enters_of Try.func44 (by kernel_rfl) rfl
theorem eUse : ∀ args w, (callFunc 32 args).run Try.prog w = .ok (.enter 32 args) w := enters_of Try.func32 (by kernel_rfl) rfl

section
variable {w w' : World} {fp : List Nat} {p : Nat} {fr : Int} {N : Nat} {l : List (Key × Nat)}

/-- A count written, behind what was laid. -/
theorem pinned_out {w1 : World} {bh bl us : Nat} {ds rs : List (Fr Key)} {e : Fr Key} (c : Cat w p bh bl fr us (ds ++ e :: rs)) (hN : us ≤ N) (hb : Below w.heap.size w w1) (n : Nat) :
    Outc kS w (w1.setCell ⟨e.blk, 1, none⟩ (.int .i64 n)) (feet p bh bl (ds ++ e :: rs)) p fr N (setA ((ds ++ e :: rs).map Fr.ab) e.key n) := by
  have c1 : Cat w1 p bh bl fr us (ds ++ e :: rs) := c.below hb
  have c2 := c1.pin n
  have hf : feet p bh bl (ds ++ { e with pins := n } :: rs) = feet p bh bl (ds ++ e :: rs) := by simp [feet]
  refine ⟨_, ⟨bh, bl, us, _, c2, hN, rfl, setA_ab c.keys n⟩, ?_, hf ▸ Newly.refl _ _⟩
  exact (Kept.of_below hb).setCell (p := ⟨e.blk, 1, none⟩) (.inl (by simp [feet])) _

set_option maxRecDepth 100000 in
set_option maxHeartbeats 4000000 in
theorem pin_any (h : Ck kS w fp p fr N l) (k : Key) (hok : kS.ok k) (hn : ∀ n, lookA l k = some n → n ≤ 1000000) :
    Calls Try.prog 15 #[.pointer (some ⟨p, 0, none⟩), kS.enc k] w fun x w' => x = .returned (.int .i64 (pinA l k).1) ∧ Outc kS w w' fp p fr N (pinA l k).2 := by
  have hmf := Try.mf
  have hcall : Calls Try.prog 35 #[.pointer (some ⟨p, 0, none⟩), kS.enc k, .func (.func 39) #[] #[]] w fun x w' => x = .returned (.int .i64 (pinA l k).1) ∧ Outc kS w w' fp p fr N (pinA l k).2 := by
    obtain ⟨bh, bl, us, es, c, hN, rfl, rfl⟩ := h
    unfold pinA
    cases hl : lookA (es.map Fr.ab) k with
    | none =>
      refine (with_none c k hok (lookA_none hl) _).mono ?_
      rintro x w' ⟨rfl, hb⟩
      exact ⟨rfl, Ck.same ⟨bh, bl, us, es, c, hN, rfl, rfl⟩ hb⟩
    | some n =>
      obtain ⟨ds, e, rs, rfl, rfl, rfl⟩ := lookA_some hl
      refine with_some c (e := e) (by simp) _ _ ePin _ fun w1 b1 => ?_
      obtain ⟨_, f1, f2⟩ := Cat.frameAt (CacheAt.below c b1) (e := e) (by simp)
      refine (pin1_any (.int .u64 e.use) e.blk e.pins (hn _ hl) f1 (f2 1)).mono ?_
      rintro x w2 ⟨rfl, rfl⟩
      exact ⟨0, rfl, rfl, pinned_out c hN b1 _⟩
  have HC := hide hcall
  clear hcall h hok hn
  generalize pinA l k = A at *
  obtain ⟨r, l'⟩ := A
  go_enter Try.func15, Try.ntmps15
  go_wp2_with (go_at_call 35; refine HC.out.mono ?_; rintro x w1 ⟨rfl, o1⟩; have O1 := hide o1; clear o1)
  go_ret
  exact ⟨rfl, O1.out⟩

set_option maxRecDepth 100000 in
set_option maxHeartbeats 4000000 in
theorem unpin_any (h : Ck kS w fp p fr N l) (k : Key) (hok : kS.ok k) (hn : ∀ n, lookA l k = some n → n ≤ 1000000) :
    Calls Try.prog 17 #[.pointer (some ⟨p, 0, none⟩), kS.enc k] w fun x w' => x = .returned (.int .i64 (unpinA l k).1) ∧ Outc kS w w' fp p fr N (unpinA l k).2 := by
  have hmf := Try.mf
  have hcall : Calls Try.prog 35 #[.pointer (some ⟨p, 0, none⟩), kS.enc k, .func (.func 40) #[] #[]] w fun x w' => x = .returned (.int .i64 (unpinA l k).1) ∧ Outc kS w w' fp p fr N (unpinA l k).2 := by
    obtain ⟨bh, bl, us, es, c, hN, rfl, rfl⟩ := h
    unfold unpinA
    cases hl : lookA (es.map Fr.ab) k with
    | none =>
      refine (with_none c k hok (lookA_none hl) _).mono ?_
      rintro x w' ⟨rfl, hb⟩
      exact ⟨rfl, Ck.same ⟨bh, bl, us, es, c, hN, rfl, rfl⟩ hb⟩
    | some n =>
      obtain ⟨ds, e, rs, rfl, rfl, rfl⟩ := lookA_some hl
      refine with_some c (e := e) (by simp) _ _ eUnpin _ fun w1 b1 => ?_
      obtain ⟨_, f1, f2⟩ := Cat.frameAt (CacheAt.below c b1) (e := e) (by simp)
      by_cases hz : e.pins = 0
      · rw [hz] at f1
        refine (unpin1_no (.int .u64 e.use) e.blk f1).mono ?_
        rintro x w2 ⟨rfl, rfl⟩
        refine ⟨9, rfl, ?_⟩
        simp only [hz, if_true]
        exact ⟨trivial, Ck.same ⟨bh, bl, us, _, c, hN, rfl, rfl⟩ b1⟩
      · have hp : e.pins - 1 + 1 = e.pins := by omega
        rw [← hp] at f1
        refine (unpin1_go (.int .u64 e.use) e.blk (e.pins - 1) (by have := hn _ hl; omega) f1 (f2 1)).mono ?_
        rintro x w2 ⟨rfl, rfl⟩
        refine ⟨0, rfl, ?_⟩
        simp only [hz, if_false]
        exact ⟨trivial, pinned_out c hN b1 _⟩
  have HC := hide hcall
  clear hcall h hok hn
  generalize unpinA l k = A at *
  obtain ⟨r, l'⟩ := A
  go_enter Try.func17, Try.ntmps17
  go_wp2_with (go_at_call 35; refine HC.out.mono ?_; rintro x w1 ⟨rfl, o1⟩; have O1 := hide o1; clear o1)
  go_ret
  exact ⟨rfl, O1.out⟩

set_option maxRecDepth 100000 in
set_option maxHeartbeats 4000000 in
theorem has_any (h : Ck kS w fp p fr N l) (k : Key) (hok : kS.ok k) :
    Calls Try.prog 23 #[.pointer (some ⟨p, 0, none⟩), kS.enc k] w fun x w' => x = .returned (.bool (lookA l k).isSome) ∧ Outc kS w w' fp p fr N l := by
  have hmf := Try.mf
  have hcall : Calls Try.prog 35 #[.pointer (some ⟨p, 0, none⟩), kS.enc k, .func (.func 44) #[] #[]] w fun x w' => x = .returned (.int .i64 (if (lookA l k).isSome then 0 else 4)) ∧ Outc kS w w' fp p fr N l := by
    obtain ⟨bh, bl, us, es, c, hN, rfl, rfl⟩ := h
    cases hl : lookA (es.map Fr.ab) k with
    | none =>
      refine (with_none c k hok (lookA_none hl) _).mono ?_
      rintro x w' ⟨rfl, hb⟩
      exact ⟨rfl, Ck.same ⟨bh, bl, us, es, c, hN, rfl, rfl⟩ hb⟩
    | some n =>
      obtain ⟨ds, e, rs, rfl, rfl, rfl⟩ := lookA_some hl
      refine with_some c (e := e) (by simp) _ _ eHas _ fun w1 b1 => ?_
      refine (has1_any (.int .u64 e.use) (.pointer (some ⟨e.blk, 0, none⟩)) w1).mono ?_
      rintro x w2 ⟨rfl, rfl⟩
      exact ⟨0, rfl, rfl, Ck.same ⟨bh, bl, us, _, c, hN, rfl, rfl⟩ b1⟩
  cases hl : lookA l k with
  | none =>
    rw [hl] at hcall
    have HC := hide hcall
    clear hcall h hok hl
    simp only [Option.isSome_none, Bool.false_eq_true, if_false] at HC ⊢
    go_enter Try.func23, Try.ntmps23
    go_wp2_with (go_at_call 35; refine HC.out.mono ?_; rintro x w1 ⟨rfl, o1⟩; have O1 := hide o1; clear o1)
    go_ret
    exact ⟨rfl, O1.out⟩
  | some n =>
    rw [hl] at hcall
    have HC := hide hcall
    clear hcall h hok hl
    simp only [Option.isSome_some, if_true] at HC ⊢
    go_enter Try.func23, Try.ntmps23
    go_wp2_with (go_at_call 35; refine HC.out.mono ?_; rintro x w1 ⟨rfl, o1⟩; have O1 := hide o1; clear o1)
    go_ret
    exact ⟨rfl, O1.out⟩

set_option maxRecDepth 100000 in
set_option maxHeartbeats 4000000 in
theorem drop_any (h : Ck kS w fp p fr N l) (k : Key) (hok : kS.ok k) :
    Calls Try.prog 19 #[.pointer (some ⟨p, 0, none⟩), kS.enc k] w fun x w' => x = .returned (.int .i64 (dropA l k).1) ∧ Outc kS w w' fp p fr N (dropA l k).2 := by
  have hmf := Try.mf
  have hcall : Calls Try.prog 35 #[.pointer (some ⟨p, 0, none⟩), kS.enc k, .func (.func 41) #[] #[.pointer (some ⟨w.heap.size, 0, none⟩)]] (w.alloc (.cells #[.pointer (some ⟨p, 0, none⟩)] 24)) fun x w' => x = .returned (.int .i64 (dropA l k).1) ∧ Outc kS w w' fp p fr N (dropA l k).2 := by
    obtain ⟨bh, bl, us, es, c, hN, rfl, rfl⟩ := h
    have b0 : Below w.heap.size w (w.alloc (.cells #[.pointer (some ⟨p, 0, none⟩)] 24)) := (Below.refl _ w).alloc (Nat.le_refl _) _
    have hc0 : (w.alloc (.cells #[.pointer (some ⟨p, 0, none⟩)] 24)).cell? ⟨w.heap.size, 0, none⟩ = some (.pointer (some ⟨p, 0, none⟩)) := cell_of_heap (heap_alloc_new w (.cells #[.pointer (some ⟨p, 0, none⟩)] 24)) 0
    have c0 : Cat (w.alloc (.cells #[.pointer (some ⟨p, 0, none⟩)] 24)) p bh bl fr us es := c.below b0
    have hs : w.heap.size ≤ (w.alloc (.cells #[.pointer (some ⟨p, 0, none⟩)] 24)).heap.size := b0.size
    generalize w.alloc (.cells #[.pointer (some ⟨p, 0, none⟩)] 24) = w0 at *
    unfold dropA
    cases hl : lookA (es.map Fr.ab) k with
    | none =>
      refine (with_none c0 k hok (lookA_none hl) _).mono ?_
      rintro x w' ⟨rfl, hb⟩
      exact ⟨rfl, Ck.same ⟨bh, bl, us, es, c, hN, rfl, rfl⟩ (below_then b0 hb)⟩
    | some n =>
      obtain ⟨ds, e, rs, rfl, rfl, rfl⟩ := lookA_some hl
      refine with_some c0 (e := e) (by simp) _ _ eDrop _ fun w1 b1 => ?_
      have c1 : Cat w1 p bh bl fr us (ds ++ e :: rs) := CacheAt.below c0 b1
      have hc1 := (Kept.of_below (fp := []) b1).cell hc0 (by simp)
      have b2 := below_then b0 b1
      obtain ⟨_, f1, _⟩ := Cat.frameAt c1 (e := e) (by simp)
      by_cases hz : e.pins = 0
      · refine (drop1_go c1 hz w.heap.size hc1).mono ?_
        rintro x w2 ⟨rfl, c2, k2⟩
        refine ⟨0, rfl, ?_⟩
        simp only [hz, if_true]
        refine ⟨trivial, _, ⟨bh, bl, us, _, c2, hN, rfl, delA_ab c.keys⟩, (Kept.of_below (fp := feet p bh bl (ds ++ e :: rs)) b2).trans k2 (Newly.of_sub (by simp [feet])), Newly.of_sub feet_sub⟩
      · have hp : e.pins - 1 + 1 = e.pins := by omega
        rw [← hp] at f1
        refine (drop1_no (.int .u64 e.use) (.pointer (some ⟨w.heap.size, 0, none⟩)) e.blk (e.pins - 1) f1).mono ?_
        rintro x w2 ⟨rfl, rfl⟩
        refine ⟨9, rfl, ?_⟩
        simp only [hz, if_false]
        exact ⟨trivial, Ck.same ⟨bh, bl, us, _, c, hN, rfl, rfl⟩ b2⟩
  have HC := hide hcall
  clear hcall h hok
  generalize dropA l k = A at *
  obtain ⟨r, l'⟩ := A
  go_enter Try.func19, Try.ntmps19
  go_wp2_with (go_at_call 35; refine HC.out.mono ?_; rintro x w1 ⟨rfl, o1⟩; have O1 := hide o1; clear o1)
  go_ret
  exact ⟨rfl, O1.out⟩

end
end Go.Proofs.Ytokodmeabchmjaa.S
