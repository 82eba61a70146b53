/-
  Caches with keys of type cartage/pool.place: what is done with a key. A lemma file: no statement of the seat is proved here.
-/
import Derived.Test.YtbhjdcoehgajcaaLFirstP
import Derived.Test.YtbhjdcoehgajcaaLAbs
namespace Go.Proofs.Ytbhjdcoehgajcaa.L.P
open Go.RowKit Go.Maps

section
variable {w w' : World} {p bh bl : Nat} {fr : Int} {us : Nat}

set_option maxRecDepth 100000 in
set_option maxHeartbeats 4000000 in
theorem use1_any {ds rs : List (Fr Key)} {e : Fr Key} (h : Cat w p bh bl fr us (ds ++ e :: rs)) (hfew : us + 1 ≤ 1000000) (B : Nat) (hc : w.cell? ⟨B, 0, none⟩ = some (.pointer (some ⟨p, 0, none⟩))) (hB : B ∉ feet p bh bl (ds ++ e :: rs)) (q : Value) :
    Calls Try.prog 85 #[.int .u64 e.use, q, .pointer (some ⟨B, 0, none⟩)] w fun x w' => x = .returned (.int .i64 0) ∧ Cat w' p bh bl fr (us + 1) (ds ++ rs ++ [⟨us + 1, e.blk, e.key, e.pins⟩]) ∧ Kept [p, bh, bl] w w' := by
  replace h : Cat w.drew p bh bl fr us (ds ++ e :: rs) := CacheAt.kept (fp := []) h (Kept.refl _ w).drew (by simp)
  have T := hide (take_any h)
  have hB2 := hB
  simp only [feet, List.mem_cons, not_or] at hB2
  have P := hide (fun W (k : Kept [bh, bl] w.drew W) (c : Cat W p bh bl fr us (ds ++ rs)) (hn : e.blk ∉ feet p bh bl (ds ++ rs)) => put_any c hfew e.blk e.key e.pins (k.heap (h.frames e (by simp)) (by have := h.ne.2.2.2 e (by simp); simp [this.2.1, this.2.2])) hn (fun x hx heq => by
    have hnd := h.keys
    rw [List.map_append, List.map_cons, List.nodup_append, List.nodup_cons] at hnd
    rcases List.mem_append.1 hx with hx | hx
    · exact hnd.2.2 _ (List.mem_map.2 ⟨x, hx, rfl⟩) _ (List.mem_cons_self ..) heq
    · exact hnd.2.1.1 (List.mem_map.2 ⟨x, hx, heq⟩)) (h.ok e (by simp)))
  have HB := hide hB2
  clear h hB hB2 hfew
  obtain ⟨u, hu⟩ : ∃ u, u = e.use := ⟨_, rfl⟩
  rw [← hu] at T ⊢
  obtain ⟨b, hb⟩ : ∃ b, b = e.blk := ⟨_, rfl⟩
  rw [← hb] at T P ⊢
  clear hu hb
  go_enter Try.func85, Try.ntmps85
  go_wp2
  go_region_held (fun W => W.cell? ⟨B, 0, none⟩ = some (.pointer (some ⟨p, 0, none⟩))) (go_keep) (first | (go_at_call 51; refine T.out.mono ?_; rintro x w1 ⟨rfl, c1, k1, n1⟩; have hc1 := k1.cell (w := w.drew) hc (by simp [HB.out.2.1, HB.out.2.2.1]); have PP := hide (P.out w1 k1 c1 n1); have K1 := hide k1; clear k1 c1 n1) | (go_at_call 86; refine PP.out.mono ?_; rintro x w2 ⟨rfl, c2, k2⟩; have hc2 := k2.cell hc1 (by simp [HB.out.1, HB.out.2.1, HB.out.2.2.1]); have C2 := hide c2; have K2 := hide k2; clear c2 k2))
  all_goals
  go_wp2
  go_ret
  exact ⟨rfl, C2.out, ((Kept.refl [p, bh, bl] w).drew.trans (K1.out.mono (fp' := [p, bh, bl]) (by simp)) (Newly.refl _ _)).trans K2.out (Newly.refl _ _)⟩

set_option maxRecDepth 100000 in
theorem drop1_no (u b : Value) (q n : Nat) (hc : w.cell? ⟨q, 2, none⟩ = some (.int .i64 (n + 1 : Nat))) : Calls Try.prog 50 #[u, .pointer (some ⟨q, 0, none⟩), b] w fun x w' => x = .returned (.int .i64 9) ∧ w' = w := by
  have hne : 0 < (((n + 1 : Nat) : Int)) := by omega
  generalize ((n + 1 : Nat) : Int) = M at *
  go_enter Try.func50, Try.ntmps50
  go_wp2
  go_ret
  exact ⟨rfl, rfl⟩

set_option maxRecDepth 100000 in
set_option maxHeartbeats 4000000 in
theorem drop1_go {ds rs : List (Fr Key)} {e : Fr Key} (h : Cat w p bh bl fr us (ds ++ e :: rs)) (hz : e.pins = 0) (B : Nat) (hc : w.cell? ⟨B, 0, none⟩ = some (.pointer (some ⟨p, 0, none⟩))) :
    Calls Try.prog 50 #[.int .u64 e.use, .pointer (some ⟨e.blk, 0, none⟩), .pointer (some ⟨B, 0, none⟩)] w fun x w' => x = .returned (.int .i64 0) ∧ Cat w' p bh bl fr us (ds ++ rs) ∧ Kept [bh, bl] w w' := by
  have T := hide (take_any h)
  have f1 := (h.frameAt (e := e) (by simp)).2.1
  rw [hz] at f1
  clear h hz
  obtain ⟨u, hu⟩ : ∃ u, u = e.use := ⟨_, rfl⟩
  rw [← hu] at T ⊢
  obtain ⟨b, hb⟩ : ∃ b, b = e.blk := ⟨_, rfl⟩
  rw [← hb] at T f1 ⊢
  clear hu hb
  go_enter Try.func50, Try.ntmps50
  go_wp2_with (go_at_call 51; refine T.out.mono ?_; rintro x w1 ⟨rfl, c1, k1, n1⟩; have C1 := hide c1; have K1 := hide k1; clear k1 c1 n1)
  go_ret
  exact ⟨rfl, C1.out, K1.out⟩

end
end Go.Proofs.Ytbhjdcoehgajcaa.L.P
