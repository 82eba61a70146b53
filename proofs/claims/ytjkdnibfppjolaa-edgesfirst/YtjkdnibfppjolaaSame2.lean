/-
  What edges.Same does. A lemma file: no statement of the seat is proved here.
-/
import Derived.Test.YtjkdnibfppjolaaSame
namespace Go.Proofs.Ytjkdnibfppjolaa
open Go.RowKit Go.Shelf

/-- Have two graphs the same N, and the same edges? -/
def sameB (n : Int) (es : List Ed) (m : Int) (fs : List Ed) : Bool := decide (n = m) && (decide (es.length = fs.length) && decide (sortE es = sortE fs))

set_option maxHeartbeats 2000000 in
theorem same_n (n m : Int) (v u : Value) (es fs : List Ed) (w : World) (hv : IsE w v es) (hu : IsE w u fs) (h : n ≠ m) :
    Calls Try.prog 20 #[.agg #[.int .i64 n, v], .agg #[.int .i64 m, u]] w fun e w' => e = .returned (.bool false) ∧ Below w.heap.size w w' := by
  obtain ⟨a, cap, rfl, _⟩ := hv.form
  obtain ⟨b, cbp, rfl, _⟩ := hu.form
  have hd : (n == m) = false := by simpa using h
  clear hv hu h
  go_enter Try.func20, Try.ntmps20
  go_wp2
  go_quiet (fail)
  go_wp2
  go_ret
  exact ⟨rfl, below_drewN' (((Below.refl _ w).alloc (Nat.le_refl _) _).alloc (by simp) _) _⟩

set_option maxHeartbeats 2000000 in
theorem same_len (n : Int) (v u : Value) (es fs : List Ed) (w : World) (hv : IsE w v es) (hu : IsE w u fs) (h : es.length ≠ fs.length) :
    Calls Try.prog 20 #[.agg #[.int .i64 n, v], .agg #[.int .i64 n, u]] w fun e w' => e = .returned (.bool false) ∧ Below w.heap.size w w' := by
  obtain ⟨a, cap, rfl, _⟩ := hv.form
  obtain ⟨b, cbp, rfl, _⟩ := hu.form
  have hd : ((es.length : Int) == (fs.length : Int)) = false := by simp; omega
  have hd2 : ¬ (es.length : Int) = (fs.length : Int) := by omega
  clear hv hu
  go_enter Try.func20, Try.ntmps20
  go_wp2
  go_quiet (fail)
  go_wp2
  go_ret
  exact ⟨rfl, below_drewN' (((Below.refl _ w).alloc (Nat.le_refl _) _).alloc (by simp) _) _⟩

set_option maxRecDepth 100000 in
set_option maxHeartbeats 4000000 in
theorem same_go (n : Int) (v u : Value) (es fs : List Ed) (w : World) (hv : IsE w v es) (hu : IsE w u fs) (h : es.length = fs.length) (hl : es.length ≤ 1048576) :
    Calls Try.prog 20 #[.agg #[.int .i64 n, v], .agg #[.int .i64 n, u]] w fun e w' => e = .returned (.bool (decide (sortE es = sortE fs))) ∧ Below w.heap.size w w' := by
  have SA := hide fun w hI => sorted_any v es w hI hl
  have SB := hide fun w hI => sorted_any u fs w hI (by omega)
  have HV := hide fun w' (hb : Below w.heap.size w w') => hv.below hb
  have HU := hide fun w' (hb : Below w.heap.size w w') => hu.below hb
  obtain ⟨a, cap, rfl, _⟩ := hv.form
  obtain ⟨b, cbp, rfl, _⟩ := hu.form
  have hd : ((es.length : Int) == (fs.length : Int)) = true := by simp; omega
  have hls := sortE_length es
  have hlf := sortE_length fs
  have EQ := hide fun g k w h1 h2 => equal_any g k (sortE es) (sortE fs) w h1 h2 (by omega) (by omega)
  rw [hls, hlf] at EQ
  generalize decide (sortE es = sortE fs) = r at EQ ⊢
  obtain ⟨xs, hxs⟩ : ∃ xs, xs = sortE es := ⟨_, rfl⟩
  obtain ⟨ys, hys⟩ : ∃ ys, ys = sortE fs := ⟨_, rfl⟩
  rw [← hxs] at SA EQ
  rw [← hys] at SB EQ
  have HL := hide h
  clear hv hu h hls hlf hxs hys
  have B0 : Below w.heap.size w ((w.alloc (.cells #[.int .i64 n, .slice a es.length cap] 24)).alloc (.cells #[.int .i64 n, .slice b fs.length cbp] 24)) := ((Below.refl _ w).alloc (Nat.le_refl _) _).alloc (by simp) _
  have f1 : ∀ w', Below ((w.alloc (.cells #[.int .i64 n, .slice a es.length cap] 24)).alloc (.cells #[.int .i64 n, .slice b fs.length cbp] 24)).heap.size ((w.alloc (.cells #[.int .i64 n, .slice a es.length cap] 24)).alloc (.cells #[.int .i64 n, .slice b fs.length cbp] 24)) w' →
      w'.cell? ⟨w.heap.size, 0, none⟩ = some (.int .i64 n) ∧ w'.cell? ⟨w.heap.size, 1, none⟩ = some (.slice a es.length cap) ∧ w'.cell? ⟨w.heap.size + 1, 0, none⟩ = some (.int .i64 n) ∧ w'.cell? ⟨w.heap.size + 1, 1, none⟩ = some (.slice b fs.length cbp) := fun w' hb =>
    ⟨(hb.cell (p := ⟨w.heap.size, 0, none⟩) (by simp; omega)).trans (by simp), (hb.cell (p := ⟨w.heap.size, 1, none⟩) (by simp; omega)).trans (by simp), (hb.cell (p := ⟨w.heap.size + 1, 0, none⟩) (by simp)).trans (by simp), (hb.cell (p := ⟨w.heap.size + 1, 1, none⟩) (by simp)).trans (by simp)⟩
  have F1 := hide f1
  have HB0 := hide B0
  clear f1 B0
  go_enter Try.func20, Try.ntmps20
  go_wp2
  go_region_held (fun w' => w'.cell? ⟨w.heap.size, 0, none⟩ = some (.int .i64 n) ∧ w'.cell? ⟨w.heap.size, 1, none⟩ = some (.slice a es.length cap) ∧ w'.cell? ⟨w.heap.size + 1, 0, none⟩ = some (.int .i64 n) ∧ w'.cell? ⟨w.heap.size + 1, 1, none⟩ = some (.slice b fs.length cbp)) (first | exact F1.out _ (Below.refl _ _).drew | exact F1.out _ b1' | exact F1.out _ b2' | exact F1.out _ b3') (first | (go_at_call_of 33 (Value.slice a es.length cap); refine (SA.out _ (HV.out _ HB0.out.drew)).mono ?_; rintro e w1 ⟨g1, rfl, i1, b1⟩; have b1' := below_undrew b1) | (go_at_call_of 33 (Value.slice b fs.length cbp); refine (SB.out _ (HU.out _ (below_then HB0.out b1'))).mono ?_; rintro e w2 ⟨g2, rfl, i2, b2⟩; have b2' := below_then b1' b2) | (go_at_call 32; refine (EQ.out _ _ _ (i1.below b2) i2).mono ?_; rintro e w3 ⟨rfl, b3⟩; have b3' := below_then b2' b3))
  all_goals go_wp2
  all_goals go_ret
  all_goals exact ⟨rfl, below_then HB0.out b3'⟩

/-- Same, of whatever graphs. -/
theorem same_any (n m : Int) (v u : Value) (es fs : List Ed) (w : World) (hv : IsE w v es) (hu : IsE w u fs) (hl : es.length ≤ 1048576) :
    Calls Try.prog 20 #[.agg #[.int .i64 n, v], .agg #[.int .i64 m, u]] w fun e w' => e = .returned (.bool (sameB n es m fs)) ∧ Below w.heap.size w w' := by
  by_cases h1 : n = m
  · subst h1
    by_cases h2 : es.length = fs.length
    · rw [show sameB n es n fs = decide (sortE es = sortE fs) by simp [sameB, h2]]
      exact same_go n v u es fs w hv hu h2 hl
    · rw [show sameB n es n fs = false by simp [sameB, h2]]
      exact same_len n v u es fs w hv hu h2
  · rw [show sameB n es m fs = false by simp [sameB, h1]]
    exact same_n n m v u es fs w hv hu h1

end Go.Proofs.Ytjkdnibfppjolaa
