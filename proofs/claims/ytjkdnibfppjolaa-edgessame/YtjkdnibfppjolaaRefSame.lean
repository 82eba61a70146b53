/-
  What the reference's Same does. A lemma file: no statement of the seat is proved here.
-/
import Derived.Test.YtjkdnibfppjolaaRefSort2
namespace Go.Proofs.Ytjkdnibfppjolaa
open Go.RowKit
open Go.Sort (SWO)

theorem sortE_perm (es : List Ed) : (sortE es).Perm es := List.mergeSort_perm _ _
theorem sortE_iff (es fs : List Ed) : sortE es = sortE fs ↔ es.Perm fs := by
  constructor
  · intro h
    exact (sortE_perm es).symm.trans (h ▸ sortE_perm fs)
  · intro h
    have tr : ∀ a b c : Ed, (!(ltOf cmpE) b a) = true → (!(ltOf cmpE) c b) = true → (!(ltOf cmpE) c a) = true := fun a b c h1 h2 => by
      simp only [Bool.not_eq_true'] at *
      exact swoE.ntrans c b a h2 h1
    have to : ∀ a b : Ed, ((!(ltOf cmpE) b a) || (!(ltOf cmpE) a b)) = true := fun a b => by
      rw [ltE, ltE]
      simp only [Bool.or_eq_true, Bool.not_eq_true', decide_eq_false_iff_not]
      omega
    refine List.Perm.eq_of_pairwise (le := fun x y => (!(ltOf cmpE) y x) = true) (fun a b _ _ h1 h2 => ?_) (List.pairwise_mergeSort tr to es) (List.pairwise_mergeSort tr to fs) ((sortE_perm es).trans (h.trans (sortE_perm fs).symm))
    simp only [Bool.not_eq_true'] at h1 h2
    exact totE a b h2 h1

theorem sameB_iff (n m : Int) (es fs : List Ed) : sameB n es m fs = true ↔ n = m ∧ es.Perm fs := by
  simp only [sameB, Bool.and_eq_true, decide_eq_true_eq, sortE_iff]
  exact ⟨fun h => ⟨h.1, h.2.2⟩, fun h => ⟨h.1, h.2.length_eq, h.2⟩⟩

theorem sorts_same (n : Int) (es fs a b : List Ed) (ha : a.Perm es) (hb : b.Perm fs) (oa : Ord a) (ob : Ord b) : decide (a = b) = sameB n es n fs := by
  rw [Bool.eq_iff_iff, decide_eq_true_eq, sameB_iff]
  constructor
  · intro h
    exact ⟨rfl, ha.symm.trans (h ▸ hb)⟩
  · intro h
    exact ord_unique oa ob (ha.trans (h.2.trans hb.symm))

set_option maxHeartbeats 2000000 in
theorem rsame_n (n m : Int) (v u : Value) (es fs : List Ed) (w : World) (hv : IsE w v es) (hu : IsE w u fs) (h : n ≠ m) :
    Calls Try.prog 21 #[.agg #[.int .i64 n, v], .agg #[.int .i64 m, u]] w fun e w' => e = .returned (.bool false) ∧ Below w.heap.size w w' := by
  obtain ⟨a, cap, rfl, _⟩ := hv.form
  obtain ⟨b, cbp, rfl, _⟩ := hu.form
  have hd : (n == m) = false := by simpa using h
  clear hv hu h
  go_enter Try.func21, Try.ntmps21
  go_wp2
  go_quiet (fail)
  go_wp2
  go_ret
  exact ⟨rfl, Go.Proofs.below_drewN' (((Below.refl _ w).alloc (Nat.le_refl _) _).alloc (by simp) _) _⟩

set_option maxRecDepth 100000 in
set_option maxHeartbeats 4000000 in
theorem rsame_go (n : Int) (v u : Value) (es fs : List Ed) (w : World) (hv : IsE w v es) (hu : IsE w u fs) (hl : es.length ≤ 1048576) (hl2 : fs.length ≤ 1048576) :
    Calls Try.prog 21 #[.agg #[.int .i64 n, v], .agg #[.int .i64 n, u]] w fun e w' => e = .returned (.bool (sameB n es n fs)) ∧ Below w.heap.size w w' := by
  have SA := hide fun w hI => rsort_any v es w hI hl
  have SB := hide fun w hI => rsort_any u fs w hI hl2
  have HV := hide fun w' (hb : Below w.heap.size w w') => hv.below hb
  have HU := hide fun w' (hb : Below w.heap.size w w') => hu.below hb
  obtain ⟨a, cap, rfl, _⟩ := hv.form
  obtain ⟨b, cbp, rfl, _⟩ := hu.form
  have SS := hide fun a b => sorts_same n es fs a b
  generalize sameB n es n fs = r at SS ⊢
  clear hv hu
  have B0 : Below w.heap.size w ((w.alloc (.cells #[.int .i64 n, .slice a es.length cap] 24)).alloc (.cells #[.int .i64 n, .slice b fs.length cbp] 24)) := ((Below.refl _ w).alloc (Nat.le_refl _) _).alloc (by simp) _
  have f1 : ∀ w', Below ((w.alloc (.cells #[.int .i64 n, .slice a es.length cap] 24)).alloc (.cells #[.int .i64 n, .slice b fs.length cbp] 24)).heap.size ((w.alloc (.cells #[.int .i64 n, .slice a es.length cap] 24)).alloc (.cells #[.int .i64 n, .slice b fs.length cbp] 24)) w' →
      w'.cell? ⟨w.heap.size, 0, none⟩ = some (.int .i64 n) ∧ w'.cell? ⟨w.heap.size, 1, none⟩ = some (.slice a es.length cap) ∧ w'.cell? ⟨w.heap.size + 1, 0, none⟩ = some (.int .i64 n) ∧ w'.cell? ⟨w.heap.size + 1, 1, none⟩ = some (.slice b fs.length cbp) := fun w' hb =>
    ⟨(hb.cell (p := ⟨w.heap.size, 0, none⟩) (by simp; omega)).trans (by simp), (hb.cell (p := ⟨w.heap.size, 1, none⟩) (by simp; omega)).trans (by simp), (hb.cell (p := ⟨w.heap.size + 1, 0, none⟩) (by simp)).trans (by simp), (hb.cell (p := ⟨w.heap.size + 1, 1, none⟩) (by simp)).trans (by simp)⟩
  have F1 := hide f1
  have HB0 := hide B0
  clear f1 B0
  go_enter Try.func21, Try.ntmps21
  go_wp2
  go_region_held (fun w' => w'.cell? ⟨w.heap.size, 0, none⟩ = some (.int .i64 n) ∧ w'.cell? ⟨w.heap.size, 1, none⟩ = some (.slice a es.length cap) ∧ w'.cell? ⟨w.heap.size + 1, 0, none⟩ = some (.int .i64 n) ∧ w'.cell? ⟨w.heap.size + 1, 1, none⟩ = some (.slice b fs.length cbp)) (first | exact F1.out _ (Below.refl _ _).drew | exact F1.out _ b1' | exact F1.out _ b2' | exact F1.out _ b3') (first | (go_at_call_of 34 (Value.slice a es.length cap); refine (SA.out _ (HV.out _ HB0.out.drew)).mono ?_; rintro e w1 ⟨g1, cp1, R1, rfl, i1, p1, o1, b1⟩; have b1' := below_undrew b1) | (go_at_call_of 34 (Value.slice b fs.length cbp); refine (SB.out _ (HU.out _ (below_then HB0.out b1'))).mono ?_; rintro e w2 ⟨g2, cp2, R2, rfl, i2, p2, o2, b2⟩; have b2' := below_then b1' b2; have hs := SS.out R1 R2 p1 p2 o1 o2; have hr := (by rw [p1.length_eq]; omega : R1.length ≤ 1048576000)) | (go_at_call 16; have hA := alike_any _ _ R1 R2 _ (i1.below b2) i2 hr; rw [hs] at hA; refine hA.mono ?_; clear hA; rintro e w3 ⟨rfl, b3⟩; have b3' := below_then b2' b3))
  all_goals go_wp2
  all_goals go_ret
  all_goals exact ⟨rfl, below_then HB0.out b3'⟩

theorem rsame_any (n m : Int) (v u : Value) (es fs : List Ed) (w : World) (hv : IsE w v es) (hu : IsE w u fs) (hl : es.length ≤ 1048576) (hl2 : fs.length ≤ 1048576) :
    Calls Try.prog 21 #[.agg #[.int .i64 n, v], .agg #[.int .i64 m, u]] w fun e w' => e = .returned (.bool (sameB n es m fs)) ∧ Below w.heap.size w w' := by
  by_cases h1 : n = m
  · subst h1
    exact rsame_go n v u es fs w hv hu hl hl2
  · rw [show sameB n es m fs = false by simp [sameB, h1]]
    exact rsame_n n m v u es fs w hv hu h1

end Go.Proofs.Ytjkdnibfppjolaa
