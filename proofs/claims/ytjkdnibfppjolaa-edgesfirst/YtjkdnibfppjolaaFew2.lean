/-
  What few does. A lemma file: no statement of the seat is proved here.
-/
import Derived.Test.YtjkdnibfppjolaaFew
namespace Go.Proofs.Ytjkdnibfppjolaa
open Go.RowKit

theorem min40 (len : Nat) : ∃ m : Nat, m = min len 40 ∧ (∀ (ts : Array TypeId) (t : TypeId) (w : World), (Builtin.min_ ts t #[.int .i64 (len : Int), .int .i64 40]).run Try.prog w = .ok (.int .i64 (m : Int)) w) := by
  refine ⟨min len 40, rfl, fun ts t w => ?_⟩
  rw [run_min_int2]
  congr 2
  split <;> omega

/-- A store into a block of another kind. -/
theorem OwnV.other {B : Nat} {w : World} {v : Value} {es : List Ed} (h : OwnV B w v es) {k i t : Nat} {cs : Array Value} (u : Value) (hk : w.heap[k]? = some (.cells cs t (0, 0))) (ht : t ≠ 39) : OwnV B (w.setCell ⟨k, i, none⟩ u) v es := by
  refine ⟨ownsRow_setCell_other h.1 ?_ u, h.2⟩
  rcases h.1.2 with ⟨rfl, _⟩ | ⟨g, cap, cur, rfl, _, hh, _⟩
  · simp [Value.ownBlock]
  · intro e
    simp only [Value.ownBlock, Option.some.injEq] at e
    subst e
    rw [hk] at hh
    simp only [Option.some.injEq, Obj.cells.injEq] at hh
    exact ht hh.2.1

set_option maxRecDepth 100000 in
set_option maxHeartbeats 4000000 in
theorem few_any (n : Int) (v : Value) (es : List Ed) (w : World) (hv : IsE w v es) :
    Calls Try.prog 12 #[.agg #[.int .i64 n, v]] w fun e w' => ∃ a cap, e = .returned (.agg #[.int .i64 n, .slice (some a) (es.take 40).length cap]) ∧ OwnV w.heap.size w' (.slice (some a) (es.take 40).length cap) (es.take 40) ∧ Below w.heap.size w w' := by
  obtain ⟨m, hm, hmin⟩ := min40 es.length
  obtain ⟨a, cap, rfl, hcap⟩ := hv.form
  have hT := hv.take m (by omega)
  have htk : es.take m = es.take 40 := by
    rw [hm]
    by_cases h : es.length ≤ 40
    · rw [Nat.min_eq_left h, List.take_of_length_le (Nat.le_refl _), List.take_of_length_le h]
    · rw [Nat.min_eq_right (by omega)]
  rw [htk] at hT
  obtain ⟨fs, hfs⟩ : ∃ fs, fs = es.take 40 := ⟨_, rfl⟩
  have hfl : fs.length = m := by rw [hfs, List.length_take, hm, Nat.min_comm]
  rw [← hfs] at hT ⊢
  have hm0 : (0 : Int) ≤ (m : Int) := by omega
  have hmc : (m : Int) ≤ (cap : Int) := by omega
  have HT := hide hT
  have HFL := hide hfl
  have hm40 : m ≤ 40 := by omega
  have o2 := OwnV.empty ((w.alloc (.cells #[.int .i64 n, .slice a es.length cap] 24)).alloc (.cells #[.int .i64 0, .slice none 0 0] 24)) w.heap.size (by simp; omega)
  rw [World.size_alloc, World.size_alloc] at o2
  have O2 : Hid (OwnV w.heap.size (((w.alloc (.cells #[.int .i64 n, .slice a es.length cap] 24)).alloc (.cells #[.int .i64 0, .slice none 0 0] 24)).alloc (.cells #[] 39)).drew (.slice (some ⟨w.heap.size + 1 + 1, 0, none⟩) 0 0) []) := o2
  have b2 : Below w.heap.size w (((w.alloc (.cells #[.int .i64 n, .slice a es.length cap] 24)).alloc (.cells #[.int .i64 0, .slice none 0 0] 24)).alloc (.cells #[] 39)).drew := ((((Below.refl _ w).alloc (Nat.le_refl _) _).alloc (by simp) _).alloc (by simp; omega) _).drew
  have T2 := hide (hT.below b2)
  have B2 := hide b2
  have f2 : ∀ w3, (((w.alloc (.cells #[.int .i64 n, .slice a es.length cap] 24)).alloc (.cells #[.int .i64 0, .slice none 0 0] 24)).alloc (.cells #[] 39)).drew.grownBy w3 (some (w.heap.size + 1 + 1)) →
      w3.heap[w.heap.size]? = some (.cells #[.int .i64 n, .slice a es.length cap] 24 (0, 0)) ∧ w3.heap[w.heap.size + 1]? = some (.cells #[.int .i64 0, .slice none 0 0] 24 (0, 0)) := fun w3 hg => by
    have e1 := hg.block w.heap.size (by simp; omega) (by simp; omega)
    have e2 := hg.block (w.heap.size + 1) (by simp) (by simp)
    constructor
    · exact e1.trans ((Below.heap_alloc _ _ _ (by simp; omega)).trans ((Below.heap_alloc _ _ _ (by simp)).trans (heap_alloc_new w _)))
    · refine e2.trans ((Below.heap_alloc _ _ _ (by simp)).trans ?_)
      have := heap_alloc_new (w.alloc (.cells #[.int .i64 n, .slice a es.length cap] 24)) (.cells #[.int .i64 0, .slice none 0 0] 24)
      simpa using this
  have F2 := hide f2
  clear o2 b2 f2
  clear hm hv hT htk hfs hfl
  go_enter Try.func12, Try.ntmps12
  go_wp2
  go_region_held_law (fun w' => w'.cell? ⟨w.heap.size, 0, none⟩ = some (.int .i64 n) ∧ w'.cell? ⟨w.heap.size, 1, none⟩ = some (.slice a es.length cap)) (first | go_keep | exact k3) ((refine step_appendE _ ?_ (.tmp 5) (.tmp 12) ?_ w.heap.size (.slice (some ⟨w.heap.size + 1 + 1, 0, none⟩) 0 0) (.slice a m cap) [] fs ?_ ?_ ?_ ?_ ?_ ?_ ?_; rfl; rfl; rfl; exact O2.out; rfl; exact T2.out; (have := HFL.out; simp; omega); exact B2.out.size; intro a3 cap3 w3 o3 g3 n3; obtain ⟨e1, e2⟩ := F2.out w3 g3; obtain ⟨c0, c1, _⟩ := cells2 e1; obtain ⟨d0, d1, df⟩ := cells2 e2; have k3 := And.intro c0 c1; have E2 := hide e2; clear e1 e2))
  all_goals
    go_wp2
    obtain ⟨ad, rfl⟩ : ∃ ad, a3 = some ad := Option.ne_none_iff_exists'.1 (n3 (by simp [Value.ownBlock]))
    simp only [List.nil_append, List.length_nil, Nat.zero_add] at o3
    refine bodyPost_ret (v := .agg #[.int .i64 n, .slice (some ad) fs.length cap3]) (by simp [results, Try.results12, go_sem, d0, d1]) rfl ⟨ad, cap3, rfl, ?_, ?_⟩
    · exact (o3.other _ E2.out (by decide)).other _ (heap_setCell_same w3 (w.heap.size + 1) 0 _ _ _ E2.out) (by decide)
    · exact ((B2.out.grown g3 B2.out.size (by intro k hk; simp [Value.ownBlock] at hk; omega)).setCell (p := ⟨w.heap.size + 1, 0, none⟩) (by simp) _).setCell (p := ⟨w.heap.size + 1, 1, none⟩) (by simp) _

end Go.Proofs.Ytjkdnibfppjolaa
