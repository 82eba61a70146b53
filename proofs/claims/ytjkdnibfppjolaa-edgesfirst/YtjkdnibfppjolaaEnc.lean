/-
  What edges.Encode does. A lemma file: no statement of the seat is proved here.
-/
import Derived.Test.YtjkdnibfppjolaaOwn
namespace Go.Proofs.Ytjkdnibfppjolaa
open Go.RowKit

/-- The row that Encode's closure appends to: the box at block B holds a row of the call's own. -/
def PutSt (β B : Nat) (w : World) (bs : List Int) : Prop :=
  ∃ g cap, w.heap[B]? = some (.cells #[.slice (some ⟨g, 0, none⟩) bs.length cap] 27 (0, 0)) ∧ OwnB β w g cap bs ∧ β ≤ B

theorem OwnB.block {B : Nat} {w : World} {g cap : Nat} {bs : List Int} (h : OwnB B w g cap bs) : ∃ cur, w.heap[g]? = some (.cells cur 5 (0, 0)) := by
  obtain ⟨⟨h1, h2⟩, h3⟩ := h
  rcases h2 with ⟨h, _⟩ | ⟨g', cap', cur, he, hg, hh, r⟩
  · simp at h
  · have hg' : g' = g := by simp at he; omega
    subst hg'
    exact ⟨cur, hh⟩

theorem PutSt.lt {β B : Nat} {w : World} {bs : List Int} (h : PutSt β B w bs) : β ≤ B ∧ B < w.heap.size := by
  obtain ⟨g, cap, h1, h2, h3⟩ := h
  exact ⟨h3, (Array.getElem?_eq_some_iff.1 h1).1⟩

theorem PutSt.below {β B : Nat} {w w' : World} {bs : List Int} (h : PutSt β B w bs) (hb : Below w.heap.size w w') : PutSt β B w' bs := by
  have hlt := h.lt
  obtain ⟨g, cap, h1, h2, h3⟩ := h
  exact ⟨g, cap, (hb.block B hlt.2).trans h1, h2.below hb, h3⟩

theorem PutSt.alloc {β B : Nat} {w : World} {bs : List Int} (h : PutSt β B w bs) (o : Obj) : PutSt β B (w.alloc o) bs := h.below ((Below.refl _ w).alloc (Nat.le_refl _) o)

theorem heap_setCell_one (w : World) (B : Nat) (u v : Value) (t : TypeId) (h : w.heap[B]? = some (.cells #[u] t (0, 0))) : (w.setCell ⟨B, 0, none⟩ v).heap[B]? = some (.cells #[v] t (0, 0)) := by
  obtain ⟨hlt, he⟩ := Array.getElem?_eq_some_iff.1 h
  simp [World.setCell, hlt, Array.getElem_modify, he]

set_option maxHeartbeats 1000000 in
/-- 'put(x)'. -/
theorem put1_any (β B : Nat) (bs : List Int) (x : Int) (hx0 : 0 ≤ x) (hx1 : x < 4294967296) (w : World) (h : PutSt β B w bs) (hl : bs.length ≤ 70368744177664) :
    Calls Try.prog 22 #[.int .u32 x, .pointer (some ⟨B, 0, none⟩)] w fun e w' => e = .returned (.tuple #[]) ∧ PutSt β B w' (bs ++ putB 4 x) ∧ Below β w w' := by
  have hB := h.lt
  obtain ⟨g, cap, hh, ho, hβ⟩ := h
  have hc : w.cell? ⟨B, 0, none⟩ = some (.slice (some ⟨g, 0, none⟩) bs.length cap) := by simp [World.cell?, hh]
  have PX := hide fun w => put_mid (.slice none 0 0) [] 4 x w (IsB.nil w) (by simp) hx0 (by omega) (by omega)
  simp only [List.nil_append] at PX
  obtain ⟨ps, hps⟩ : ∃ ps, ps = putB 4 x := ⟨_, rfl⟩
  have hpl : ps.length = 4 := by rw [hps, putB_length]
  rw [← hps] at PX ⊢
  have HPL := hide hpl
  clear hps hpl
  have hwr : IntKind.u64.wrap x = x := by rw [IntKind.wrap_u64]; omega
  have HO := hide ho
  have hbase := ho.base
  have hgB : Hid (B ≠ g) := by
    rintro rfl
    obtain ⟨cur, hcur⟩ := HO.out.block
    rw [hh] at hcur
    simp at hcur
  have HH := hide hh
  have HB := hide hB
  clear ho hh hB
  go_enter Try.func22, Try.ntmps22
  go_wp2
  go_region_law (first | (go_simp; go_at_call 23; refine (PX.out _).mono ?_; rintro e w1 ⟨g1, cap1, rfl, o1, b1⟩; have b1' := below_undrew b1; have hh1 := hide ((b1'.block B HB.out.2).trans HH.out); have hc1 := (b1'.cell (p := ⟨B, 0, none⟩) HB.out.2).trans hc) | (refine step_appendO _ ?_ (.tmp 3) (.tmp 6) ?_ β g cap bs ps (.slice (some ⟨g1, 0, none⟩) ps.length cap1) ?_ ?_ ?_ ?_ ?_ ?_ ?_; rfl; rfl; rfl; exact HO.out.below b1'; rfl; exact o1.isB; (have := HPL.out; omega); (have := b1'.size; omega); intro g2 cap2 w2 o2 b2 k2; have hh2 := (k2 B (Nat.lt_of_lt_of_le HB.out.2 b1'.size) hgB.out).trans hh1.out; have hc2 : w2.cell? ⟨B, 0, none⟩ = some (.slice (some ⟨g, 0, none⟩) bs.length cap) := (by simp [World.cell?, hh2]); have hf2 : w2.frozen? ⟨B, 0, none⟩ = false := (by simp [World.frozen?, hh2]); have HH2 := hide hh2; clear hh2))
  all_goals
    go_wp2
    go_end0
    have e := heap_setCell_one w2 B _ (.slice (some ⟨g2, 0, none⟩) (bs.length + ps.length) cap2) _ HH2.out
    refine ⟨rfl, ⟨g2, cap2, by rw [List.length_append]; exact e, ?_, hβ⟩, ?_⟩
    · have hne : B ≠ g2 := by
        rintro rfl
        obtain ⟨cur, hcur⟩ := o2.block
        rw [HH2.out] at hcur
        simp at hcur
      exact ⟨ownsRow_setCell_other o2.1 (by simp [Value.ownBlock]; omega) _, o2.2⟩
    · exact (((b1'.mono (by omega)).trans b2).setCell (p := ⟨B, 0, none⟩) hβ _)

/-- The bytes of the edges. -/
def edgeB (x : Ed) : List Int := putB 4 x.1 ++ (putB 4 x.2.1 ++ putB 4 x.2.2)
def edgesB (es : List Ed) : List Int := es.flatMap edgeB
/-- The bytes of a graph. -/
def graphB (n : Int) (es : List Ed) : List Int := putB 4 n ++ edgesB es

theorem edgeB_length (x : Ed) : (edgeB x).length = 12 := by simp [edgeB, putB_length]
theorem edgesB_length (es : List Ed) : (edgesB es).length = 12 * es.length := by
  induction es with
  | nil => rfl
  | cons x es ih => rw [edgesB, List.flatMap_cons, List.length_append, edgeB_length]; rw [edgesB] at ih; rw [ih]; simp; omega
theorem graphB_length (n : Int) (es : List Ed) : (graphB n es).length = 4 + 12 * es.length := by simp [graphB, putB_length, edgesB_length]
theorem edgesB_append (es fs : List Ed) : edgesB (es ++ fs) = edgesB es ++ edgesB fs := by simp [edgesB]
theorem edgesB_take (es : List Ed) (k : Nat) (h : k < es.length) : edgesB (es.take (k + 1)) = edgesB (es.take k) ++ edgeB es[k]! := by
  rw [List.take_succ_eq_append_getElem h, edgesB_append, getElem!_pos es k h]
  simp [edgesB]
theorem edgeB_bytes (x : Ed) : ∀ z ∈ edgeB x, 0 ≤ z ∧ z ≤ 255 := by
  intro z hz
  simp only [edgeB, List.mem_append] at hz
  rcases hz with hz | hz | hz
  · exact putB_bytes _ _ z hz
  · exact putB_bytes _ _ z hz
  · exact putB_bytes _ _ z hz
theorem graphB_bytes (n : Int) (es : List Ed) : ∀ z ∈ graphB n es, 0 ≤ z ∧ z ≤ 255 := by
  intro z hz
  simp only [graphB, edgesB, List.mem_append, List.mem_flatMap] at hz
  rcases hz with hz | ⟨x, _, hz⟩
  · exact putB_bytes _ _ z hz
  · exact edgeB_bytes x z hz

set_option maxHeartbeats 1000000 in
theorem encode_no (n : Int) (h1 : n < 9223372036854775808) (v : Value) (es : List Ed) (w : World) (hv : IsE w v es) (hl : es.length ≤ 140737488355328) (hr : rightB n es = false) :
    Calls Try.prog 13 #[.agg #[.int .i64 n, v]] w fun e w' => e = .returned (.tuple #[.slice none 0 0, .int .i64 1]) ∧ Below w.heap.size w w' := by
  have hR := right_any n h1 v es _ (hv.below ((Below.refl _ w).alloc (Nat.le_refl _) (.cells #[.int .i64 n, v] 24))) hl
  rw [hr] at hR
  obtain ⟨a, cap, rfl, _⟩ := hv.form
  have HR := hide hR
  clear hR
  go_enter Try.func13, Try.ntmps13
  go_wp2_with (go_at_call 15; refine HR.out.mono ?_; rintro e w' ⟨rfl, b1⟩)
  go_ret2
  exact ⟨rfl, below_after (Below.refl _ w) b1⟩

end Go.Proofs.Ytjkdnibfppjolaa
