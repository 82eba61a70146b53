/-
  What edges.numberAt, edges.numbersAt and edges.Decode do. A lemma file: no statement of the seat is proved here.
-/
import Derived.Test.YtjkdnibfppjolaaOwnE
namespace Go.Proofs.Ytjkdnibfppjolaa
open Go.RowKit

/-- The number of four bytes at a place. -/
def numAt (bs : List Int) (p : Nat) : Int := valB 256 ((bs.drop p).take 4)

theorem numAt_range (bs : List Int) (p : Nat) (h : ∀ z ∈ bs, 0 ≤ z ∧ z ≤ 255) : 0 ≤ numAt bs p ∧ numAt bs p < 4294967296 := by
  have hm : ∀ z ∈ (bs.drop p).take 4, 0 ≤ z ∧ z < 256 := fun z hz => by have := h z (List.mem_of_mem_drop (List.mem_of_mem_take hz)); omega
  refine ⟨valB_nonneg 256 (by omega) _ (fun z hz => (hm z hz).1), ?_⟩
  have h1 := valB_lt 256 (by omega) _ hm
  have h2 : ((bs.drop p).take 4).length ≤ 4 := List.length_take_le _ _
  have h3 : (256 : Int) ^ ((bs.drop p).take 4).length ≤ 256 ^ 4 := by
    have e : ∀ k : Nat, ((256 : Int)) ^ k = ((256 ^ k : Nat) : Int) := fun k => by rw [Int.natCast_pow]; rfl
    rw [e, e]
    have := Nat.pow_le_pow_right (show 0 < 256 by omega) h2
    omega
  unfold numAt
  omega

set_option maxHeartbeats 400000 in
theorem numberAt_any (v : Value) (bs : List Int) (p : Nat) (w : World) (hb : IsB w v bs) (hl : bs.length ≤ 140737488355328) (hp : p + 4 ≤ bs.length) :
    Calls Try.prog 29 #[v, .int .i64 p] w fun e w' => e = .returned (.int .u32 (numAt bs p)) ∧ Below w.heap.size w w' := by
  have hG := get_yes v bs p 4 w hb hl (by omega) (by omega) hp
  have hr := numAt_range bs p hb.bytes
  change Calls _ _ _ _ (fun e w' => e = .returned (.tuple #[.int .u64 (numAt bs p), .bool true]) ∧ _) at hG
  generalize numAt bs p = x at hG hr ⊢
  obtain ⟨hr0, hr1⟩ := hr
  have hw : IntKind.u32.wrap x = x := by rw [IntKind.wrap_u32]; omega
  obtain ⟨a, cap, rfl, _⟩ := hb.form
  have HG := hide hG
  clear hG hb
  go_enter Try.func29, Try.ntmps29
  go_wp2_with (go_at_call 39; refine HG.out.mono ?_; rintro e w' ⟨rfl, b1⟩)
  go_ret
  exact ⟨rfl, b1⟩

/-- The edge at a place. -/
def edAt (bs : List Int) (p : Nat) : Ed := (numAt bs p, numAt bs (p + 4), numAt bs (p + 8))

theorem edAt_ok (bs : List Int) (p : Nat) (h : ∀ z ∈ bs, 0 ≤ z ∧ z ≤ 255) : okE (edAt bs p) := ⟨numAt_range bs p h, numAt_range bs (p + 4) h, numAt_range bs (p + 8) h⟩

theorem cells3 {w : World} {B t : Nat} {a b c : Value} (h : w.heap[B]? = some (.cells #[a, b, c] t (0, 0))) :
    w.cell? ⟨B, 0, none⟩ = some a ∧ w.cell? ⟨B, 1, none⟩ = some b ∧ w.cell? ⟨B, 2, none⟩ = some c ∧ ∀ j, w.frozen? ⟨B, j, none⟩ = false := by
  simp [World.cell?, World.frozen?, h]

set_option maxHeartbeats 2000000 in
theorem numbersAt_any (v : Value) (bs : List Int) (p : Nat) (w : World) (hb : IsB w v bs) (hl : bs.length ≤ 140737488355328) (hp : p + 12 ≤ bs.length) :
    Calls Try.prog 30 #[v, .int .i64 p] w fun e w' => e = .returned (.agg #[.int .u32 (edAt bs p).1, .int .u32 (edAt bs p).2.1, .int .u32 (edAt bs p).2.2]) ∧ Below w.heap.size w w' := by
  have N0 := hide fun w hb => numberAt_any v bs p w hb hl (by omega)
  have N1 := hide fun w hb => numberAt_any v bs (p + 4) w hb hl (by omega)
  have N2 := hide fun w hb => numberAt_any v bs (p + 8) w hb hl (by omega)
  rw [show ((p + 4 : Nat) : Int) = (p : Int) + 4 by omega] at N1
  rw [show ((p + 8 : Nat) : Int) = (p : Int) + 8 by omega] at N2
  simp only [edAt]
  have hI := hide (fun w' (h : Below w.heap.size w w') => hb.below h)
  generalize numAt bs p = x0 at N0 ⊢
  generalize numAt bs (p + 4) = x1 at N1 ⊢
  generalize numAt bs (p + 8) = x2 at N2 ⊢
  obtain ⟨a, cap, rfl, _⟩ := hb.form
  clear hb
  go_enter Try.func30, Try.ntmps30
  go_wp2_with fail
  refine wp_loop_rounds 4 ?_
  rw [rounds_succ]
  go_wp2_with fail
  have B0 : Below w.heap.size w ((w.alloc (.cells #[.int .u32 0, .int .u32 0, .int .u32 0] 50)).alloc (.cells #[.int .u32 0, .int .u32 0, .int .u32 0] 50)) := ((Below.refl _ w).alloc (Nat.le_refl _) _).alloc (by simp) _
  refine (N0.out _ (hI.out _ B0)).mono ?_
  rintro e w1 ⟨rfl, b1⟩
  have B1 := below_then B0 b1
  have g1 : w1.heap[w.heap.size]? = some (.cells #[.int .u32 0, .int .u32 0, .int .u32 0] 50 (0, 0)) := (b1.block _ (by simp; omega)).trans ((Below.heap_alloc _ _ _ (by simp)).trans (heap_alloc_new w _))
  have h1 : w1.heap[w.heap.size + 1]? = some (.cells #[.int .u32 0, .int .u32 0, .int .u32 0] 50 (0, 0)) := (b1.block _ (by simp)).trans (by have := heap_alloc_new (w.alloc (.cells #[.int .u32 0, .int .u32 0, .int .u32 0] 50)) (.cells #[.int .u32 0, .int .u32 0, .int .u32 0] 50); simpa using this)
  obtain ⟨c10, c11, c12, f1⟩ := cells3 h1
  have G1 := hide g1
  have H1 := hide h1
  have HB1 := hide B1
  clear g1 h1 b1 B0 B1
  go_wp2_with fail
  rw [rounds_succ]
  go_wp2_with fail
  have B1' := HB1.out.setCell (p := ⟨w.heap.size + 1, 0, none⟩) (by simp) (.int .u32 x0)
  have h1' := heap_setCell_same w1 (w.heap.size + 1) 0 _ _ (.int .u32 x0) H1.out
  have g1' := (heap_setCell_other w1 ⟨w.heap.size + 1, 0, none⟩ w.heap.size (.int .u32 x0) (by simp)).trans G1.out
  refine (N1.out _ (hI.out _ B1')).mono ?_
  rintro e w2 ⟨rfl, b2⟩
  have B2 := below_then B1' b2
  have g2 := (b2.block w.heap.size (Nat.lt_of_lt_of_le (by have := (Array.getElem?_eq_some_iff.1 g1').1; omega) (Nat.le_refl _))).trans g1'
  have h2 := (b2.block (w.heap.size + 1) (by have := (Array.getElem?_eq_some_iff.1 h1').1; omega)).trans h1'
  simp only [List.setIfInBounds_toArray, List.set_cons_zero] at h2
  obtain ⟨c20, c21, c22, f2⟩ := cells3 h2
  have G2 := hide g2
  have H2 := hide h2
  have HB2 := hide B2
  clear g2 h2 b2 B2 g1' h1' B1' c10 c11 c12 f1
  go_wp2_with fail
  rw [rounds_succ]
  go_wp2_with fail
  have B2' := HB2.out.setCell (p := ⟨w.heap.size + 1, 1, none⟩) (by simp) (.int .u32 x1)
  have h2' := heap_setCell_same w2 (w.heap.size + 1) 1 _ _ (.int .u32 x1) H2.out
  have g2' := (heap_setCell_other w2 ⟨w.heap.size + 1, 1, none⟩ w.heap.size (.int .u32 x1) (by simp)).trans G2.out
  refine (N2.out _ (hI.out _ B2')).mono ?_
  rintro e w3 ⟨rfl, b3⟩
  have B3 := below_then B2' b3
  have g3 := (b3.block w.heap.size (by have := (Array.getElem?_eq_some_iff.1 g2').1; omega)).trans g2'
  have h3 := (b3.block (w.heap.size + 1) (by have := (Array.getElem?_eq_some_iff.1 h2').1; omega)).trans h2'
  simp only [List.setIfInBounds_toArray, List.set_cons_zero, List.set_cons_succ] at h3
  obtain ⟨c30, c31, c32, f3⟩ := cells3 h3
  obtain ⟨d30, d31, d32, k3⟩ := cells3 g3
  have HB3 := hide B3
  clear g3 h3 b3 B3 g2' h2' B2' c20 c21 c22 f2
  go_wp2_with fail
  rw [rounds_succ]
  go_wp2
  exact bodyPost_ret (v := .agg #[.int .u32 x0, .int .u32 x1, .int .u32 x2]) (by simp [results, Try.results30, go_sem, d30, d31, d32]) rfl ⟨rfl, (((HB3.out.setCell (p := ⟨w.heap.size + 1, 2, none⟩) (by simp) _).setCell (p := ⟨w.heap.size, 0, none⟩) (by simp) _).setCell (p := ⟨w.heap.size, 1, none⟩) (by simp) _).setCell (p := ⟨w.heap.size, 2, none⟩) (by simp) _⟩

/-- The edges that the bytes say, if there are c. -/
def edgesOf (bs : List Int) (c : Nat) : List Ed := (List.range c).map fun i => edAt bs (4 + i * 12)
theorem edgesOf_length (bs : List Int) (c : Nat) : (edgesOf bs c).length = c := by simp [edgesOf]
/-- The first place, of edges from the i-th on, where an end is none of n vertices. -/
def badAt (n : Int) : List Ed → Nat → Option Int
  | [], _ => none
  | x :: xs, i => if 0 ≤ wrongE n x then some (4 + (i : Int) * 12 + wrongE n x * 4) else badAt n xs (i + 1)
/-- What Decode tells: N, the edges, the place, the error. -/
def dec (bs : List Int) : Int × List Ed × Int × Int :=
  if bs.length < 4 ∨ (bs.length - 4) % 12 ≠ 0 then (0, [], bs.length, 2)
  else if 1048576 < numAt bs 0 then (0, [], 0, 1)
  else if 1048576 < (bs.length - 4) / 12 then (0, [], 4, 1)
  else match badAt (numAt bs 0) (edgesOf bs ((bs.length - 4) / 12)) 0 with
    | some p => (0, [], p, 1)
    | none => (numAt bs 0, edgesOf bs ((bs.length - 4) / 12), 0, 0)

/-- What a call of Decode leaves. -/
def DecPost (w : World) (D : Int × List Ed × Int × Int) (e : Ending) (w' : World) : Prop :=
  ∃ v, e = .returned (.tuple #[.agg #[.int .i64 D.1, v], .int .i64 D.2.2.1, .int .i64 D.2.2.2]) ∧ IsE w' v D.2.1 ∧ Below w.heap.size w w'

set_option maxHeartbeats 1000000 in
theorem decode_form (v : Value) (bs : List Int) (w : World) (hb : IsB w v bs) (hl : bs.length ≤ 140737488355328) (h : bs.length < 4 ∨ (bs.length - 4) % 12 ≠ 0) :
    Calls Try.prog 18 #[v] w (DecPost w (0, [], bs.length, 2)) := by
  obtain ⟨a, cap, rfl, _⟩ := hb.form
  clear hb
  by_cases h4 : bs.length < 4
  · go_enter Try.func18, Try.ntmps18
    go_wp2
    exact bodyPost_ret (v := .tuple #[.agg #[.int .i64 0, .slice none 0 0], .int .i64 bs.length, .int .i64 2]) (by simp [results, Try.results18, go_sem]) rfl ⟨_, rfl, IsE.nil _, (Below.refl _ _).alloc (Nat.le_refl _) _⟩
  · have hm : (((bs.length : Int) - 4) % 12 != 0) = true := by simp; omega
    go_enter Try.func18, Try.ntmps18
    go_wp2
    exact bodyPost_ret (v := .tuple #[.agg #[.int .i64 0, .slice none 0 0], .int .i64 bs.length, .int .i64 2]) (by simp [results, Try.results18, go_sem]) rfl ⟨_, rfl, IsE.nil _, (Below.refl _ _).alloc (Nat.le_refl _) _⟩

set_option maxHeartbeats 1000000 in
theorem decode_n (v : Value) (bs : List Int) (w : World) (hb : IsB w v bs) (hl : bs.length ≤ 140737488355328) (h : ¬ (bs.length < 4 ∨ (bs.length - 4) % 12 ≠ 0)) (hn : 1048576 < numAt bs 0) :
    Calls Try.prog 18 #[v] w (DecPost w (0, [], 0, 1)) := by
  have hN := numberAt_any v bs 0 _ (hb.below ((Below.refl _ w).alloc (Nat.le_refl _) (.cells #[.int .i64 0, .slice none 0 0] 24))) hl (by omega)
  obtain ⟨a, cap, rfl, _⟩ := hb.form
  clear hb
  generalize numAt bs 0 = x at hN hn
  have hm : (((bs.length : Int) - 4) % 12 != 0) = false := by simp; omega
  have h4 : ¬ (bs.length : Int) < 4 := by omega
  have HN := hide hN
  clear hN h
  go_enter Try.func18, Try.ntmps18
  go_wp2_with (go_at_call 29; refine HN.out.mono ?_; rintro e w1 ⟨rfl, b1⟩; have g1 : w1.heap[w.heap.size]? = some (.cells #[.int .i64 0, .slice none 0 0] 24 (0, 0)) := (b1.block _ (by simp)).trans (heap_alloc_new w _); have c10 : w1.cell? ⟨w.heap.size, 0, none⟩ = some (.int .i64 0) := (by simp [World.cell?, g1]); have c11 : w1.cell? ⟨w.heap.size, 1, none⟩ = some (.slice none 0 0) := (by simp [World.cell?, g1]); have f1 : ∀ j, w1.frozen? ⟨w.heap.size, j, none⟩ = false := (by simp [World.frozen?, g1]); have G1 := hide g1; clear g1)
  exact bodyPost_ret (v := .tuple #[.agg #[.int .i64 0, .slice none 0 0], .int .i64 0, .int .i64 1]) (by simp [results, Try.results18, go_sem, c10, c11]) rfl ⟨_, rfl, IsE.nil _, ((below_after (Below.refl _ w) b1).setCell (p := ⟨w.heap.size, 0, none⟩) (by simp) _).setCell (p := ⟨w.heap.size, 1, none⟩) (by simp) _⟩

end Go.Proofs.Ytjkdnibfppjolaa
