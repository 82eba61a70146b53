/-
  What Decode tells of what Encode told. A lemma file: no statement of the seat is proved here.
-/
import Derived.Test.YtjkdnibfppjolaaFrame
namespace Go.Proofs.Ytjkdnibfppjolaa
open Go.RowKit

theorem numAt_put (pre post : List Int) (x : Int) (h0 : 0 ≤ x) (h1 : x < 4294967296) : numAt (pre ++ (putB 4 x ++ post)) pre.length = x := by
  unfold numAt
  rw [List.drop_left, List.take_left' (putB_length 4 x), valB_putB]
  rw [show (256 : Int) ^ 4 = 4294967296 by decide]
  omega

theorem numAt_put' (pre post : List Int) (p : Nat) (x : Int) (hp : p = pre.length) (h0 : 0 ≤ x) (h1 : x < 4294967296) : numAt (pre ++ (putB 4 x ++ post)) p = x := by
  subst hp
  exact numAt_put pre post x h0 h1

theorem edAt_put (pre post : List Int) (x : Ed) (hx : okE x) : edAt (pre ++ (edgeB x ++ post)) pre.length = x := by
  obtain ⟨x1, x2, x3⟩ := x
  obtain ⟨⟨a0, a1⟩, ⟨b0, b1⟩, c0, c1⟩ := hx
  simp only [edAt, edgeB]
  dsimp only at *
  have e1 : numAt (pre ++ (putB 4 x1 ++ (putB 4 x2 ++ putB 4 x3) ++ post)) pre.length = x1 := by
    rw [List.append_assoc (putB 4 x1)]
    exact numAt_put _ _ x1 a0 a1
  have e2 : numAt (pre ++ (putB 4 x1 ++ (putB 4 x2 ++ putB 4 x3) ++ post)) (pre.length + 4) = x2 := by
    rw [List.append_assoc (putB 4 x1), List.append_assoc (putB 4 x2), ← List.append_assoc pre]
    exact numAt_put' _ _ _ x2 (by simp [putB_length]) b0 b1
  have e3 : numAt (pre ++ (putB 4 x1 ++ (putB 4 x2 ++ putB 4 x3) ++ post)) (pre.length + 8) = x3 := by
    rw [List.append_assoc (putB 4 x1), List.append_assoc (putB 4 x2), ← List.append_assoc pre, ← List.append_assoc (pre ++ putB 4 x1)]
    exact numAt_put' _ _ _ x3 (by simp [putB_length]) c0 c1
  rw [e1, e2, e3]

theorem edAt_graph (n : Int) (es : List Ed) (hok : ∀ e ∈ es, okE e) (k : Nat) (hk : k < es.length) : edAt (graphB n es) (4 + k * 12) = es[k]! := by
  have hs : graphB n es = (putB 4 n ++ edgesB (es.take k)) ++ (edgeB es[k]! ++ edgesB (es.drop (k + 1))) := by
    unfold graphB
    rw [List.append_assoc]
    congr 1
    rw [← List.append_assoc, ← edgesB_take es k hk, ← edgesB_append, List.take_append_drop]
  have hl : (putB 4 n ++ edgesB (es.take k)).length = 4 + k * 12 := by
    rw [List.length_append, putB_length, edgesB_length, List.length_take, Nat.min_eq_left (Nat.le_of_lt hk)]
    omega
  rw [hs, ← hl]
  exact edAt_put _ _ _ (hok _ (by rw [getElem!_pos es k hk]; exact List.getElem_mem hk))

theorem edgesOf_graph (n : Int) (es : List Ed) (hok : ∀ e ∈ es, okE e) : edgesOf (graphB n es) es.length = es := by
  apply List.ext_getElem
  · rw [edgesOf_length]
  · intro k h1 h2
    rw [edgesOf_length] at h1
    have := edAt_graph n es hok k h1
    rw [getElem!_pos es k h1] at this
    simp [edgesOf, this]

/-- What Decode tells of the bytes of edges, right or not. -/
theorem dec_graph (n : Int) (hn0 : 0 ≤ n) (hn1 : n ≤ 1048576) (es : List Ed) (hok : ∀ e ∈ es, okE e) (hl : es.length ≤ 1048576) :
    dec (graphB n es) = match badAt n es 0 with | some p => (0, [], p, 1) | none => (n, es, 0, 0) := by
  have hlen := graphB_length n es
  have hn : numAt (graphB n es) 0 = n := by
    have := numAt_put [] (edgesB es) n hn0 (by omega)
    exact this
  unfold dec
  rw [hn, hlen, if_neg (by omega), if_neg (by omega), show (4 + 12 * es.length - 4) / 12 = es.length by omega, if_neg (by omega), edgesOf_graph n es hok]
  rfl

theorem badAt_none (n : Int) (es : List Ed) (i : Nat) (h : (es.any fun x => decide (0 ≤ wrongE n x)) = false) : badAt n es i = none := by
  induction es generalizing i with
  | nil => rfl
  | cons x es ih =>
    simp only [List.any_cons, Bool.or_eq_false_iff, decide_eq_false_iff_not] at h
    rw [badAt, if_neg h.1]
    exact ih (i + 1) h.2

theorem rightB_parts {n : Int} {es : List Ed} (h : rightB n es = true) : 0 ≤ n ∧ n ≤ 1048576 ∧ es.length ≤ 1048576 ∧ (es.any fun x => decide (0 ≤ wrongE n x)) = false := by
  simp only [rightB, Bool.and_eq_true, decide_eq_true_eq, Bool.not_eq_true'] at h
  exact ⟨h.1.1.1, h.1.1.2, h.1.2, h.2⟩

/-- What was told is read as it was. -/
theorem dec_right (n : Int) (es : List Ed) (hok : ∀ e ∈ es, okE e) (h : rightB n es = true) : dec (graphB n es) = (n, es, 0, 0) := by
  obtain ⟨h0, h1, h2, h3⟩ := rightB_parts h
  rw [dec_graph n h0 h1 es hok h2, badAt_none n es 0 h3]

/-- Bytes that are no whole edges. -/
theorem dec_form (bs : List Int) (h : bs.length < 4 ∨ (bs.length - 4) % 12 ≠ 0) : dec bs = (0, [], (bs.length : Int), 2) := by
  unfold dec
  rw [if_pos h]

/-- Encode, right or not: the bytes, and the error. -/
def encR (n : Int) (es : List Ed) : List Int := if rightB n es = true then graphB n es else []
def encE' (n : Int) (es : List Ed) : Int := if rightB n es = true then 0 else 1

end Go.Proofs.Ytjkdnibfppjolaa
