/-
  How graphs and edges that came in are read. A lemma file: no statement of the seat is proved here.
-/
import Derived.Test.YtjkdnibfppjolaaFew2
import Derived.WalkKit
import Derived.ProofKit
import Derived.OpenShut
import Derived.ShutString
import Derived.ChangeOld
import Derived.Below
import Derived.Deep.Slices
import Derived.Deep.Strs
import Derived.Lib.SmallJoins
namespace Go.Proofs.Ytjkdnibfppjolaa
open Go.ChangeShapes Go.WideShapes Go.ChangeAt Go.RowKit Go.Joins Go.Deep

theorem okE_mk {a b c : Int} (ha : 0 ≤ a ∧ a ≤ 4294967295) (hb : 0 ≤ b ∧ b ≤ 4294967295) (hc : 0 ≤ c ∧ c ≤ 4294967295) : okE (a, b, c) := by
  unfold okE
  dsimp only
  omega

theorem cellsEdge : Try.prog.cellsOf 39 = 3 := by kernel_rfl
theorem cellsGraph : Try.prog.cellsOf 24 = 2 := by kernel_rfl
theorem cellsU32 : Try.prog.cellsOf 37 = 1 := by kernel_rfl

/-- The three numbers of an edge that came in. -/
theorem edgeIn {H : Type} {enc : TypeId × Value → H} {W : World} {base : Nat} {spare : Nat → Bool} {held : Bool} {fuel : Nat} {cs : List Value} {x : DataW H × List MemPlace}
    (h : DataW.trod enc Try.prog W base spare held fuel 39 cs = some x) : ∃ e : Ed, cs = encE e ∧ okE e := by
  obtain ⟨y0, y1, y2, n, _, hl, h0, h1, h2⟩ := trod_struct3 Try.underlying39 h
  rw [cellsEdge] at hl
  simp only [cellsU32] at h0 h1 h2
  match cs, hl with
  | [c0, c1, c2], _ =>
    obtain ⟨a, e0, _, w0⟩ := DataW.trod_int Try.underlying37 h0
    obtain ⟨b, e1, _, w1⟩ := DataW.trod_int Try.underlying37 h1
    obtain ⟨c, e2, _, w2⟩ := DataW.trod_int Try.underlying37 h2
    simp at e0 e1 e2
    subst e0 e1 e2
    exact ⟨(a, b, c), rfl, okE_mk (bounds_u32 w0) (bounds_u32 w1) (bounds_u32 w2)⟩

/-- A slice of edges that came in. -/
theorem edgesIn {H : Type} {enc : TypeId × Value → H} {W : World} {base : Nat} {spare : Nat → Bool} {held : Bool} {fuel : Nat} {cs : List Value} {x : DataW H × List MemPlace}
    (h : DataW.trod enc Try.prog W base spare held fuel 22 cs = some x) : ∃ a len cap es, cs = [.slice a len cap] ∧ IsE W (.slice a len cap) es ∧ es.length = len ∧ len ≤ maxLen := by
  rcases open_slice Try.underlying22 h with ⟨rfl, _⟩ | ⟨a, len, cap, m, n, D, Pl, rfl, hb, hl, hm, hmm, _, hx⟩
  · exact ⟨none, 0, 0, [], rfl, IsE.nil W, rfl, by unfold maxLen; omega⟩
  · rw [cellsEdge] at hx
    have hlm : len ≤ m := by rw [hmm]; split <;> omega
    obtain ⟨E, hE⟩ := choose_lt (α := Ed) (n := len) (p := fun i e => W.cells? base (a.add (i * 3)) 3 = some (encE e) ∧ okE e) (fun i hi => by
      obtain ⟨cs', h1, h2⟩ := hx i (by omega)
      obtain ⟨e, rfl, he⟩ := edgeIn h2
      exact ⟨e, h1, he⟩)
    have hlen : ((List.range len).map E).length = len := by simp
    refine ⟨some a, len, cap, (List.range len).map E, rfl, ⟨some a, cap, by rw [hlen], by rw [hlen]; exact hl, by simp, fun x hx j hj i u hu => ?_, fun e he => ?_⟩, hlen, by omega⟩
    · simp only [Option.some.injEq] at hx
      subst hx
      rw [hlen] at hj
      have e1 : ((List.range len).map E)[j]! = E j := by rw [getElem!_pos _ j (by simpa using hj)]; simp
      rw [e1] at hu
      obtain ⟨_, _, hc⟩ := World.cells?_some (hE j hj).1
      have hi : i < 3 := by have := (List.getElem?_eq_some_iff.1 hu).1; rw [encE_length] at this; exact this
      have := hc i hi
      rw [add_add, hu] at this
      exact this
    · simp only [List.mem_map, List.mem_range] at he
      obtain ⟨i, hi, rfl⟩ := he
      exact (hE i hi).2

/-- A graph that came in. -/
theorem graphIn {H : Type} {enc : TypeId × Value → H} {W : World} {base : Nat} {spare : Nat → Bool} {held : Bool} {r : Reach} {b0 : Nat} {v : Value} {d : DataW H} {p : List MemPlace}
    (hv : Value.okWide Try.prog W r b0 24 v) (h : DataW.Trod enc Try.prog W base spare held 24 v d p) :
    ∃ (n : Int) (a : Option Addr) (len cap : Nat) (es : List Ed), v = .agg #[.int .i64 n, .slice a len cap] ∧ (Lit.int .i64 n).wf = true ∧ IsE W (.slice a len cap) es ∧ es.length = len ∧ len ≤ maxLen := by
  obtain ⟨c0, c1, y0, y1, m, rfl, rfl, rfl, hy0, hy1⟩ := open_agg2 Try.underlying24 (by kernel_rfl) cellsGraph hv h
  obtain ⟨n, e0, _, wn⟩ := DataW.trod_int Try.underlying3 hy0
  obtain ⟨a, len, cap, es, e1, h1, h2, h3⟩ := edgesIn hy1
  simp at e0 e1
  subst e0 e1
  exact ⟨n, a, len, cap, es, rfl, wn, h1, h2, h3⟩

/-- An edge that came in by itself. -/
theorem edgeArg {H : Type} {enc : TypeId × Value → H} {W : World} {base : Nat} {spare : Nat → Bool} {held : Bool} {r : Reach} {b0 : Nat} {v : Value} {d : DataW H} {p : List MemPlace}
    (hv : Value.okWide Try.prog W r b0 39 v) (h : DataW.Trod enc Try.prog W base spare held 39 v d p) :
    ∃ x y z : Int, v = .agg #[.int .u32 x, .int .u32 y, .int .u32 z] ∧ okE (x, y, z) := by
  obtain ⟨c0, c1, c2, y0, y1, y2, m, rfl, rfl, rfl, hy0, hy1, hy2⟩ := open_agg3 Try.underlying39 (by kernel_rfl) cellsEdge hv h
  obtain ⟨a, e0, _, w0⟩ := DataW.trod_int Try.underlying37 hy0
  obtain ⟨b, e1, _, w1⟩ := DataW.trod_int Try.underlying37 hy1
  obtain ⟨c, e2, _, w2⟩ := DataW.trod_int Try.underlying37 hy2
  simp at e0 e1 e2
  subst e0 e1 e2
  exact ⟨a, b, c, rfl, okE_mk (bounds_u32 w0) (bounds_u32 w1) (bounds_u32 w2)⟩

/-- Behind 'g = few(g)', g in the box s. -/
theorem boxed {B s t : Nat} {w2 : World} {c0 c1 u0 u1 v : Value} {fs : List Ed} (hs : w2.heap[s]? = some (.cells #[c0, c1] t (0, 0))) (ht : t ≠ 39) (ho : OwnV B w2 v fs) :
    ((w2.setCell ⟨s, 0, none⟩ u0).setCell ⟨s, 1, none⟩ u1).heap[s]? = some (.cells #[u0, u1] t (0, 0)) ∧ OwnV B ((w2.setCell ⟨s, 0, none⟩ u0).setCell ⟨s, 1, none⟩ u1) v fs := by
  have h1 := heap_setCell_same w2 s 0 _ _ u0 hs
  have h2 := heap_setCell_same (w2.setCell ⟨s, 0, none⟩ u0) s 1 _ _ u1 h1
  refine ⟨?_, (ho.other u0 hs ht).other u1 h1 ht⟩
  simpa using h2

theorem below_box {B s : Nat} {w w2 : World} (h : Below B w w2) (hs : B ≤ s) (u0 u1 : Value) : Below B w ((w2.setCell ⟨s, 0, none⟩ u0).setCell ⟨s, 1, none⟩ u1) :=
  (h.setCell (p := ⟨s, 0, none⟩) hs _).setCell (p := ⟨s, 1, none⟩) hs _

/-- A block that is there stays behind what keeps all. -/
theorem block_then {w w' : World} {s : Nat} {o : Obj} (h : w.heap[s]? = some o) (hb : Below w.heap.size w w') : w'.heap[s]? = some o := (hb.block s (Array.getElem?_eq_some_iff.1 h).1).trans h

end Go.Proofs.Ytjkdnibfppjolaa
