/-
  Plain facts on rows that rise, for the laws; slices that came in. A lemma file: no statement of the seat is proved here.
-/
import Derived.Test.YthlhjlmhdhhkaaaHOne
namespace Go.Proofs.Ythlhjlmhdhhkaaa
open Go.RowKit

theorem min100 (len : Nat) : ∃ m : Nat, m = min len 100 ∧ (∀ (ts : Array TypeId) (t : TypeId) (w : World), (Builtin.min_ ts t #[.int .i64 (len : Int), .int .i64 100]).run Try.prog w = .ok (.int .i64 (m : Int)) w) := by
  refine ⟨min len 100, rfl, fun ts t w => ?_⟩
  rw [run_min_int2]
  congr 2
  split <;> omega

theorem sortR_snoc (out l : List Rc) (i : Nat) (hi : i < l.length) : insR l[i]! (sortR out (l.take i)) = sortR out (l.take (i + 1)) := by
  rw [getElem!_pos l i hi, ← List.take_append_getElem hi, sortR_append]
  rfl

theorem sortR_length (out l : List Rc) : (sortR out l).length = out.length + l.length := by
  have := (sortR_perm out l).length_eq
  rw [List.length_append] at this
  exact this

theorem insR_zero {S : List Rc} (h : Rises S) (hok : ∀ e ∈ S, okR e) : insR (0, 0) S = (0, 0) :: S := by
  refine Rises.unique (insR_rises _ h) (List.pairwise_cons.2 ⟨fun y hy => ?_, h⟩) (insR_perm _ _)
  have := hok y hy
  rw [Bool.eq_false_iff, Ne, ltR_iff]
  unfold okR at this
  simp only
  omega

theorem sortR_last {l : List Rc} (hok : ∀ e ∈ l, okR e) : sortR [(18446744073709551615, 18446744073709551615)] l = sortR [] l ++ [(18446744073709551615, 18446744073709551615)] := by
  refine Rises.unique (sortR_rises (by simp [Rises]) l) ?_ ?_
  · unfold Rises
    rw [List.pairwise_append]
    refine ⟨sortR_rises (by simp [Rises]) l, by simp, fun a ha b hb => ?_⟩
    simp at hb
    subst hb
    have := hok a (by have := (sortR_perm [] l).subset ha; simpa using this)
    rw [Bool.eq_false_iff, Ne, ltR_iff]
    unfold okR at this
    simp only
    omega
  · refine (sortR_perm _ _).trans ?_
    refine List.Perm.trans ?_ ((sortR_perm [] l).append_right _).symm
    simp only [List.nil_append, List.singleton_append]
    exact (List.perm_append_singleton _ _).symm

theorem sortR_rev (l : List Rc) : sortR [] l.reverse = sortR [] l := by
  refine Rises.unique (sortR_rises (by simp [Rises]) _) (sortR_rises (by simp [Rises]) _) ?_
  refine (sortR_perm _ _).trans ((List.Perm.trans ?_ (sortR_perm _ _).symm))
  simp only [List.nil_append]
  exact List.reverse_perm l

theorem rev_at (l : List Rc) (n i k : Nat) (hn : n ≤ l.length) (hk : k + i + 1 = n) : l[k]! = ((l.take n).reverse)[i]! := by
  rw [getElem!_pos l k (by omega), getElem!_pos _ i (by simp; omega), List.getElem_reverse, List.getElem_take]
  congr 1
  simp
  omega

theorem rises_at {l : List Rc} (h : Rises l) (i j : Nat) (hij : i < j) (hj : j < l.length) : ltR l[j]! l[i]! = false := by
  rw [getElem!_pos l j hj, getElem!_pos l i (by omega)]
  exact List.pairwise_iff_getElem.1 h i j (by omega) hj hij

/-- What came in, read in a later world. -/
theorem IsR.read {w0 w : World} {a : Option Addr} {n cap : Nat} {l : List Rc} (h : IsR w0 (.slice a n cap) l) (hb : Below w0.heap.size w0 w) (j : Nat) (hj : j < l.length) :
    ∃ b off, a = some ⟨b, off, none⟩ ∧ w.cell? ⟨b, off + j * 2, none⟩ = some (.int .u64 l[j]!.1) ∧ w.cell? ⟨b, off + j * 2 + 1, none⟩ = some (.int .u64 l[j]!.2) := by
  obtain ⟨b, off, c, e, _, hc⟩ := (h.below hb).opened (by omega)
  simp only [Value.slice.injEq] at e
  exact ⟨b, off, e.1, hc j hj⟩

theorem IsK.read {w0 w : World} {a : Option Addr} {n cap : Nat} {l : List Bool} (h : IsK w0 (.slice a n cap) l) (hb : Below w0.heap.size w0 w) (j : Nat) (hj : j < l.length) :
    ∃ b off, a = some ⟨b, off, none⟩ ∧ w.cell? ⟨b, off + j, none⟩ = some (.bool (l[j]?.getD false)) := by
  obtain ⟨a', cap', e, h1, h2, h3⟩ := h.below hb
  simp only [Value.slice.injEq] at e
  obtain ⟨rfl, rfl, rfl⟩ := e
  cases a with
  | none => rw [(h2 rfl).1] at hj; simp at hj
  | some x =>
    obtain ⟨b, off, spot⟩ := x
    have hc := h3 _ rfl 0 (by omega)
    have hspot : spot = none := by simpa [Addr.add] using World.cell?_spot hc
    subst hspot
    have := h3 _ rfl j hj
    rw [Addr.add_lit] at this
    exact ⟨b, off, rfl, this⟩

end Go.Proofs.Ythlhjlmhdhhkaaa
