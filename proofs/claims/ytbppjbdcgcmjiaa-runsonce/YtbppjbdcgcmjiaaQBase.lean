/-
  Rows of records beside heaps; slices of records that came in; the document's Sort. A lemma file: no statement of the seat is proved here.
-/
import Derived.Test.YtbppjbdcgcmjiaaHRef
import Derived.Deep.SlicePairs
import Derived.ProofKit
import Derived.OpenShut
namespace Go.Proofs.Ytbppjbdcgcmjiaa
open Go.RowKit Go.ChangeShapes Go.WideShapes Go.ChangeAt
variable {w w' : World}

/-- The row without its first. -/
theorem IsR.tail {b off n cap : Nat} {x : Rc} {l : List Rc} (h : IsR w (.slice (some ⟨b, off, none⟩) n cap) (x :: l)) : IsR w (.slice (some ⟨b, off + 2, none⟩) (n - 1) (cap - 1)) l := by
  obtain ⟨a, c, e, h1, h2, h3, h4⟩ := h
  simp only [Value.slice.injEq] at e
  obtain ⟨rfl, rfl, rfl⟩ := e
  simp only [List.length_cons] at h1
  refine ⟨some ⟨b, off + 2, none⟩, cap - 1, by simp, by omega, by simp, fun y hy j u hu => ?_, fun e he => h4 e (by simp [he])⟩
  simp only [Option.some.injEq] at hy
  subst hy
  have := h3 _ rfl (2 + j) u (by rw [flatR_cons, List.getElem?_append_right (by rw [encR_length]; omega), encR_length, Nat.add_sub_cancel_left]; exact hu)
  rw [Addr.add_lit] at this ⊢
  rw [← this, Nat.add_assoc]

theorem IsR.opened {v : Value} {l : List Rc} (h : IsR w v l) (h0 : 0 < l.length) : ∃ b off cap, v = .slice (some ⟨b, off, none⟩) l.length cap ∧ l.length ≤ cap ∧
    ∀ j, j < l.length → w.cell? ⟨b, off + j * 2, none⟩ = some (.int .u64 l[j]!.1) ∧ w.cell? ⟨b, off + j * 2 + 1, none⟩ = some (.int .u64 l[j]!.2) := by
  obtain ⟨a, cap, rfl, h1, h2, h3, h4⟩ := h
  cases a with
  | none => rw [(h2 rfl).1] at h0; simp at h0
  | some x =>
    obtain ⟨b, off, spot⟩ := x
    have hc := h3 _ rfl 0 (.int .u64 l[0]!.1) (by have := flatR_at l 0 0 h0 (by omega); simpa [encR] using this)
    have hspot : spot = none := by simpa [Addr.add] using World.cell?_spot hc
    subst hspot
    refine ⟨b, off, cap, rfl, h1, fun j hj => ?_⟩
    have e1 := h3 _ rfl (j * 2 + 0) (.int .u64 l[j]!.1) (by rw [flatR_at l j 0 hj (by omega)]; rfl)
    have e2 := h3 _ rfl (j * 2 + 1) (.int .u64 l[j]!.2) (by rw [flatR_at l j 1 hj (by omega)]; rfl)
    rw [Addr.add_lit] at e1 e2
    exact ⟨e1, e2⟩

theorem IsR.okAt {v : Value} {l : List Rc} (h : IsR w v l) (j : Nat) (hj : j < l.length) : okR l[j]! := by
  obtain ⟨a, cap, rfl, h1, h2, h3, h4⟩ := h
  rw [getElem!_pos l j hj]
  exact h4 _ (List.getElem_mem hj)

theorem IsR.low {v : Value} {l : List Rc} (h : IsR w v l) (h0 : 0 < l.length) : ∀ b ∈ own v, b < w.heap.size := by
  obtain ⟨b, off, cap, rfl, _, hc⟩ := h.opened h0
  intro x hx
  simp [own, Value.ownBlock] at hx
  subst hx
  exact World.block_lt_of_cell? w _ (hc 0 h0).1

/-- The slice v holds these truths. -/
def IsK (w : World) (v : Value) (ks : List Bool) : Prop :=
  ∃ (a : Option Addr) (cap : Nat), v = .slice a ks.length cap ∧ ks.length ≤ cap ∧ (a = none → ks = [] ∧ cap = 0) ∧ ∀ x, a = some x → ∀ j, j < ks.length → w.cell? (x.add j) = some (.bool (ks[j]?.getD false))

theorem IsK.nil (w : World) : IsK w (.slice none 0 0) [] := ⟨none, 0, rfl, Nat.le_refl _, fun _ => ⟨rfl, rfl⟩, by simp⟩

theorem IsK.below {w w' : World} {v : Value} {ks : List Bool} (h : IsK w v ks) (hb : Below w.heap.size w w') : IsK w' v ks := by
  obtain ⟨a, cap, rfl, h1, h2, h3⟩ := h
  refine ⟨a, cap, rfl, h1, h2, fun x hx j hj => ?_⟩
  have h := h3 x hx j hj
  rw [World.cell?_of_block (w := w) (hb.block _ (World.block_lt_of_cell? w _ h))]
  exact h

/-- A slice of records that came in. -/
theorem recsIn {H : Type} {enc : TypeId × Value → H} {W : World} {base : Nat} {spare : Nat → Bool} {held : Bool} {fuel : Nat} {cs : List Value} {x : DataW H × List MemPlace}
    (h : DataW.trod enc Try.prog W base spare held fuel 22 cs = some x) : ∃ a len cap es, cs = [.slice a len cap] ∧ IsR W (.slice a len cap) es ∧ es.length = len ∧ len ≤ maxLen := by
  rcases Go.Deep.open_slice_pairs Try.underlying22 Try.underlying44 (by kernel_rfl) rfl rfl (by kernel_rfl) (by kernel_rfl) h with ⟨rfl, _⟩ | ⟨a, len, cap, m, n, V0, V1, D0, D1, P0, P1, rfl, hb, hl, hm, hmm, _, hx⟩
  · exact ⟨none, 0, 0, [], rfl, ⟨none, 0, rfl, Nat.le_refl _, fun _ => ⟨rfl, rfl⟩, by simp, by simp⟩, rfl, by unfold maxLen; omega⟩
  · have hlm : len ≤ m := by rw [hmm]; split <;> omega
    obtain ⟨E, hE⟩ := Go.Deep.choose_lt (α := Rc) (n := len) (p := fun i e => W.cell? (a.add (i * 2)) = some (.int .u64 e.1) ∧ W.cell? (a.add (i * 2 + 1)) = some (.int .u64 e.2) ∧ okR e) (fun i hi => by
      obtain ⟨h1, h2, h3, h4⟩ := hx i (by omega)
      obtain ⟨z, e0, _, wz⟩ := DataW.trod_int Try.underlying39 h3
      obtain ⟨s, e1, _, ws⟩ := DataW.trod_int Try.underlying39 h4
      simp only [List.cons.injEq, and_true] at e0 e1
      rw [e0] at h1
      rw [e1] at h2
      have b1 := bounds_u64 wz
      have b2 := bounds_u64 ws
      exact ⟨(z, s), h1, h2, ⟨by omega, by omega⟩⟩)
    have hlen : ((List.range len).map E).length = len := by simp
    refine ⟨some a, len, cap, (List.range len).map E, rfl, ⟨some a, cap, by rw [hlen], by rw [hlen]; exact hl, by simp, fun x hx j u hu => ?_, fun e he => ?_⟩, hlen, by omega⟩
    · simp only [Option.some.injEq] at hx
      subst hx
      have hj : j < len * 2 := by have := (List.getElem?_eq_some_iff.1 hu).1; rw [flatR_length, hlen] at this; exact this
      have e := flatR_at ((List.range len).map E) (j / 2) (j % 2) (by rw [hlen]; omega) (by omega)
      rw [show j / 2 * 2 + j % 2 = j by omega, hu] at e
      have e1 : ((List.range len).map E)[j / 2]! = E (j / 2) := by rw [getElem!_pos _ (j / 2) (by rw [hlen]; omega)]; simp
      rw [e1] at e
      obtain ⟨q1, q2, _⟩ := hE (j / 2) (by omega)
      rcases (by omega : j % 2 = 0 ∨ j % 2 = 1) with h0 | h0
      · rw [h0] at e
        rw [show j / 2 * 2 = j by omega] at q1
        simp [encR] at e
        rw [q1, e]
      · rw [h0] at e
        rw [show j / 2 * 2 + 1 = j by omega] at q2
        simp [encR] at e
        rw [q2, e]
    · simp only [List.mem_map, List.mem_range] at he
      obtain ⟨i, hi, rfl⟩ := he
      exact (hE i hi).2.2

theorem min100 (len : Nat) : ∃ m : Nat, m = min len 100 ∧ (∀ (ts : Array TypeId) (t : TypeId) (w : World), (Builtin.min_ ts t #[.int .i64 (len : Int), .int .i64 100]).run Try.prog w = .ok (.int .i64 (m : Int)) w) := by
  refine ⟨min len 100, rfl, fun ts t w => ?_⟩
  rw [run_min_int2]
  congr 2
  split <;> omega

theorem sortR_snoc (out l : List Rc) (i : Nat) (hi : i < l.length) : insR l[i]! (sortR out (l.take i)) = sortR out (l.take (i + 1)) := by
  rw [getElem!_pos l i hi, ← List.take_append_getElem hi, sortR_append]
  rfl

theorem sortR_length (out l : List Rc) : (sortR out l).length = out.length + l.length := by
  have := (sortR_perm out l).length_eq
  rw [List.length_append] at this
  exact this

theorem insR_zero {S : List Rc} (h : Rises S) (hok : ∀ e ∈ S, okR e) : insR (0, 0) S = (0, 0) :: S := by
  refine Rises.unique (insR_rises _ h) (List.pairwise_cons.2 ⟨fun y hy => ?_, h⟩) (insR_perm _ _)
  have := hok y hy
  rw [Bool.eq_false_iff, Ne, ltR_iff]
  unfold okR at this
  simp only
  omega

theorem sortR_last {l : List Rc} (hok : ∀ e ∈ l, okR e) : sortR [(18446744073709551615, 18446744073709551615)] l = sortR [] l ++ [(18446744073709551615, 18446744073709551615)] := by
  refine Rises.unique (sortR_rises (by simp [Rises]) l) ?_ ?_
  · unfold Rises
    rw [List.pairwise_append]
    refine ⟨sortR_rises (by simp [Rises]) l, by simp, fun a ha b hb => ?_⟩
    simp at hb
    subst hb
    have := hok a (by have := (sortR_perm [] l).subset ha; simpa using this)
    rw [Bool.eq_false_iff, Ne, ltR_iff]
    unfold okR at this
    simp only
    omega
  · refine (sortR_perm _ _).trans ?_
    refine List.Perm.trans ?_ ((sortR_perm [] l).append_right _).symm
    simp only [List.nil_append, List.singleton_append]
    exact (List.perm_append_singleton _ _).symm

theorem sortR_rev (l : List Rc) : sortR [] l.reverse = sortR [] l := by
  refine Rises.unique (sortR_rises (by simp [Rises]) _) (sortR_rises (by simp [Rises]) _) ?_
  refine (sortR_perm _ _).trans ((List.Perm.trans ?_ (sortR_perm _ _).symm))
  simp only [List.nil_append]
  exact List.reverse_perm l

theorem rev_at (l : List Rc) (n i k : Nat) (hn : n ≤ l.length) (hk : k + i + 1 = n) : l[k]! = ((l.take n).reverse)[i]! := by
  rw [getElem!_pos l k (by omega), getElem!_pos _ i (by simp; omega), List.getElem_reverse, List.getElem_take]
  congr 1
  simp
  omega

theorem rises_at {l : List Rc} (h : Rises l) (i j : Nat) (hij : i < j) (hj : j < l.length) : ltR l[j]! l[i]! = false := by
  rw [getElem!_pos l j hj, getElem!_pos l i (by omega)]
  exact List.pairwise_iff_getElem.1 h i j (by omega) hj hij

/-- What came in, read in a later world. -/
theorem IsR.read {w0 w : World} {a : Option Addr} {n cap : Nat} {l : List Rc} (h : IsR w0 (.slice a n cap) l) (hb : Below w0.heap.size w0 w) (j : Nat) (hj : j < l.length) :
    ∃ b off, a = some ⟨b, off, none⟩ ∧ w.cell? ⟨b, off + j * 2, none⟩ = some (.int .u64 l[j]!.1) ∧ w.cell? ⟨b, off + j * 2 + 1, none⟩ = some (.int .u64 l[j]!.2) := by
  obtain ⟨b, off, c, e, _, hc⟩ := (h.below hb).opened (by omega)
  simp only [Value.slice.injEq] at e
  exact ⟨b, off, e.1, hc j hj⟩

theorem IsK.read {w0 w : World} {a : Option Addr} {n cap : Nat} {l : List Bool} (h : IsK w0 (.slice a n cap) l) (hb : Below w0.heap.size w0 w) (j : Nat) (hj : j < l.length) :
    ∃ b off, a = some ⟨b, off, none⟩ ∧ w.cell? ⟨b, off + j, none⟩ = some (.bool (l[j]?.getD false)) := by
  obtain ⟨a', cap', e, h1, h2, h3⟩ := h.below hb
  simp only [Value.slice.injEq] at e
  obtain ⟨rfl, rfl, rfl⟩ := e
  cases a with
  | none => rw [(h2 rfl).1] at hj; simp at hj
  | some x =>
    obtain ⟨b, off, spot⟩ := x
    have hc := h3 _ rfl 0 (by omega)
    have hspot : spot = none := by simpa [Addr.add] using World.cell?_spot hc
    subst hspot
    have := h3 _ rfl j hj
    rw [Addr.add_lit] at this
    exact ⟨b, off, rfl, this⟩

set_option maxRecDepth 100000 in
set_option maxHeartbeats 2000000 in
theorem refSort_any {w : World} {v : Value} {l : List Rc} (h : IsR w v l) (hmax : l.length ≤ 100000) :
    Calls Try.prog 23 #[v] w fun e w' => ∃ v', e = .returned v' ∧ RowR w' v' (sortR [] l) ∧ Below w.heap.size w w' := by
  obtain ⟨a, cap, rfl, hcap⟩ := h.form
  have HI := hide h
  have R0 := hide (rowR_empty w)
  have B0 : Hid (Below w.heap.size w (w.alloc (.cells #[] 44))) := (Below.refl _ w).alloc (Nat.le_refl _) _
  clear h
  go_enter Try.func23, Try.ntmps23
  go_wp2
  go_loopw [3, 4] (fun vo vi wr => ∃ i : Nat, vi = .int .i64 i ∧ i ≤ l.length ∧ Hid (RowR wr vo (sortR [] (l.take i))) ∧ Hid (Below w.heap.size w wr)) (fun _ vi _ => l.length + 1 - numOf vi)
  case atStart => exact ⟨0, by first | rfl | go_num, Nat.zero_le _, R0.out, B0.out⟩
  case round =>
    obtain ⟨i, rfl, hi, HR, HB⟩ := hrel
    have hw1 : IntKind.i64.wrap ((i : Int) + 1) = (i : Int) + 1 := i64_small _ (by omega) (by omega)
    by_cases hil : i < l.length
    · obtain ⟨b, off, rfl, d1, d2⟩ := HI.out.read HB.out i hil
      obtain ⟨x, hx⟩ : ∃ x, x = l[i]! := ⟨_, rfl⟩
      rw [← hx] at d1 d2
      have hox : okR x := by rw [hx]; exact HI.out.okAt i hil
      have HX := hide (And.intro hx hox)
      clear hx hox
      obtain ⟨x1, x2⟩ := x
      simp only at d1 d2
      go_wp2_with fail
      refine (refPut_any HR.out.isR (sortR_rises (by simp [Rises]) _) (by rw [sortR_length]; simp; omega) x1 x2 HX.out.2).mono ?_
      rintro e w3 ⟨v3, rfl, r3, b3, n3⟩
      have R3 := hide r3
      have B3 := hide b3
      clear r3 b3 n3
      go_wp2
      go_roundw
      case rel =>
        refine ⟨i + 1, by go_num, by omega, ?_, below_then HB.out B3.out⟩
        have := R3.out
        rw [HX.out.1, sortR_snoc _ _ _ hil] at this
        exact this
      case measure => simp [numOf]; omega
    · obtain rfl : i = l.length := by omega
      go_wp2
      go_ret
      refine ⟨_, rfl, ?_, HB.out⟩
      have := HR.out
      rw [List.take_length] at this
      exact this

theorem i64_and65535 (n : Int) : bits .and .i64 n 65535 = n % 65536 := by
  have hm : (BitVec.ofInt 64 65535).toNat = 2 ^ 16 - 1 := by decide
  have key : (BitVec.ofInt 64 n &&& BitVec.ofInt 64 65535).toNat = (n % ((2 ^ 64 : Nat) : Int)).toNat % 2 ^ 16 := by
    rw [BitVec.toNat_and, BitVec.toNat_ofInt, hm, Nat.and_two_pow_sub_one_eq_mod]
  show IntKind.i64.wrap ((BitVec.ofInt 64 n &&& BitVec.ofInt 64 65535).toNat : Nat) = n % 65536
  rw [key, IntKind.wrap_i64]
  omega

theorem IsR.take {w : World} {a : Option Addr} {n cap : Nat} {l : List Rc} (h : IsR w (.slice a n cap) l) (k : Nat) (hk : k ≤ l.length) : IsR w (.slice a k cap) (l.take k) := by
  obtain ⟨a', cap', e, h1, h2, h3, h4⟩ := h
  simp only [Value.slice.injEq] at e
  obtain ⟨rfl, rfl, rfl⟩ := e
  have hl : (l.take k).length = k := by rw [List.length_take]; omega
  refine ⟨a, cap, by rw [hl], by omega, fun e => ⟨by rw [(h2 e).1]; simp, (h2 e).2⟩, fun x hx j u hu => ?_, fun e he => h4 e (List.mem_of_mem_take he)⟩
  rw [flatR_take] at hu
  have hj : j < k * 2 := by
    have := (List.getElem?_eq_some_iff.1 hu).1
    simp at this
    omega
  rw [List.getElem?_take_of_lt hj] at hu
  exact h3 x hx j u hu

theorem insR_head {x : Rc} {S : List Rc} (h : Rises (x :: S)) : insR x S = x :: S :=
  Rises.unique (insR_rises _ (List.pairwise_cons.1 h).2) h (insR_perm _ _)

end Go.Proofs.Ytbppjbdcgcmjiaa
