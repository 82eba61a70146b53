/-
  slices.Sorted of numbers, against whatever iterator. A lemma file: no statement of the seat is proved here.
-/
import Derived.Test.YtokodmeabchmjaaLSmall
import Derived.Test.YtokodmeabchmjaaLColl
namespace Go.Proofs.Ytokodmeabchmjaa
open Go.RowKit Go.Sort Go.Maps

/-- slices.Sort sorts rows of at most m numbers, no two alike. -/
def SortsTo (m : Nat) : Prop := ∀ (g cap : Nat) (d : Array Nat) (w : World), Holds encN w g 0 d → d.size ≤ m → g < w.heap.size → d.toList.Nodup →
  Calls Try.prog 57 #[.slice (some ⟨g, 0, none⟩) d.size cap] w fun e w' => e = .returned (.tuple #[]) ∧ Sorted w g d 0 d.size w'

theorem sortsTo12 : SortsTo 12 := fun _ _ _ _ h hs _ _ => sort_small h hs

theorem ins_nil (w : World) : Calls Try.prog 66 #[.slice none 0 0, .int .i64 0, .int .i64 0] w fun e w' => e = .returned (.tuple #[]) ∧ w' = w := by
  go_enter Try.func66, Try.ntmps66
  go_wp2
  go_loopw [6] (fun v wr => v = .int .i64 1 ∧ wr = w) (fun _ _ => 0)
  case atStart => exact ⟨rfl, rfl⟩
  case round =>
    obtain ⟨rfl, rfl⟩ := hrel
    go_wp2
    go_end0
    exact ⟨rfl, rfl⟩

set_option maxRecDepth 100000 in
set_option maxHeartbeats 4000000 in
theorem pdq_nil (l : Int) (w : World) : Calls Try.prog 63 #[.slice none 0 0, .int .i64 0, .int .i64 0, .int .i64 l] w fun e w' => e = .returned (.tuple #[]) ∧ w' = w := by
  have IA := hide (ins_nil w)
  go_enter Try.func63, Try.ntmps63
  go_wp2_with fail
  go_loopw [1, 2] (fun v1 v2 wr => v1 = .int .i64 0 ∧ v2 = .int .i64 0 ∧ wr = w) (fun _ _ _ => 0)
  case atStart => exact ⟨rfl, rfl, rfl⟩
  case round =>
    obtain ⟨rfl, rfl, rfl⟩ := hrel
    go_wp2_with (go_at_call 66; refine IA.out.mono ?_; rintro e w1 ⟨rfl, rfl⟩)
    refine bodyPost_ret (results_none rfl _ _ _) rfl ?_
    exact ⟨rfl, rfl⟩

set_option maxRecDepth 100000 in
theorem sort_nil (w : World) : Calls Try.prog 57 #[.slice none 0 0] w fun e w' => e = .returned (.tuple #[]) ∧ w' = w := by
  have PS := hide (fun l => pdq_nil l w)
  have LN := hide (fun W => len_any 0 (by omega) W)
  go_enter Try.func57, Try.ntmps57
  go_wp2_with (first | (go_at_call 64; refine (LN.out _).mono ?_; rintro e w0 ⟨rfl, rfl⟩) | (go_at_call 63; refine (PS.out _).mono ?_; rintro e w1 ⟨rfl, rfl⟩))
  go_end0
  exact ⟨rfl, rfl⟩

/-- A slice of numbers that holds ss. -/
def IsU (w : World) (base : Nat) (v : Value) (ss : List Nat) : Prop := (v = .slice none 0 0 ∧ ss = []) ∨ ∃ g cap, v = .slice (some ⟨g, 0, none⟩) ss.length cap ∧ base ≤ g ∧ g < w.heap.size ∧ ∀ i (h : i < ss.length), w.cell? ⟨g, i, none⟩ = some (.int .u64 ss[i])

theorem IsU.form {w : World} {base : Nat} {v : Value} {ss : List Nat} (h : IsU w base v ss) : ∃ a cap, v = .slice a ss.length cap := by
  rcases h with ⟨rfl, rfl⟩ | ⟨g, cap, rfl, _⟩
  · exact ⟨none, 0, rfl⟩
  · exact ⟨_, cap, rfl⟩

theorem IsU.at_ {w : World} {base cap : Nat} {a : Option Addr} {ss : List Nat} (h : IsU w base (.slice a ss.length cap) ss) {i : Nat} (hi : i < ss.length) : ∃ g, a = some ⟨g, 0, none⟩ ∧ base ≤ g ∧ g < w.heap.size ∧ w.cell? ⟨g, i, none⟩ = some (.int .u64 ss[i]) := by
  rcases h with ⟨_, rfl⟩ | ⟨g, cap, he, h1, h2, h3⟩
  · simp at hi
  · simp only [Value.slice.injEq, true_and] at he
    exact ⟨g, he.1, h1, h2, h3 i hi⟩

theorem holds_row {w : World} {g cap : Nat} {cur : Array Value} {ss : List Nat} (hg : w.heap[g]? = some (.cells cur 56 (0, 0))) (ht : cur.toList.take ss.length = ss.map encU) (_ : ss.length ≤ cap) : Holds encN w g 0 ss.toArray := by
  intro j hj
  have hj2 : j < ss.length := by simpa using hj
  rw [Nat.zero_add]
  refine ⟨?_, frozen_of_heap hg j⟩
  rw [cell_of_heap hg j]
  have h1 : (cur.toList.take ss.length)[j]? = cur[j]? := by
    rw [List.getElem?_take_of_lt hj2]
    simp
  rw [← h1, ht]
  simp [hj2, encN, encU]

theorem perm_of_permIn {d d' : Array Nat} (h : PermIn 0 d.size d d') : d'.toList.Perm d.toList := by
  have h3 := h.2.2
  have e1 : d.extract 0 d.size = d := by simp
  have e2 : d'.extract 0 d.size = d' := by rw [← h.1]; simp
  rw [e1, e2] at h3
  exact h3

theorem sorted_of {d : Array Nat} (h : SortedIn ltN 0 d.size d) : d.toList.Pairwise (· ≤ ·) := by
  rw [List.pairwise_iff_getElem]
  intro i j hi hj hij
  have := h i j (Nat.zero_le _) hij (by simpa using hj)
  simp only [ltN, decide_eq_false_iff_not] at this
  rw [getElem!_pos d j (by simpa using hj), getElem!_pos d i (by simpa using hi)] at this
  simp only [Array.getElem_toList]
  omega

set_option maxRecDepth 100000 in
set_option maxHeartbeats 4000000 in
theorem sorted_any {m : Nat} (hm : SortsTo m) (hm2 : m ≤ 1000000) (g : Nat) (lb : Array Value) (eg : ∀ args w, (callFunc g args).run Try.prog w = .ok (.enter g args) w)
    (S : List Nat → Prop) (N : Nat) (hN : N ≤ m) (hS : ∀ ss, S ss → ss.length ≤ N ∧ ss.Nodup) (w : World) (hseq : SeqStopsK Fence.wide 3 Try.prog g lb (fun x : Nat => #[Value.int .u64 x]) KeepsWalks S (fun _ => True) N w) :
    Calls Try.prog 42 #[.func (.func g) #[] lb] w fun e w' => ∃ v ss ss', e = .returned v ∧ S ss' ∧ ss.Perm ss' ∧ ss.Pairwise (· ≤ ·) ∧ IsU w' w.heap.size v ss ∧ Below w.heap.size w w' := by
  have CL := hide (callsIn_wide.1 (collect_in 5 (by omega) g lb eg S N (by omega) w hseq))
  have SN := hide (fun W => sort_nil W)
  have HS := hide hS
  have HM := hide hm
  have HN := hide hN
  clear hseq hS hm
  go_enter Try.func42, Try.ntmps42
  go_wp2_with (go_at_call 56; refine CL.out.mono ?_; rintro e w1 ⟨v, ss, rfl, s1, r1, b1⟩; have S1 := hide s1; have R1 := hide r1; have B1 := hide b1; clear s1 r1 b1)
  rcases R1.out.2 with ⟨hv, h0⟩ | ⟨gb, cap, cur, hv, hbase, hgb, q1, q2, q3, q4⟩
  · subst hv
    have hss : ss = [] := List.eq_nil_of_length_eq_zero h0
    have HSS := hide hss
    clear hss h0
    go_wp2_with (go_at_call 57; refine (SN.out _).mono ?_; rintro e w2 ⟨rfl, rfl⟩)
    go_ret
    exact ⟨_, [], ss, rfl, S1.out, by rw [HSS.out], List.Pairwise.nil, .inl ⟨rfl, rfl⟩, B1.out⟩
  · subst hv
    have hH : Holds encN w1 gb 0 ss.toArray := holds_row hgb (by simpa using q4) q1
    have hlt := (Array.getElem?_eq_some_iff.1 hgb).1
    have hsm := HM.out gb cap ss.toArray w1 hH (by simpa using Nat.le_trans (HS.out ss S1.out).1 HN.out) hlt (HS.out ss S1.out).2
    have e1 : (ss.toArray).size = ss.length := by simp
    rw [e1] at hsm
    have SM := hide hsm
    have HB := hide (And.intro hbase hlt)
    clear hsm hH hgb q1 q2 q3 q4 e1 hbase hlt
    go_wp2_with (go_at_call 57; refine SM.out.mono ?_; rintro e w2 ⟨rfl, t2⟩; have T2 := hide t2; clear t2)
    go_ret
    obtain ⟨d', p1, p2, p3, p4⟩ := T2.out
    have e2 : ss.length = (ss.toArray).size := by simp
    rw [e2] at p1 p2
    have e3 : d'.size = ss.length := by rw [p1.1]; simp
    have hp := perm_of_permIn p1
    rw [← p1.1] at p2
    have hk := Kept.below (B := w.heap.size) p4 B1.out.size (by simpa using HB.out.1)
    refine ⟨_, d'.toList, ss, rfl, S1.out, by simpa using hp, sorted_of p2, .inr ⟨gb, cap, by have e4 : d'.toList.length = ss.length := (by simpa using e3); rw [e4]; rfl, HB.out.1, Nat.lt_of_lt_of_le HB.out.2 p4.size, fun i hi => ?_⟩, B1.out.trans hk⟩
    have hi2 : i < d'.size := by simpa using hi
    have := (p3 i hi2).1
    rw [Nat.zero_add] at this
    rw [this, getElem!_pos d' i hi2]
    simp [encN]

end Go.Proofs.Ytokodmeabchmjaa
