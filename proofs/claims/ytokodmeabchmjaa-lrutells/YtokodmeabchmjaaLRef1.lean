/-
  The document's cache in memory: New, find, Has. A lemma file: no statement of the seat is proved here.
-/
import Derived.Test.YtokodmeabchmjaaLSort
import Derived.Test.YtokodmeabchmjaaLAbs
namespace Go.Proofs.Ytokodmeabchmjaa
open Go.RowKit Go.Maps Go.Sort

/-- The document's cache in block r: its keys in the row lv, how often each is pinned in the row pv. -/
structure RefL (w : World) (r : Nat) (lv pv : Value) (fr : Int) (l : List (ByteArray × Nat)) : Prop where
  cells : w.heap[r]? = some (.cells #[.int .i64 fr, lv, pv] 39 (0, 0))
  keys : w.ownsRow 0 9 1 lv l.length (l.map fun x => .string x.1)
  pins : w.ownsRow 0 3 1 pv l.length (l.map fun x => .int .i64 x.2)
  apartL : r ∉ own lv
  apartP : r ∉ own pv
  apart : ∀ x ∈ own lv, x ∉ own pv

/-- Its blocks. -/
def lfeet (r : Nat) (lv pv : Value) : List Nat := r :: own lv ++ own pv

section
variable {w w' : World} {r : Nat} {lv pv : Value} {fr : Int} {l : List (ByteArray × Nat)}

theorem RefL.kept {fp : List Nat} (h : RefL w r lv pv fr l) (hk : Kept fp w w') (hf : ∀ x ∈ lfeet r lv pv, x ∉ fp) : RefL w' r lv pv fr l :=
  ⟨hk.heap h.cells (hf r (by simp [lfeet])), ownsRow_kept h.keys hk (fun x hx => hf x (by simp [lfeet, hx])), ownsRow_kept h.pins hk (fun x hx => hf x (by simp [lfeet, hx])), h.apartL, h.apartP, h.apart⟩

theorem RefL.low (h : RefL w r lv pv fr l) : ∀ x ∈ lfeet r lv pv, x < w.heap.size := by
  intro x hx
  simp only [lfeet, List.cons_append, List.mem_cons, List.mem_append] at hx
  rcases hx with rfl | hx | hx
  · exact (Array.getElem?_eq_some_iff.1 h.cells).1
  · exact (World.ownsRow.lt h.keys x (by simpa [own] using hx)).2
  · exact (World.ownsRow.lt h.pins x (by simpa [own] using hx)).2

theorem RefL.cellAt (h : RefL w r lv pv fr l) : w.cell? ⟨r, 0, none⟩ = some (.int .i64 fr) ∧ w.cell? ⟨r, 1, none⟩ = some lv ∧ w.cell? ⟨r, 2, none⟩ = some pv := by
  refine ⟨?_, ?_, ?_⟩ <;> simp [World.cell?, h.cells]

theorem RefL.formL (h : RefL w r lv pv fr l) : ∃ a cap, lv = .slice a l.length cap := by
  rcases h.keys.2 with ⟨e, h0⟩ | ⟨g, cap, cur, e, _⟩
  · exact ⟨none, 0, by rw [e, h0]⟩
  · exact ⟨_, cap, e⟩
theorem RefL.formP (h : RefL w r lv pv fr l) : ∃ a cap, pv = .slice a l.length cap := by
  rcases h.pins.2 with ⟨e, h0⟩ | ⟨g, cap, cur, e, _⟩
  · exact ⟨none, 0, by rw [e, h0]⟩
  · exact ⟨_, cap, e⟩

theorem RefL.keyAt {a : Option Addr} {cap : Nat} (h : RefL w r (.slice a l.length cap) pv fr l) {k : Nat} (hk : k < l.length) : ∃ g, a = some ⟨g, 0, none⟩ ∧ w.cell? ⟨g, k, none⟩ = some (.string l[k].1) := by
  rcases h.keys.2 with ⟨e, h0⟩ | ⟨g, cap2, cur, e, _⟩
  · omega
  · simp only [Value.slice.injEq] at e
    obtain ⟨rfl, _, rfl⟩ := e
    have hc := World.ownsRow.cells h.keys (g := g) rfl k (.string l[k].1) (by simp [hk])
    simp only [Addr.add_lit, Nat.zero_add] at hc
    exact ⟨g, rfl, hc⟩

theorem RefL.pinAt {a : Option Addr} {cap : Nat} (h : RefL w r lv (.slice a l.length cap) fr l) {k : Nat} (hk : k < l.length) : ∃ g, a = some ⟨g, 0, none⟩ ∧ w.cell? ⟨g, k, none⟩ = some (.int .i64 l[k].2) ∧ w.frozen? ⟨g, k, none⟩ = false := by
  rcases h.pins.2 with ⟨e, h0⟩ | ⟨g, cap2, cur, e, _, hg, _⟩
  · omega
  · simp only [Value.slice.injEq] at e
    obtain ⟨rfl, _, rfl⟩ := e
    have hc := World.ownsRow.cells h.pins (g := g) rfl k (.int .i64 l[k].2) (by simp [hk])
    simp only [Addr.add_lit, Nat.zero_add] at hc
    exact ⟨g, rfl, hc, frozen_of_heap hg k⟩

end

theorem str_ne {a b : ByteArray} (h : ¬ a = b) : (a.toList == b.toList) = false := by
  rw [beq_eq_false_iff_ne]
  intro e
  rw [ByteArray.toList_eq, ByteArray.toList_eq] at e
  apply h
  cases a
  cases b
  simp at e
  rw [e]

/-- The place of a key; -1: there is none. -/
def placeL (l : List (ByteArray × Nat)) (n : ByteArray) : Int := match l.findIdx? (fun x => decide (x.1 = n)) with
  | some k => (k : Int)
  | none => -1

theorem placeL_at (l : List (ByteArray × Nat)) (n : ByteArray) (k : Nat) (hk : k < l.length) (h : l[k].1 = n) (hj : ∀ j (h : j < l.length), j < k → l[j].1 ≠ n) : placeL l n = k := by
  have : l.findIdx? (fun x => decide (x.1 = n)) = some k := by
    rw [List.findIdx?_eq_some_iff_getElem]
    exact ⟨hk, by simpa using h, fun j hjk => by simpa using hj j (by omega) hjk⟩
  rw [placeL, this]

theorem placeL_no (l : List (ByteArray × Nat)) (n : ByteArray) (hj : ∀ j (h : j < l.length), l[j].1 ≠ n) : placeL l n = -1 := by
  have : l.findIdx? (fun x => decide (x.1 = n)) = none := by
    rw [List.findIdx?_eq_none_iff]
    intro x hx
    obtain ⟨j, hj2, rfl⟩ := List.getElem_of_mem hx
    simpa using hj j hj2
  rw [placeL, this]

set_option maxRecDepth 100000 in
set_option maxHeartbeats 1000000 in
theorem refNewL (fr : Int) (w : World) : Calls Try.prog 12 #[.int .i64 fr] w fun e w' => e = .returned (.pointer (some ⟨w.heap.size, 0, none⟩)) ∧
    RefL w' w.heap.size (.slice none 0 0) (.slice none 0 0) (max fr 1) [] ∧ Below w.heap.size w w' := by
  have hmax : ∀ (ts : Array TypeId) (t : TypeId) (W : World), (Builtin.max_ ts t #[.int .i64 1, .int .i64 fr]).run Try.prog W = .ok (.int .i64 (max fr 1)) W := by
    intro ts t W
    rw [run_max_int2]
    congr 2
    split <;> omega
  go_enter Try.func12, Try.ntmps12
  go_wp2
  go_ret
  refine ⟨by simp, ⟨?_, World.ownsRow_nil _ _ _ _, World.ownsRow_nil _ _ _ _, by simp [own, Value.ownBlock], by simp [own, Value.ownBlock], by simp [own, Value.ownBlock]⟩, ?_⟩
  · exact heap_alloc_new w _
  · exact (Below.refl _ _).alloc (Nat.le_refl _) _

section
variable {w : World} {r : Nat} {lv pv : Value} {fr : Int} {l : List (ByteArray × Nat)}

set_option maxRecDepth 100000 in
set_option maxHeartbeats 4000000 in
theorem refFindL (h : RefL w r lv pv fr l) (hf : l.length ≤ 1000) (nm : ByteArray) :
    Calls Try.prog 37 #[.pointer (some ⟨r, 0, none⟩), .string nm] w fun e w' => e = .returned (.int .i64 (placeL l nm)) ∧ w' = w := by
  have H := hide h
  obtain ⟨a, cap, hlv⟩ := h.formL
  have c1 := h.cellAt.2.1
  subst hlv
  obtain ⟨R, hR⟩ : ∃ R, R = placeL l nm := ⟨_, rfl⟩
  rw [← hR]
  have HR := hide hR
  clear h hR
  go_enter Try.func37, Try.ntmps37
  go_wp2
  go_loopw [5] (fun i wr => ∃ k : Nat, k ≤ l.length ∧ i = .int .i64 k ∧ Hid (∀ j (h : j < l.length), j < k → l[j].1 ≠ nm) ∧ wr = w) (fun i _ => l.length - numOf i)
  case atStart => exact ⟨0, Nat.zero_le _, rfl, fun j _ hj => absurd hj (Nat.not_lt_zero _), rfl⟩
  case round =>
    obtain ⟨k, hk, rfl, HN, rfl⟩ := hrel
    by_cases hlt : k < l.length
    · obtain ⟨g, rfl, d0⟩ := H.out.keyAt hlt
      obtain ⟨t, ht⟩ : ∃ t, t = l[k].1 := ⟨_, rfl⟩
      rw [← ht] at d0
      have HT := hide ht
      clear ht
      by_cases he : t = nm
      · have hr : R = k := by rw [HR.out]; exact placeL_at l _ k hlt (by rw [← HT.out, he]) HN.out
        subst hr
        subst he
        go_wp2
        go_ret
        exact ⟨rfl, rfl⟩
      · have hne : Hid (∀ j (h : j < l.length), j < k + 1 → l[j].1 ≠ nm) := by
          intro j hj hjk e
          by_cases e2 : j = k
          · subst e2
            exact he (HT.out.trans e)
          · exact HN.out j hj (by omega) e
        have hbq := str_ne he
        go_wp2
        go_roundw
        case rel => exact ⟨k + 1, by omega, by go_num, hne, trivial⟩
        case measure => simp [numOf]; omega
    · have e : R = -1 := by rw [HR.out]; exact placeL_no l _ (fun j hj => HN.out j hj (by omega))
      subst e
      go_wp2
      go_ret
      exact ⟨rfl, rfl⟩

theorem placeL_look (l : List (ByteArray × Nat)) (n : ByteArray) : (placeL l n = -1 ∧ lookA l n = none) ∨ ∃ (k : Nat) (h : k < l.length), placeL l n = k ∧ l[k].1 = n ∧ lookA l n = some l[k].2 := by
  unfold placeL lookA
  cases hq : l.findIdx? (fun x => decide (x.1 = n)) with
  | none =>
    refine .inl ⟨rfl, ?_⟩
    rw [List.findIdx?_eq_none_iff] at hq
    rw [Option.map_eq_none_iff, List.find?_eq_none]
    intro x hx
    simp only [hq x hx]
    simp
  | some k =>
    obtain ⟨hk, h1, h2⟩ := List.findIdx?_eq_some_iff_getElem.1 hq
    refine .inr ⟨k, hk, rfl, of_decide_eq_true h1, ?_⟩
    have : l.find? (fun x => decide (x.1 = n)) = some l[k] := by
      rw [List.find?_eq_some_iff_getElem]
      exact ⟨h1, k, hk, rfl, fun j hj => by simpa using h2 j hj⟩
    rw [this]
    rfl

set_option maxRecDepth 100000 in
set_option maxHeartbeats 1000000 in
theorem refHasL (h : RefL w r lv pv fr l) (hf : l.length ≤ 1000) (nm : ByteArray) :
    Calls Try.prog 24 #[.pointer (some ⟨r, 0, none⟩), .string nm] w fun e w' => e = .returned (.bool (lookA l nm).isSome) ∧ w' = w := by
  have FD := hide (refFindL h hf nm)
  clear h
  rcases placeL_look l nm with ⟨e, hl⟩ | ⟨k, hk, e, _, hl⟩
  · rw [e] at FD
    rw [hl]
    clear e hl
    go_enter Try.func24, Try.ntmps24
    go_wp2_with (go_at_call 37; refine FD.out.mono ?_; rintro e w1 ⟨rfl, rfl⟩)
    go_ret
    exact ⟨rfl, rfl⟩
  · rw [e] at FD
    rw [hl]
    clear e hl
    have h0 : (0 : Int) ≤ (k : Int) := by omega
    go_enter Try.func24, Try.ntmps24
    go_wp2_with (go_at_call 37; refine FD.out.mono ?_; rintro e w1 ⟨rfl, rfl⟩)
    go_ret
    exact ⟨by simp, rfl⟩

end

end Go.Proofs.Ytokodmeabchmjaa
