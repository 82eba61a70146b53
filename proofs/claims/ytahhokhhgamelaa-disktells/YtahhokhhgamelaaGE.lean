/-
  Lemma texts, one behind the other: RDisk, RUsed, RFind, RNew, RArm, RRow, RCut. No statement of the seat is proved here.
-/
import Derived.Test.YtahhokhhgamelaaGD
namespace Go.Proofs.Ytahhokhhgamelaa
open Go.RowKit Go.Maps Go.Sort Go.Shelf

/-- A file of the document's disk: its name, and its two slices. -/
abbrev Rf := ByteArray × Value × Value
/-- The cells of files. -/
def rcells (fs : List Rf) : List Value := fs.flatMap fun f => [.string f.1, f.2.1, f.2.2]

theorem rcells_length (fs : List Rf) : (rcells fs).length = fs.length * 3 := by
  induction fs with
  | nil => rfl
  | cons f fs ih =>
    simp only [rcells, List.flatMap_cons, List.length_append, List.length_cons, List.length_nil] at ih ⊢
    omega

theorem rcells_at (fs : List Rf) (i : Nat) (h : i < fs.length) : (rcells fs)[i * 3]? = some (.string fs[i].1) ∧ (rcells fs)[i * 3 + 1]? = some fs[i].2.1 ∧ (rcells fs)[i * 3 + 2]? = some fs[i].2.2 := by
  induction fs generalizing i with
  | nil => simp at h
  | cons f fs ih =>
    have e : rcells (f :: fs) = [.string f.1, f.2.1, f.2.2] ++ rcells fs := rfl
    cases i with
    | zero => simp [e]
    | succ i =>
      have := ih i (by simpa using h)
      have e3 : ∀ c, (rcells (f :: fs))[(i + 1) * 3 + c]? = (rcells fs)[i * 3 + c]? := fun c => by
        rw [e, List.getElem?_append_right (by simp; omega)]
        congr 1
        simp
        omega
      refine ⟨?_, ?_, ?_⟩
      · have := e3 0
        simp only [Nat.add_zero] at this
        rw [this]
        simpa using (ih i (by simpa using h)).1
      · rw [e3 1]
        simpa using (ih i (by simpa using h)).2.1
      · rw [e3 2]
        simpa using (ih i (by simpa using h)).2.2

/-- What a file is. -/
def isF (w : World) (f : Rf) (x : Ab) : Prop := f.1.data.toList = x.1 ∧ IsB w f.2.1 x.2.1 ∧ IsB w f.2.2 x.2.2

/-- The blocks of the document's disk. -/
def rfeet (r : Nat) (lv kv : Value) (fs : List Rf) : List Nat := r :: own lv ++ own kv ++ fs.flatMap fun f => own f.2.1 ++ own f.2.2

/-- The document's disk in memory, in block r: its files in the row lv. -/
structure RefAt (w : World) (r : Nat) (lv kv : Value) (fs : List Rf) (l : List Ab) (ks : List Bool) (room ops armed : Int) (down : Bool) : Prop where
  cells : w.heap[r]? = some (.cells #[.int .i64 room, lv, .int .i64 ops, .int .i64 armed, kv, .bool down] 51 (0, 0))
  row : w.ownsRow 0 81 3 lv fs.length (rcells fs)
  long : fs.length = l.length
  files : ∀ i (h : i < fs.length) (h' : i < l.length), isF w fs[i] l[i]
  keep : IsK w kv ks
  apart : r ∉ own lv
  low : ∀ x ∈ rfeet r lv kv fs, x < w.heap.size
  free : ∀ x ∈ r :: own lv, x ∉ own kv ∧ ∀ f ∈ fs, x ∉ own f.2.1 ∧ x ∉ own f.2.2

section
variable {w : World} {r : Nat} {lv kv : Value} {fs : List Rf} {l : List Ab} {ks : List Bool} {room ops armed : Int} {down : Bool}

theorem RefAt.cellAt (h : RefAt w r lv kv fs l ks room ops armed down) : w.cell? ⟨r, 0, none⟩ = some (.int .i64 room) ∧ w.cell? ⟨r, 1, none⟩ = some lv ∧ w.cell? ⟨r, 2, none⟩ = some (.int .i64 ops) ∧ w.cell? ⟨r, 3, none⟩ = some (.int .i64 armed) ∧ w.cell? ⟨r, 4, none⟩ = some kv ∧ w.cell? ⟨r, 5, none⟩ = some (.bool down) := by
  refine ⟨?_, ?_, ?_, ?_, ?_, ?_⟩ <;> simp [World.cell?, h.cells]

theorem RefAt.len (h : RefAt w r lv kv fs l ks room ops armed down) : fs.length = l.length := h.long

theorem RefAt.form (h : RefAt w r lv kv fs l ks room ops armed down) : (lv = .slice none 0 0 ∧ fs = []) ∨ ∃ g cap, lv = .slice (some ⟨g, 0, none⟩) fs.length cap := by
  rcases h.row.2 with ⟨rfl, h0⟩ | ⟨g, cap, cur, rfl, _⟩
  · exact .inl ⟨rfl, List.eq_nil_of_length_eq_zero h0⟩
  · exact .inr ⟨g, cap, rfl⟩

theorem RefAt.slice (h : RefAt w r lv kv fs l ks room ops armed down) : ∃ a cap, lv = .slice a fs.length cap := by
  rcases h.form with ⟨rfl, rfl⟩ | ⟨g, cap, rfl⟩
  · exact ⟨_, _, rfl⟩
  · exact ⟨_, _, rfl⟩

/-- The cells of one file. -/
theorem RefAt.fileAt (h : RefAt w r lv kv fs l ks room ops armed down) (i : Nat) (hi : i < fs.length) : ∃ g cap, lv = .slice (some ⟨g, 0, none⟩) fs.length cap ∧ w.cell? ⟨g, i * 3, none⟩ = some (.string fs[i].1) ∧ w.cell? ⟨g, i * 3 + 1, none⟩ = some fs[i].2.1 ∧ w.cell? ⟨g, i * 3 + 2, none⟩ = some fs[i].2.2 := by
  rcases h.form with ⟨_, rfl⟩ | ⟨g, cap, rfl⟩
  · simp at hi
  · have hc := World.ownsRow.cells h.row (g := g) rfl
    obtain ⟨e0, e1, e2⟩ := rcells_at fs i hi
    have c0 := hc _ _ e0
    have c1 := hc _ _ e1
    have c2 := hc _ _ e2
    rw [Addr.add_lit, Nat.zero_add] at c0 c1 c2
    exact ⟨g, cap, rfl, c0, c1, c2⟩

theorem isF.kept {w' : World} {fp : List Nat} {f : Rf} {x : Ab} (h : isF w f x) (hk : Kept fp w w') (hf : ∀ y ∈ own f.2.1 ++ own f.2.2, y ∉ fp) : isF w' f x :=
  ⟨h.1, h.2.1.kept hk (fun _ y hy => hf y (by simp only [List.mem_append]; exact .inl hy)), h.2.2.kept hk (fun _ y hy => hf y (by simp only [List.mem_append]; exact .inr hy))⟩

/-- The disk stays, if none of its blocks is written. -/
theorem RefAt.kept {w' : World} {fp : List Nat} (h : RefAt w r lv kv fs l ks room ops armed down) (hk : Kept fp w w') (hf : ∀ x ∈ rfeet r lv kv fs, x ∉ fp) : RefAt w' r lv kv fs l ks room ops armed down := by
  refine ⟨?_, ownsRow_kept h.row hk (fun y hy => hf y ?_), h.long, fun i h1 h2 => (h.files i h1 h2).kept hk (fun y hy => hf y ?_), h.keep.kept hk (fun _ y hy => hf y ?_), h.apart, fun x hx => Nat.lt_of_lt_of_le (h.low x hx) hk.size, h.free⟩
  · rw [hk.block r (h.low r (by simp [rfeet])) (hf r (by simp [rfeet]))]
    exact h.cells
  · simp only [rfeet, List.mem_append, List.mem_cons]
    exact .inl (.inl (.inr hy))
  · simp only [rfeet, List.mem_append, List.mem_flatMap]
    exact .inr ⟨_, List.getElem_mem h1, by simpa only [List.mem_append] using hy⟩
  · simp only [rfeet, List.mem_append]
    exact .inl (.inr hy)

/-- Its own block alone is written, and its row stays. -/
theorem RefAt.put {w' : World} {room' ops' armed' : Int} {down' : Bool} (h : RefAt w r lv kv fs l ks room ops armed down) (hk : Kept [r] w w') (hc : w'.heap[r]? = some (.cells #[.int .i64 room', lv, .int .i64 ops', .int .i64 armed', kv, .bool down'] 51 (0, 0))) : RefAt w' r lv kv fs l ks room' ops' armed' down' := by
  have hr := h.free r (by simp)
  refine ⟨hc, ownsRow_kept h.row hk ?_, h.long, fun i h1 h2 => (h.files i h1 h2).kept hk ?_, h.keep.kept hk ?_, h.apart, fun x hx => Nat.lt_of_lt_of_le (h.low x hx) hk.size, h.free⟩
  · intro y hy e
    simp only [List.mem_singleton] at e
    subst e
    exact h.apart hy
  · intro y hy e
    simp only [List.mem_singleton] at e
    subst e
    have := hr.2 _ (List.getElem_mem h1)
    simp only [List.mem_append] at hy
    rcases hy with hy | hy
    · exact this.1 hy
    · exact this.2 hy
  · intro _ y hy e
    simp only [List.mem_singleton] at e
    subst e
    exact hr.1 hy

end

theorem refSectors_any (n : Nat) (h : n ≤ 1099511627776) (w : World) : Calls Try.prog 62 #[.int .i64 n] w fun e w' => e = .returned (.int .i64 (sec n)) ∧ w' = w := by
  have e := sec_eq n
  go_enter Try.func62, Try.ntmps62
  go_wp2
  go_ret
  rw [e]
  exact ⟨rfl, rfl⟩

theorem refMay_any (s : ByteArray) (hs : s.size ≤ maxLen) (w : World) : Calls Try.prog 48 #[.string s] w fun e w' => e = .returned (.bool (mayB s.data.toList)) ∧ w' = w := by
  unfold maxLen at hs
  have hm : mayB s.data.toList = (decide (1 ≤ s.size) && decide (s.size ≤ 24)) := by simp [mayB]
  rw [hm]
  clear hm
  by_cases h1 : 1 ≤ s.size
  · by_cases h2 : s.size ≤ 24
    · go_enter Try.func48, Try.ntmps48
      go_wp2
      go_ret
      simp [h1, h2]
      omega
    · go_enter Try.func48, Try.ntmps48
      go_wp2
      go_ret
      simp [h1, h2]
      omega
  · go_enter Try.func48, Try.ntmps48
    go_wp2
    go_ret
    simp

end Go.Proofs.Ytahhokhhgamelaa

namespace Go.Proofs.Ytahhokhhgamelaa
open Go.RowKit Go.Maps Go.Sort Go.Shelf

theorem take_snocA (l : List Ab) (k : Nat) (h : k < l.length) : usedB (l.take (k + 1)) = usedB (l.take k) + sec l[k].2.1.length := by
  rw [List.take_add_one, List.getElem?_eq_getElem h]
  exact usedB_snoc _ _

section
variable {w : World} {r : Nat} {lv kv : Value} {fs : List Rf} {l : List Ab} {ks : List Bool} {room ops armed : Int} {down : Bool}

set_option maxRecDepth 100000 in
set_option maxHeartbeats 4000000 in
theorem refUsed_any (h : RefAt w r lv kv fs l ks room ops armed down) (hl : ∀ x ∈ l, x.2.1.length ≤ 1099511627776) (hu : usedB l ≤ 1099511627776) (hf : l.length ≤ 1099511627776) :
    Calls Try.prog 43 #[.pointer (some ⟨r, 0, none⟩)] w fun e w' => e = .returned (.int .i64 (usedB l)) ∧ w' = w := by
  have H := hide h
  obtain ⟨a, cap, hlv⟩ := h.slice
  have c1 := h.cellAt.2.1
  have hlen := h.len
  subst hlv
  rw [hlen] at c1
  have HL := hide hl
  have HLEN := hide hlen
  obtain ⟨R, hR⟩ : ∃ R, R = usedB l := ⟨_, rfl⟩
  rw [← hR] at hu ⊢
  have HR := hide hR
  clear h hl hlen hR
  go_enter Try.func43, Try.ntmps43
  go_wp2
  go_loopw [3, 4] (fun n i wr => ∃ (k : Nat) (u : Int), k ≤ l.length ∧ 0 ≤ u ∧ u ≤ R ∧ n = .int .i64 u ∧ i = .int .i64 k ∧ Hid (u = usedB (l.take k)) ∧ wr = w) (fun _ i _ => l.length - (intOf i).toNat)
  case atStart => exact ⟨0, 0, Nat.zero_le _, by omega, by rw [HR.out]; exact usedB_nonneg l, rfl, rfl, by simp [Hid, usedB], rfl⟩
  case round =>
    obtain ⟨k, u, hk, hu0, huR, rfl, rfl, HU, rfl⟩ := hrel
    by_cases hlt : k < l.length
    · obtain ⟨g, cap', he, d0, d1, d2⟩ := H.out.fileAt k (by rw [HLEN.out]; exact hlt)
      simp only [Value.slice.injEq, true_and] at he
      obtain ⟨rfl, rfl⟩ := he
      obtain ⟨_, hn, _⟩ := H.out.files k (by rw [HLEN.out]; exact hlt) hlt
      obtain ⟨na, nc, hne, _⟩ := hn.form
      rw [hne] at d1
      have hm := HL.out l[k] (List.getElem_mem hlt)
      have hsn := take_snocA l k hlt
      have htk := usedB_take l (k + 1)
      rw [hsn, ← HU.out, ← HR.out] at htk
      obtain ⟨m, hme⟩ : ∃ m, m = l[k].2.1.length := ⟨_, rfl⟩
      rw [← hme] at d1 hm hsn htk
      have HSN := hide hsn
      have hs0 := sec_nonneg m
      clear hsn hne hn d0 d2 hme
      go_wp2_with fail
      refine (refSectors_any m hm _).mono ?_
      rintro e w1 ⟨rfl, rfl⟩
      go_wp2
      go_roundw
      case rel => exact ⟨k + 1, u + sec m, by omega, by omega, htk, by go_num, by go_num, by rw [Hid, HSN.out, HU.out], trivial⟩
      case measure => simp [intOf]; omega
    · have e : u = R := by rw [HU.out, HR.out, List.take_of_length_le (by omega)]
      subst e
      go_wp2
      go_ret
      exact ⟨rfl, rfl⟩
end

end Go.Proofs.Ytahhokhhgamelaa

namespace Go.Proofs.Ytahhokhhgamelaa
open Go.RowKit Go.Maps Go.Sort Go.Shelf

theorem str_ne {a b : ByteArray} (h : ¬ a = b) : (a.toList == b.toList) = false := by
  rw [beq_eq_false_iff_ne]
  intro e
  rw [ByteArray.toList_eq, ByteArray.toList_eq] at e
  apply h
  cases a
  cases b
  simp at e
  rw [e]

/-- The place of a name; -1: there is none. -/
def placeA (l : List Ab) (n : List UInt8) : Int := match l.findIdx? (fun x => x.1 == n) with
  | some k => (k : Int)
  | none => -1

theorem placeA_at (l : List Ab) (n : List UInt8) (k : Nat) (hk : k < l.length) (h : l[k].1 = n) (hj : ∀ j (h : j < l.length), j < k → l[j].1 ≠ n) : placeA l n = k := by
  have : l.findIdx? (fun x => x.1 == n) = some k := by
    rw [List.findIdx?_eq_some_iff_getElem]
    exact ⟨hk, by simpa using h, fun j hjk => by simpa using hj j (by omega) hjk⟩
  rw [placeA, this]

theorem placeA_no (l : List Ab) (n : List UInt8) (hj : ∀ j (h : j < l.length), l[j].1 ≠ n) : placeA l n = -1 := by
  have : l.findIdx? (fun x => x.1 == n) = none := by
    rw [List.findIdx?_eq_none_iff]
    intro x hx
    obtain ⟨j, hj2, rfl⟩ := List.getElem_of_mem hx
    simpa using hj j hj2
  rw [placeA, this]

section
variable {w : World} {r : Nat} {lv kv : Value} {fs : List Rf} {l : List Ab} {ks : List Bool} {room ops armed : Int} {down : Bool}

set_option maxRecDepth 100000 in
set_option maxHeartbeats 4000000 in
theorem refFind_any (h : RefAt w r lv kv fs l ks room ops armed down) (hf : l.length ≤ 1099511627776) (nm : ByteArray) :
    Calls Try.prog 49 #[.pointer (some ⟨r, 0, none⟩), .string nm] w fun e w' => e = .returned (.int .i64 (placeA l nm.data.toList)) ∧ w' = w := by
  have H := hide h
  obtain ⟨a, cap, hlv⟩ := h.slice
  have c1 := h.cellAt.2.1
  have hlen := h.len
  subst hlv
  rw [hlen] at c1
  have HLEN := hide hlen
  obtain ⟨R, hR⟩ : ∃ R, R = placeA l nm.data.toList := ⟨_, rfl⟩
  rw [← hR]
  have HR := hide hR
  clear h hlen hR
  go_enter Try.func49, Try.ntmps49
  go_wp2
  go_loopw [5] (fun i wr => ∃ k : Nat, k ≤ l.length ∧ i = .int .i64 k ∧ Hid (∀ j (h : j < l.length), j < k → l[j].1 ≠ nm.data.toList) ∧ wr = w) (fun i _ => l.length - (intOf i).toNat)
  case atStart => exact ⟨0, Nat.zero_le _, rfl, fun j _ hj => absurd hj (Nat.not_lt_zero _), rfl⟩
  case round =>
    obtain ⟨k, hk, rfl, HN, rfl⟩ := hrel
    by_cases hlt : k < l.length
    · obtain ⟨g, cap', he, d0, d1, d2⟩ := H.out.fileAt k (by rw [HLEN.out]; exact hlt)
      simp only [Value.slice.injEq, true_and] at he
      obtain ⟨rfl, rfl⟩ := he
      obtain ⟨hnm, _, _⟩ := H.out.files k (by rw [HLEN.out]; exact hlt) hlt
      obtain ⟨t, ht⟩ : ∃ t, t = (fs[k]'(by rw [HLEN.out]; exact hlt)).1 := ⟨_, rfl⟩
      rw [← ht] at d0 hnm
      have HT := hide hnm
      clear hnm ht d1 d2
      by_cases he : t = nm
      · have hr : R = k := by rw [HR.out]; exact placeA_at l _ k hlt (by rw [← HT.out, he]) HN.out
        subst hr
        subst he
        go_wp2
        go_ret
        exact ⟨rfl, rfl⟩
      · have hne : Hid (∀ j (h : j < l.length), j < k + 1 → l[j].1 ≠ nm.data.toList) := by
          intro j hj hjk e
          by_cases e2 : j = k
          · subst e2
            apply he
            have := HT.out.trans e
            cases t; cases nm
            simp only [ByteArray.mk.injEq]
            exact Array.toList_inj.1 this
          · exact HN.out j hj (by omega) e
        have hbq := str_ne he
        go_wp2
        go_roundw
        case rel => exact ⟨k + 1, by omega, by go_num, hne, trivial⟩
        case measure => simp [intOf]; omega
    · have e : R = -1 := by rw [HR.out]; exact placeA_no l _ (fun j hj => HN.out j hj (by omega))
      subst e
      go_wp2
      go_ret
      exact ⟨rfl, rfl⟩
end

end Go.Proofs.Ytahhokhhgamelaa

namespace Go.Proofs.Ytahhokhhgamelaa
open Go.RowKit Go.Maps Go.Sort Go.Shelf

set_option maxRecDepth 100000 in
set_option maxHeartbeats 1000000 in
theorem refNew_any (room : Int) (w : World) : Calls Try.prog 14 #[.int .i64 room] w fun e w' => e = .returned (.pointer (some ⟨w.heap.size, 0, none⟩)) ∧
    RefAt w' w.heap.size (.slice none 0 0) (.slice none 0 0) [] [] [] (max room 0) 0 0 false ∧ Below w.heap.size w w' := by
  have hmax : ∀ (ts : Array TypeId) (t : TypeId) (W : World), (Builtin.max_ ts t #[.int .i64 0, .int .i64 room]).run Try.prog W = .ok (.int .i64 (max room 0)) W := by
    intro ts t W
    rw [run_max_int2]
    congr 2
    split <;> omega
  go_enter Try.func14, Try.ntmps14
  go_wp2
  go_ret
  refine ⟨by simp, ⟨?_, World.ownsRow_nil _ _ _ _, rfl, fun i h => absurd h (Nat.not_lt_zero _), IsK.nil _, by simp [own, Value.ownBlock], by simp [rfeet, own, Value.ownBlock], by simp [own, Value.ownBlock]⟩, ?_⟩
  · exact heap_alloc_new w _
  · exact (Below.refl _ _).alloc (Nat.le_refl _) _

end Go.Proofs.Ytahhokhhgamelaa

namespace Go.Proofs.Ytahhokhhgamelaa
open Go.RowKit Go.Maps Go.Sort Go.Shelf

/-- Its own block alone is written, with another slice of truths. -/
theorem RefAt.putK {w w' : World} {r : Nat} {lv kv kv' : Value} {fs : List Rf} {l : List Ab} {ks ks' : List Bool} {room ops armed room' ops' armed' : Int} {down down' : Bool} (h : RefAt w r lv kv fs l ks room ops armed down) (hk : Kept [r] w w') (hc : w'.heap[r]? = some (.cells #[.int .i64 room', lv, .int .i64 ops', .int .i64 armed', kv', .bool down'] 51 (0, 0)))
    (hkv : IsK w' kv' ks') (hkl : ∀ x ∈ own kv', x < w'.heap.size) (hnew : ∀ x ∈ own kv', x ∉ r :: own lv) : RefAt w' r lv kv' fs l ks' room' ops' armed' down' := by
  have hr := h.free r (by simp)
  refine ⟨hc, ownsRow_kept h.row hk ?_, h.long, fun i h1 h2 => (h.files i h1 h2).kept hk ?_, hkv, h.apart, ?_, fun x hx => ⟨fun e => hnew x e hx, (h.free x hx).2⟩⟩
  · intro y hy e
    simp only [List.mem_singleton] at e
    subst e
    exact h.apart hy
  · intro y hy e
    simp only [List.mem_singleton] at e
    subst e
    have := hr.2 _ (List.getElem_mem h1)
    simp only [List.mem_append] at hy
    rcases hy with hy | hy
    · exact this.1 hy
    · exact this.2 hy
  · intro x hx
    simp only [rfeet, List.mem_append] at hx
    rcases hx with (hx | hx) | hx
    · exact Nat.lt_of_lt_of_le (h.low x (by simp only [rfeet, List.mem_append]; exact .inl (.inl hx))) hk.size
    · exact hkl x hx
    · exact Nat.lt_of_lt_of_le (h.low x (by simp only [rfeet, List.mem_append]; exact .inr hx)) hk.size

theorem RefAt.row_lt {w : World} {r : Nat} {lv kv : Value} {fs : List Rf} {l : List Ab} {ks : List Bool} {room ops armed : Int} {down : Bool} (h : RefAt w r lv kv fs l ks room ops armed down) : ∀ x ∈ r :: own lv, x < w.heap.size := by
  exact fun x hx => h.low x (by simp only [rfeet, List.mem_append]; exact .inl (.inl hx))

theorem armKept {w W1 w3 : World} {o : Obj} {a : Addr} {x : Value} (hW : W1 = w.setCell a x) (he : W1.heap.size = w.heap.size) (h : Kept (own (.slice (some ⟨w.heap.size, 0, none⟩) 0 0)) ((w.setCell a x).alloc o) w3) : Kept [] W1 w3 := by
  rw [← hW] at h
  refine ((Kept.refl [] W1).alloc o).trans h (fun y hy => .inr ?_)
  simp [own, Value.ownBlock] at hy
  omega

set_option maxRecDepth 100000 in
set_option maxHeartbeats 2000000 in
theorem refArm_any {w : World} {r : Nat} {lv kv : Value} {fs : List Rf} {l : List Ab} {ks : List Bool} {room ops armed : Int} {down : Bool} (h : RefAt w r lv kv fs l ks room ops armed down) (n : Int) (u : Value) (ls : List Bool) (hu : IsK w u ls) (hur : ls ≠ [] → ∀ x ∈ own u, x ≠ r) (hl : ls.length ≤ 1099511627776) :
    Calls Try.prog 39 #[.pointer (some ⟨r, 0, none⟩), .int .i64 n, u] w fun e w' => e = .returned (.tuple #[]) ∧
    ∃ kv', RefAt w' r lv kv' fs l ls room ops (max n 0) down ∧ Kept [r] w w' ∧ (∀ x ∈ own kv', w.heap.size ≤ x) := by
  have hmax : ∀ (ts : Array TypeId) (t : TypeId) (W : World), (Builtin.max_ ts t #[.int .i64 0, .int .i64 n]).run Try.prog W = .ok (.int .i64 (max n 0)) W := by
    intro ts t W
    rw [run_max_int2]
    congr 2
    split <;> omega
  obtain ⟨c0, c1, c2, c3, c4, c5⟩ := h.cellAt
  have hz := fun o => frozen_of_heap h.cells o
  obtain ⟨W1, hW1⟩ : ∃ W1, W1 = w.setCell ⟨r, 3, none⟩ (.int .i64 (max n 0)) := ⟨_, rfl⟩
  have k1 : Kept [r] w W1 := by rw [hW1]; exact (Kept.refl _ w).setCell (p := ⟨r, 3, none⟩) (.inl (by simp)) _
  have e1 : W1.heap.size = w.heap.size := by rw [hW1]; simp [World.setCell]
  have d1 : RefAt W1 r lv kv fs l ks room ops (max n 0) down := by
    refine h.put k1 ?_
    rw [hW1]
    have e := heap_setCell h.cells 3 (.int .i64 (max n 0))
    simpa using e
  have u1 : IsK W1 u ls := hu.kept k1 (fun hne x hx => by simp; exact hur hne x hx)
  have u2 : IsK (W1.alloc (.cells #[] 4)) u ls := u1.below ((Below.refl _ W1).alloc (Nat.le_refl _) _)
  have r2 : RowK (W1.alloc (.cells #[] 4)) (.slice (some ⟨W1.heap.size, 0, none⟩) 0 0) [] := World.ownsRow_made W1 #[] 0 (Nat.zero_le _) (by unfold maxLen; omega) rfl
  rw [e1, hW1] at r2
  rw [hW1] at u2
  have U2 := hide u2
  have R2 := hide r2
  have D1 := hide d1
  have K1 := hide k1
  have E1 := hide e1
  have HW := hide hW1
  have hz3 := hz 3
  obtain ⟨ua, uc, rfl, _⟩ := hu
  clear h hz d1 k1 e1 hW1 r2 u1 u2
  go_enter Try.func39, Try.ntmps39
  go_wp2_with (at_builtin; refine wp_appendK _ rfl _ _ rfl (.slice (some ⟨w.heap.size, 0, none⟩) 0 0) (.slice ua ls.length uc) [] ls rfl R2.out rfl U2.out (by simp; omega) ?_; intro v3 w3 r3 k3 n3; simp only [List.nil_append] at r3; obtain ⟨a3, cp3, rfl⟩ := keepForm r3; have R3 := hide r3; have N3 := hide n3; have K3 := hide k3; have k13 := armKept HW.out E1.out k3; have D3 := hide (D1.out.kept k13 (by simp)); have K13 := hide k13; have f4 := D3.out.cellAt.2.2.2.2.1; have z4 := frozen_of_heap D3.out.cells 4; clear r3 n3 k3 k13)
  go_end0
  have k4 : Kept [r] w3 (w3.setCell ⟨r, 4, none⟩ (.slice a3 ls.length cp3)) := (Kept.refl _ w3).setCell (p := ⟨r, 4, none⟩) (.inl (by simp)) _
  have hnw : ∀ x ∈ own (.slice a3 ls.length cp3), w.heap.size ≤ x := fun x hx => by
    rcases N3.out x hx with e | e
    · simp [own, Value.ownBlock] at e
      omega
    · simp [World.setCell] at e
      omega
  have hlt := D1.out.row_lt
  have hrl : ∀ x ∈ own (.slice a3 ls.length cp3), x ∉ r :: own lv := fun x hx e => by
    have h1 := hnw x hx
    have h2 := hlt x e
    rw [E1.out] at h2
    omega
  refine ⟨rfl, .slice a3 ls.length cp3, D3.out.putK k4 ?_ (R3.out.isK.kept k4 (fun _ x hx e => hrl x hx (by simp at e; simp [e]))) (fun x hx => Nat.lt_of_lt_of_le (R3.out.lt x hx) k4.size) hrl, (K1.out.trans K13.out (Newly.of_sub (by simp))).trans k4 (Newly.refl _ _), hnw⟩
  have e := heap_setCell D3.out.cells 4 (.slice a3 ls.length cp3)
  simpa using e

end Go.Proofs.Ytahhokhhgamelaa

namespace Go.Proofs.Ytahhokhhgamelaa
open Go.RowKit Go.Maps Go.Sort Go.Shelf

/-- A row of files of its own. -/
def RowF (w : World) (v : Value) (fs : List Rf) : Prop := w.ownsRow 0 81 3 v fs.length (rcells fs)
/-- A slice that holds files. -/
def IsF (w : World) (v : Value) (fs : List Rf) : Prop :=
  ∃ a cap, v = .slice a fs.length cap ∧ (a = none → fs = [] ∧ cap = 0) ∧ (∀ x, a = some x → ∀ j u, (rcells fs)[j]? = some u → w.cell? (x.add j) = some u) ∧ ∀ u ∈ rcells fs, u.oneCell' = true

theorem Try.infoFile : (Try.prog.info? 81).map (fun i => (i.zero, i.size, i.bytes)) = some (some (.agg #[.string ByteArray.empty, .slice none 0 0, .slice none 0 0]), 3, 64) := by kernel_rfl

theorem rcells_append (fs gs : List Rf) : rcells (fs ++ gs) = rcells fs ++ rcells gs := by simp [rcells]

theorem RowF.append {w : World} {v x : Value} {fs gs : List Rf} (h : RowF w v fs) (hx : IsF w x gs) (hlen : fs.length + gs.length ≤ 1099511627776) (ty : TypeId) :
    ∃ v' w', (Builtin.append_ #[49, 49] ty #[v, x]).run Try.prog w = .ok v' w' ∧ RowF w' v' (fs ++ gs) ∧ Kept (own v) w w' ∧ Newly w (own v) (own v') := by
  obtain ⟨i0, hi, hz0, hz1, hz2⟩ := info_parts Try.infoFile
  obtain ⟨ad, c, rfl, h2, h3, h4⟩ := hx
  cases ad with
  | none =>
    obtain ⟨rfl, rfl⟩ := h2 rfl
    have hrun := run_append_owned_none (P := Try.prog) (w := w) 0 49 ty 81 i0 3 Try.underlying49 hi _ _ _ h
    exact ⟨v, w, hrun, by simpa using h, Kept.refl _ _, Newly.refl _ _⟩
  | some ad =>
    obtain ⟨v', w', hr, ho, hg, hn, hat⟩ := run_append_own_at (P := Try.prog) w 0 49 ty 81 i0 _ 3 64 Try.underlying49 hi hz0 hz1 hz2 rfl (by decide) v fs.length _ h ad gs.length c (rcells gs) (rcells_length gs) (h3 ad rfl) h4 (by unfold maxLen; omega) (by omega) (Nat.zero_le _)
    refine ⟨v', w', hr, ?_, Kept.of_grown hg, ?_⟩
    · unfold RowF
      rw [rcells_append, List.length_append]
      exact ho
    · intro y hy
      rcases hat with e | e
      · exact .inl (by simpa [own, e] using hy)
      · simp [own, e] at hy
        subst hy
        exact .inr (Nat.le_refl _)

section
variable {ops : Array Oper} {rest : List Oper} {o : Oper} {a : Act} {Q : Exit → Act → World → Prop}

theorem wp_appendF (w : World) (hgd : o.guard = none) (s x : Operand) (ho : o.op = .call { callee := .builtin .append, args := #[s, x], argTypes := #[49, 49] })
    (v u : Value) (fs gs : List Rf) (hs : a.eval s = v) (hrow : RowF w v fs) (hx : a.eval x = u) (hu : IsF w u gs) (hlen : fs.length + gs.length ≤ 1099511627776)
    (h : ∀ v' w', RowF w' v' (fs ++ gs) → Kept (own v) w w' → Newly w (own v) (own v') → wpList Try.prog ops Q rest (a.put o.dst v') w') :
    wpList Try.prog ops Q (o :: rest) a w := by
  refine wpList_plain hgd fun K hK => ?_
  obtain ⟨v', w', hr, h2, h3, h4⟩ := hrow.append hu hlen o.type
  unfold Oper.wp execOp
  simp only [ho, resolve, invoke, builtin, Sem.run_bind, Sem.run_pure, Result.andThen_ok, List.map_toArray, List.map_cons, List.map_nil, hs, hx, hr]
  exact hK _ _ (h v' w' h2 h3 h4)
end

/-- A row of files, from its start up to a place, and from a place on. -/
theorem rcells_take (fs : List Rf) (k : Nat) : rcells (fs.take k) = (rcells fs).take (k * 3) := by
  induction fs generalizing k with
  | nil => simp [rcells]
  | cons f fs ih =>
    cases k with
    | zero => simp [rcells]
    | succ k =>
      have e : ∀ gs : List Rf, rcells (f :: gs) = .string f.1 :: f.2.1 :: f.2.2 :: rcells gs := fun _ => rfl
      rw [List.take_succ_cons, e, e, ih, show (k + 1) * 3 = k * 3 + 1 + 1 + 1 by omega, List.take_succ_cons, List.take_succ_cons, List.take_succ_cons]
theorem rcells_drop (fs : List Rf) (k : Nat) : rcells (fs.drop k) = (rcells fs).drop (k * 3) := by
  induction fs generalizing k with
  | nil => simp [rcells]
  | cons f fs ih =>
    cases k with
    | zero => simp
    | succ k =>
      have e : ∀ gs : List Rf, rcells (f :: gs) = .string f.1 :: f.2.1 :: f.2.2 :: rcells gs := fun _ => rfl
      rw [List.drop_succ_cons, e, ih, show (k + 1) * 3 = k * 3 + 1 + 1 + 1 by omega, List.drop_succ_cons, List.drop_succ_cons, List.drop_succ_cons]

end Go.Proofs.Ytahhokhhgamelaa

namespace Go.Proofs.Ytahhokhhgamelaa
open Go.RowKit Go.Maps Go.Sort Go.Shelf

section
variable {w : World} {r : Nat} {lv kv : Value} {fs : List Rf} {l : List Ab} {ks : List Bool} {room ops armed : Int} {down : Bool}

theorem RefAt.ones (h : RefAt w r lv kv fs l ks room ops armed down) : ∀ u ∈ rcells fs, u.oneCell' = true := by
  intro u hu
  simp only [rcells, List.mem_flatMap] at hu
  obtain ⟨f, hf, hu⟩ := hu
  obtain ⟨i, hi, rfl⟩ := List.getElem_of_mem hf
  obtain ⟨_, h1, h2⟩ := h.files i hi (by rw [← h.long]; exact hi)
  obtain ⟨a1, c1, e1, _⟩ := h1.form
  obtain ⟨a2, c2, e2, _⟩ := h2.form
  simp only [List.mem_cons, List.not_mem_nil, or_false] at hu
  rcases hu with rfl | rfl | rfl
  · rfl
  · rw [e1]; rfl
  · rw [e2]; rfl

/-- The row up to a place. -/
theorem RefAt.takeF (h : RefAt w r lv kv fs l ks room ops armed down) (k : Nat) (hk : k ≤ fs.length) {a : Option Addr} {n cap : Nat} (e : lv = .slice a n cap) : IsF w (.slice a k cap) (fs.take k) := by
  refine ⟨a, cap, by rw [List.length_take, Nat.min_eq_left hk], ?_, ?_, ?_⟩
  · intro e0
    rcases h.form with ⟨e2, rfl⟩ | ⟨g, c2, e2⟩
    · rw [e2] at e
      simp only [Value.slice.injEq] at e
      exact ⟨by simp, e.2.2.symm⟩
    · rw [e2] at e
      simp only [Value.slice.injEq] at e
      rw [← e.1] at e0
      cases e0
  · intro x hx j u hu
    rw [rcells_take] at hu
    rcases h.form with ⟨e2, rfl⟩ | ⟨g, c2, e2⟩
    · simp [rcells] at hu
    · have hj : j < k * 3 := by
        have := (List.getElem?_eq_some_iff.1 hu).1
        simp at this
        omega
      rw [List.getElem?_take_of_lt hj] at hu
      have hc := World.ownsRow.cells h.row (g := g) (by rw [e2]; rfl) j u hu
      rw [e2] at e
      simp only [Value.slice.injEq] at e
      rw [hx] at e
      simp only [Option.some.injEq] at e
      rw [← e.1]
      exact hc
  · intro u hu
    rw [rcells_take] at hu
    exact h.ones u (List.mem_of_mem_take hu)

/-- The row from a place on, behind which there is room. -/
theorem RefAt.dropF (h : RefAt w r lv kv fs l ks room ops armed down) (k : Nat) (hk : k ≤ fs.length) {g n cap : Nat} (e : lv = .slice (some ⟨g, 0, none⟩) n cap) :
    IsF w (.slice (if cap = k then some ⟨g, 0, none⟩ else some ((⟨g, 0, none⟩ : Addr).add (k * 3))) (fs.length - k) (cap - k)) (fs.drop k) := by
  have hcap : fs.length ≤ cap := by
    rcases h.row.2 with ⟨e2, _⟩ | ⟨g2, cap2, cur, e2, hb, hg, hn, _⟩
    · rw [e] at e2; cases e2
    · rw [e] at e2; simp only [Value.slice.injEq] at e2; omega
  refine ⟨_, _, by rw [List.length_drop], ?_, ?_, ?_⟩
  · intro e0
    split at e0 <;> cases e0
  · intro x hx j u hu
    rw [rcells_drop, List.getElem?_drop] at hu
    have hc := World.ownsRow.cells h.row (g := g) (by rw [e]; rfl) _ u hu
    split at hx
    · have := (List.getElem?_eq_some_iff.1 hu).1
      rw [rcells_length] at this
      omega
    · simp only [Option.some.injEq] at hx
      rw [← hx]
      rw [Addr.add_lit] at hc
      rw [Addr.add_lit, Addr.add_lit, Nat.add_assoc]
      exact hc
  · intro u hu
    rw [rcells_drop] at hu
    exact h.ones u (List.mem_of_mem_drop hu)

/-- Another row of files. -/
theorem RefAt.putL {w' : World} {lv' : Value} {gs : List Rf} {m : List Ab} {ops' armed' : Int} {down' : Bool} (h : RefAt w r lv kv fs l ks room ops armed down) (hk : Kept [r] w w') (hc : w'.heap[r]? = some (.cells #[.int .i64 room, lv', .int .i64 ops', .int .i64 armed', kv, .bool down'] 51 (0, 0)))
    (hrow : RowF w' lv' gs) (hlong : gs.length = m.length) (hfiles : ∀ i (h : i < gs.length) (h' : i < m.length), isF w' gs[i] m[i]) (hnew : ∀ x ∈ own lv', x ∉ r :: own kv ∧ ∀ f ∈ gs, x ∉ own f.2.1 ∧ x ∉ own f.2.2) (hr : ∀ f ∈ gs, r ∉ own f.2.1 ∧ r ∉ own f.2.2) (hlow : ∀ f ∈ gs, ∀ x ∈ own f.2.1 ++ own f.2.2, x < w'.heap.size) : RefAt w' r lv' kv gs m ks room ops' armed' down' := by
  have h0 := h.free r (by simp)
  refine ⟨hc, hrow, hlong, hfiles, h.keep.kept hk ?_, fun e => (hnew r e).1 (by simp), ?_, ?_⟩
  · intro _ y hy e
    simp only [List.mem_singleton] at e
    subst e
    exact h0.1 hy
  · intro x hx
    simp only [rfeet, List.mem_append, List.mem_cons, List.mem_flatMap] at hx
    rcases hx with ((rfl | hx) | hx) | ⟨f, hf, hx⟩
    · exact Nat.lt_of_lt_of_le (h.low x (by simp [rfeet])) hk.size
    · exact (World.ownsRow.lt hrow x (by simpa [own] using hx)).2
    · exact Nat.lt_of_lt_of_le (h.low x (by simp only [rfeet, List.mem_append]; exact .inl (.inr hx))) hk.size
    · exact hlow f hf x (by simpa only [List.mem_append] using hx)
  · intro x hx
    rcases List.mem_cons.1 hx with e | e
    · subst e
      exact ⟨h0.1, hr⟩
    · exact ⟨fun e2 => (hnew x e).1 (by simp only [List.mem_cons]; exact .inr e2), (hnew x e).2⟩
end

section
variable {ops : Array Oper} {o : Oper} {a : Act} {Q : Exit → Act → World → Prop}

/-- 'append(row, fs...)' of files, in a drawn region. -/
theorem step_appendF {K : Act → World → Prop} {E : Prop} (w : World) (hgd : o.guard = none) (s x : Operand) (ho : o.op = .call { callee := .builtin .append, args := #[s, x], argTypes := #[49, 49] })
    (v u : Value) (fs gs : List Rf) (hs : a.eval s = v) (hrow : RowF w v fs) (hx : a.eval x = u) (hu : IsF w u gs) (hlen : fs.length + gs.length ≤ 1099511627776)
    (h : ∀ v' w', RowF w' v' (fs ++ gs) → Kept (own v) w w' → Newly w (own v) (own v') → K (a.put o.dst v') w') :
    if Region.wanted o (yielded ops a.tmps) = true then Oper.wp Try.prog o a w K Q else E := by
  have hw : Region.wanted o (yielded ops a.tmps) = true := by simp [Region.wanted, hgd]
  rw [if_pos hw]
  obtain ⟨v', w', hr, h2, h3, h4⟩ := hrow.append hu hlen o.type
  unfold Oper.wp execOp
  simp only [ho, resolve, invoke, builtin, Sem.run_bind, Sem.run_pure, Result.andThen_ok, List.map_toArray, List.map_cons, List.map_nil, hs, hx, hr]
  exact h v' w' h2 h3 h4
end

end Go.Proofs.Ytahhokhhgamelaa
