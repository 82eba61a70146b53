/-
  Lemma texts, one behind the other: DMem, DSmall. No statement of the seat is proved here.
-/
import Derived.Test.YtdhajmgpakconaaGA
import Derived.Maps.OwnSet
import Derived.Maps.AppendAt
import Derived.Laws.LoneSync
import Derived.Deep.QuietTactic
import Derived.BigQuiet
namespace Go.Proofs.Ytdhajmgpakconaa
open Go.RowKit Go.Maps

/-! ### Files -/

/-- A file in memory: its name, its block, the two slices, and what they hold. -/
structure Fl where
  name : List UInt8
  blk : Nat
  vn : Value
  vs : Value
  now : List Int
  syn : List Int

/-- The blocks of a file. -/
def foot (f : Fl) : List Nat := f.blk :: (own f.vn ++ own f.vs)

structure FileAt (w : World) (f : Fl) : Prop where
  cells : w.heap[f.blk]? = some (.cells #[f.vn, f.vs] 77 (0, 0))
  rnow : RowB w f.vn f.now
  rsyn : RowB w f.vs f.syn
  apart : (foot f).Nodup

theorem FileAt.lt {w : World} {f : Fl} (h : FileAt w f) : ∀ x ∈ foot f, x < w.heap.size := by
  intro x hx
  simp only [foot, List.mem_cons, List.mem_append] at hx
  rcases hx with rfl | hx | hx
  · exact (Array.getElem?_eq_some_iff.1 h.cells).1
  · exact h.rnow.lt x hx
  · exact h.rsyn.lt x hx

theorem FileAt.kept {fp : List Nat} {w w' : World} {f : Fl} (h : FileAt w f) (hk : Kept fp w w') (hf : ∀ x ∈ foot f, x ∉ fp) : FileAt w' f :=
  ⟨(hk.block _ (h.lt _ (by simp [foot])) (hf _ (by simp [foot]))).trans h.cells, h.rnow.kept hk (fun x hx => hf x (by simp only [foot, List.mem_cons, List.mem_append]; exact .inr (.inl hx))), h.rsyn.kept hk (fun x hx => hf x (by simp only [foot, List.mem_cons, List.mem_append]; exact .inr (.inr hx))), h.apart⟩

/-- A block of cells, read and marked. -/
theorem cell_of_heap {w : World} {b : Nat} {cs : Array Value} {t : TypeId} {m : Nat × Nat} (h : w.heap[b]? = some (.cells cs t m)) (o : Nat) : w.cell? ⟨b, o, none⟩ = cs[o]? := by simp [World.cell?, h]
theorem frozen_of_heap {w : World} {b : Nat} {cs : Array Value} {t : TypeId} (h : w.heap[b]? = some (.cells cs t (0, 0))) (o : Nat) : w.frozen? ⟨b, o, none⟩ = false := by simp [World.frozen?, h]
theorem heap_setCell {w : World} {b : Nat} {cs : Array Value} {t : TypeId} {m : Nat × Nat} (h : w.heap[b]? = some (.cells cs t m)) (o : Nat) (v : Value) : (w.setCell ⟨b, o, none⟩ v).heap[b]? = some (.cells (cs.setIfInBounds o v) t m) := by
  simp [World.setCell, Array.getElem?_modify, h]

/-! ### Disks -/

/-- How a pointer to a file reads: as its block's number. -/
def ptrE (v : Value) : Option (DataW Unit × List MemPlace) :=
  match v with
  | .pointer none => some (.nil, [])
  | .pointer (some a) => if a = ⟨a.block, 0, none⟩ then some (.lit (.int .i64 a.block), []) else none
  | _ => none

theorem ptrE_none : ptrE (.pointer none) = some (.nil, []) := rfl
theorem ptrE_some (b : Nat) : ptrE (.pointer (some ⟨b, 0, none⟩)) = some (.lit (.int .i64 b), []) := by simp [ptrE]

theorem ptrE_inv_nil {v : Value} {ps : List MemPlace} (h : ptrE v = some (.nil, ps)) : v = .pointer none := by
  unfold ptrE at h
  split at h
  · rfl
  · split at h <;> simp at h
  · simp at h

theorem ptrE_inv {v : Value} {b : Nat} {ps : List MemPlace} (h : ptrE v = some (.lit (.int .i64 b), ps)) : v = .pointer (some ⟨b, 0, none⟩) := by
  unfold ptrE at h
  split at h
  · simp at h
  · split at h
    · rename_i a e
      simp at h
      rw [e]
      congr 3
      omega
    · simp at h
  · simp at h

/-- The file of a name. -/
def look (fs : List Fl) (n : List UInt8) : Option Fl := fs.find? (fun f => f.name == n)

/-- The datum D is the map of these files' names to their blocks. -/
structure MapIs (D : DataW Unit) (fs : List Fl) : Prop where
  at_ : ∀ n, D.atKey (.string n) .nil = match look fs n with | some f => .lit (.int .i64 f.blk) | none => .nil
  has : ∀ n, Maps.has D (.string n) = (look fs n).isSome
  size : Maps.size D = fs.length

/-- The slice v, nil or a row of its own, holds these truths. -/
def RowK (w : World) (v : Value) (ks : List Bool) : Prop := w.ownsRow 0 4 1 v ks.length (ks.map Value.bool)

theorem RowK.kept {fp : List Nat} {w w' : World} {v : Value} {ks : List Bool} (h : RowK w v ks) (hk : Kept fp w w') (hf : ∀ x ∈ own v, x ∉ fp) : RowK w' v ks := ownsRow_kept h hk hf
theorem RowK.lt {w : World} {v : Value} {ks : List Bool} (h : RowK w v ks) : ∀ x ∈ own v, x < w.heap.size := fun x hx => (World.ownsRow.lt h x (by simpa [own] using hx)).2

/-- What a disk has beside its files. -/
structure Ds where
  room : Int
  used : Int
  ops : Int
  down : Bool
  left : Int
  keep : List Bool

/-- The disk's own block. -/
def diskCells (bm : Nat) (kv : Value) (s : Ds) : Array Value := #[.map (some bm), .int .i64 s.room, .int .i64 s.used, .int .i64 s.ops, .bool s.down, .int .i64 s.left, kv]

/-- The blocks of a disk. -/
def feet (p bm : Nat) (kv : Value) (fs : List Fl) : List Nat := p :: bm :: (own kv ++ fs.flatMap foot)

structure DiskAt (w : World) (p bm : Nat) (kv : Value) (fs : List Fl) (s : Ds) : Prop where
  cells : w.heap[p]? = some (.cells (diskCells bm kv s) 70 (0, 0))
  map : ∃ D, w.ownsMap Try.prog 9 ptrE bm fs.length D ∧ MapIs D fs
  files : ∀ f ∈ fs, FileAt w f
  keep : RowK w kv s.keep
  apart : (feet p bm kv fs).Nodup
  sorted : fs.Pairwise (fun f g => f.name < g.name)

end Go.Proofs.Ytdhajmgpakconaa

namespace Go.Proofs.Ytdhajmgpakconaa
open Go.RowKit Go.Maps

/-- How many sectors so many bytes need. -/
def sec (n : Nat) : Int := ((n + 15) / 16 : Nat)

theorem sec_eq (n : Nat) : sec n = ((n : Int) + 15) / 16 := by unfold sec; omega

theorem sectors_any (n : Nat) (h : n ≤ 1099511627776) (w : World) : Calls Try.prog 34 #[.int .i64 n] w fun e w' => e = .returned (.int .i64 (sec n)) ∧ w' = w := by
  rw [sec_eq]
  go_enter Try.func34, Try.ntmps34
  go_wp2
  go_ret
  refine ⟨?_, rfl⟩
  have e : (n : Int) + 16 - 1 = n + 15 := by omega
  rw [← e]
  rfl

/-- May a name be? -/
def mayB (s : List UInt8) : Bool := decide (1 ≤ s.length) && decide (s.length ≤ 24)

theorem mayBe_any (s : ByteArray) (hs : s.size ≤ maxLen) (w : World) : Calls Try.prog 39 #[.string s] w fun e w' => e = .returned (.bool (mayB s.data.toList)) ∧ w' = w := by
  unfold maxLen at hs
  have hm : mayB s.data.toList = (decide (1 ≤ s.size) && decide (s.size ≤ 24)) := by simp [mayB]
  rw [hm]
  clear hm
  by_cases h1 : 1 ≤ s.size
  · by_cases h2 : s.size ≤ 24
    · go_enter Try.func39, Try.ntmps39
      go_wp2
      go_ret
      simp [h1, h2]
      omega
    · go_enter Try.func39, Try.ntmps39
      go_wp2
      go_ret
      simp [h1, h2]
      omega
  · go_enter Try.func39, Try.ntmps39
    go_wp2
    go_ret
    simp

theorem Try.addInt64 {a : Addr} {x y s : Int} {w : World} (hc : w.cell? a = some (.int .i64 x)) (hz : w.frozen? a = false) (hs : IntKind.i64.wrap (x + y) = s) :
    (callFunc 67 #[.pointer (some a), .int .i64 y]).run Try.prog w = .ok (.value (.int .i64 s)) (w.setCell a (.int .i64 s)) :=
  run_call_add Try.func67 (by kernel_rfl) (by kernel_rfl) (by kernel_rfl) .i64 (by kernel_rfl) hc hz (by rw [← hs]; rfl)

theorem add_any (b o : Nat) (x y s : Int) (w : World) (hc : w.cell? ⟨b, o, none⟩ = some (.int .i64 x)) (hz : w.frozen? ⟨b, o, none⟩ = false) (hs : IntKind.i64.wrap (x + y) = s) :
    Calls Try.prog 56 #[.pointer (some ⟨b, o, none⟩), .int .i64 y] w fun e w' => e = .returned (.int .i64 s) ∧ w' = w.setCell ⟨b, o, none⟩ (.int .i64 s) := by
  have hr := Try.addInt64 hc hz hs
  clear hs
  go_enter Try.func56, Try.ntmps56
  go_wp2
  go_ret
  exact ⟨rfl, rfl⟩

section
variable {w : World} {p bm : Nat} {kv : Value} {fs : List Fl} {s : Ds}

theorem down_any (h : DiskAt w p bm kv fs s) : Calls Try.prog 30 #[.pointer (some ⟨p, 0, none⟩)] w fun e w' => e = .returned (.bool s.down) ∧ w' = w := by
  have c4 := cell_of_heap h.cells 4
  simp [diskCells] at c4
  clear h
  go_enter Try.func30, Try.ntmps30
  go_wp2
  go_ret
  exact ⟨rfl, rfl⟩

theorem used_any (h : DiskAt w p bm kv fs s) : Calls Try.prog 28 #[.pointer (some ⟨p, 0, none⟩)] w fun e w' => e = .returned (.int .i64 s.used) ∧ w' = w := by
  have c4 := cell_of_heap h.cells 2
  simp [diskCells] at c4
  clear h
  go_enter Try.func28, Try.ntmps28
  go_wp2
  go_ret
  exact ⟨rfl, rfl⟩

end

/-- bytes.Equal. -/
theorem bytesEqual_any (a b : Value) (xs ys : List Int) (w : World) (ha : IsB w a xs) (hb : IsB w b ys) :
    Calls Try.prog 66 #[a, b] w fun e w' => e = .returned (.bool (decide (xs = ys))) ∧ w' = w := by
  have c1 := conv_isB ha
  have c2 := conv_isB hb
  have hx := ha.bytes
  have hy := hb.bytes
  obtain ⟨a1, cp1, rfl, _⟩ := ha.form
  obtain ⟨a2, cp2, rfl, _⟩ := hb.form
  clear ha hb
  by_cases e : xs = ys
  · subst e
    go_enter Try.func66, Try.ntmps66
    go_wp2
    go_ret
    simp
  · have hne : (strOfNums xs).toList ≠ (strOfNums ys).toList := fun h => e (strOfNums_inj hx hy (by
      rw [ByteArray.toList_eq, ByteArray.toList_eq] at h
      generalize strOfNums xs = a at h
      generalize strOfNums ys = b at h
      cases a
      cases b
      simp at h
      rw [h]))
    have HE : Hid (¬ xs = ys) := e
    clear e
    go_enter Try.func66, Try.ntmps66
    go_wp2
    go_ret
    simp [HE.out, hne]

end Go.Proofs.Ytdhajmgpakconaa
