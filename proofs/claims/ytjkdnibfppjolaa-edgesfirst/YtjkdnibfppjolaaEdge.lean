/-
  Rows of edges in memory, and what edges.numbersOf and edges.wrongEnd do. A lemma file: no statement of the seat is proved here.
-/
import Derived.Test.YtjkdnibfppjolaaPut
import Derived.Test.YtjkdnibfppjolaaShelf
import Derived.Lib.SliceRun
import Derived.Deep.RegionHeld
import Derived.Deep.LoopGhost
namespace Go.Proofs.Ytjkdnibfppjolaa
open Go.RowKit Go.Shelf

/-- An edge: From, To, W. -/
abbrev Ed := Int × Int × Int
/-- Its three cells. -/
def encE (x : Ed) : List Value := [.int .u32 x.1, .int .u32 x.2.1, .int .u32 x.2.2]
/-- Its numbers are of 32 bits. -/
def okE (x : Ed) : Prop := (0 ≤ x.1 ∧ x.1 < 4294967296) ∧ (0 ≤ x.2.1 ∧ x.2.1 < 4294967296) ∧ (0 ≤ x.2.2 ∧ x.2.2 < 4294967296)

set_option maxHeartbeats 400000 in
theorem numbersOf_any (x y z : Int) (w : World) :
    Calls Try.prog 24 #[.agg #[.int .u32 x, .int .u32 y, .int .u32 z]] w fun e w' => e = .returned (.agg #[.int .u32 x, .int .u32 y, .int .u32 z]) ∧ Below w.heap.size w w' := by
  go_enter Try.func24, Try.ntmps24
  go_wp2
  exact bodyPost_ret (v := .agg #[.int .u32 x, .int .u32 y, .int .u32 z]) (by simp [results, Try.results24, go_sem]) rfl ⟨rfl, ((Below.refl _ _).alloc (Nat.le_refl _) _).alloc (by simp) _⟩

/-- Behind a new block, and what keeps all that was there then. -/
theorem below_after {w w1 w2 : World} {o : Obj} (h : Below w.heap.size w w1) (k : Below (w1.alloc o).heap.size (w1.alloc o) w2) : Below w.heap.size w w2 :=
  (h.alloc h.size o).trans (k.mono (by simp; have := h.size; omega))
theorem below_then {w w1 w2 : World} (h : Below w.heap.size w w1) (k : Below w1.heap.size w1 w2) : Below w.heap.size w w2 := h.trans (k.mono h.size)
/-- A draw ahead turns nothing. -/
theorem below_undrew {w w' : World} (h : Below w.drew.heap.size w.drew w') : Below w.heap.size w w' := ⟨h.os, h.tape, h.output, h.size, h.block⟩

/-- The first end of an edge that is none of n vertices; -1, if both are. -/
def wrongE (n : Int) (x : Ed) : Int := if n ≤ IntKind.u64.wrap x.1 then 0 else if n ≤ IntKind.u64.wrap x.2.1 then 1 else -1

theorem wrongE_range (n : Int) (x : Ed) : -1 ≤ wrongE n x ∧ wrongE n x ≤ 1 := by
  unfold wrongE
  split
  · omega
  · split <;> omega

theorem pred_wrongEnd (n : Int) (h0 : 0 ≤ n) (h1 : n < 9223372036854775808) (B : Nat) (w : World) (hB : B < w.heap.size) (hcell : w.cell? ⟨B, 0, none⟩ = some (.int .i64 n)) :
    PredAt Try.prog 38 #[.pointer (some ⟨B, 0, none⟩)] (Value.int .u32) (fun x => decide (n ≤ IntKind.u64.wrap x)) w := fun W x hb => by
  have hc : W.cell? ⟨B, 0, none⟩ = some (.int .i64 n) := (hb.cell (p := ⟨B, 0, none⟩) hB).trans hcell
  show Calls Try.prog 38 #[.int .u32 x, .pointer (some ⟨B, 0, none⟩)] W _
  generalize hy : IntKind.u64.wrap x = y
  go_enter Try.func38, Try.ntmps38
  go_wp2
  all_goals (go_ret; exact ⟨by simp_all, 0, rfl⟩)

theorem idx_two (n x y z : Int) : Lib.idxBy (fun _ y => decide (n ≤ IntKind.u64.wrap y)) (([x, y] : List Int).take 2) default = wrongE n (x, y, z) := by
  unfold wrongE
  by_cases h1 : n ≤ IntKind.u64.wrap x
  · simp [Lib.idxBy, Lib.idxByFrom, h1]
  · by_cases h2 : n ≤ IntKind.u64.wrap y <;> simp [Lib.idxBy, Lib.idxByFrom, h1, h2]

set_option maxHeartbeats 1000000 in
theorem wrongEnd_any (n : Int) (h0 : 0 ≤ n) (h1 : n < 9223372036854775808) (x y z : Int) (w : World) :
    Calls Try.prog 27 #[.agg #[.int .u32 x, .int .u32 y, .int .u32 z], .int .i64 n] w fun e w' => e = .returned (.int .i64 (wrongE n (x, y, z))) ∧ Below w.heap.size w w' := by
  have eg : ∀ args w, (callFunc 38 args).run Try.prog w = .ok (.enter 38 args) w := enters_of Try.func38 (by kernel_rfl) rfl
  have hcon := AnyE.slices_IndexFunc Try.indexNums (Value.int .u32) (fun x => decide (n ≤ IntKind.u64.wrap x)) 38 #[.pointer (some ⟨w.heap.size + 1, 0, none⟩)] eg w.heap.size 0 2 3 [x, y] ((w.alloc (.cells #[.int .u32 x, .int .u32 y, .int .u32 z] 50)).alloc (.cells #[.int .i64 n] 3))
    (pred_wrongEnd n h0 h1 (w.heap.size + 1) _ (by simp) (by simp)) (by simp) (by omega) (fun j hj => by
      match j, hj with
      | 0, _ => simp
      | 1, _ => simp)
  rw [idx_two n x y z] at hcon
  change Calls Try.prog 37 _ _ _ at hcon
  generalize wrongE n (x, y, z) = r at hcon ⊢
  go_enter Try.func27, Try.ntmps27
  go_wp2_with (go_at_call 37; refine hcon.mono ?_; rintro e w' ⟨rfl, q, rfl⟩)
  go_ret
  exact ⟨rfl, below_drewN' (((Below.refl _ w).alloc (Nat.le_refl _) _).alloc (by simp) _) q⟩

end Go.Proofs.Ytjkdnibfppjolaa
