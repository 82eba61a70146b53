/-
  What edges.sorted and edges.Same do. A lemma file: no statement of the seat is proved here.
-/
import Derived.ChangeKeysEq
import Derived.Laws.StructEq
import Derived.Test.YtjkdnibfppjolaaSorted
namespace Go.Proofs.Ytjkdnibfppjolaa
open Go.RowKit Go.Shelf

theorem ed_eq (x y : Ed) : decide (x = y) = (decide (x.1 = y.1) && (decide (x.2.1 = y.2.1) && decide (x.2.2 = y.2.2))) := by
  obtain ⟨x1, x2, x3⟩ := x
  obtain ⟨y1, y2, y3⟩ := y
  simp [Bool.decide_and]

theorem infoU32 : (Try.prog.info? 37).map (fun i => i.size) = some 1 := by kernel_rfl

/-- '!=' of two rows of an edge's numbers. -/
theorem neqRow : NeqAt Try.prog 50 (fun x => .agg (encE x).toArray) (fun x y => decide (x = y)) := by
  refine ⟨fun x y w => ?_, GuardAt.agg _ (by kernel_rfl)⟩
  obtain ⟨i0, hi, hz⟩ : ∃ i, Try.prog.info? 37 = some i ∧ i.size = 1 := by
    cases h : Try.prog.info? 37 with
    | none => have := infoU32; simp [h] at this
    | some i => exact ⟨i, rfl, by have := infoU32; simpa [h] using this⟩
  have u3 := Try.underlying37
  have a3 := Try.isAgg37
  have z3 := Try.sizeOf37
  have hc : Try.prog.cellsOf 37 = 1 := by kernel_rfl
  dsimp only
  rw [ed_eq]
  obtain ⟨x1, x2, x3⟩ := x
  obtain ⟨y1, y2, y3⟩ := y
  simp only [encE]
  rw [run_neq_struct, show (10000 : Nat) = 9999 + 1 from rfl, run_equalIn_array w 9999 _ _ Try.underlying50 hi, hc]
  rw [show List.range 3 = [0, 1, 2] from rfl]
  simp only [Op.eqItems]
  go_simp
  by_cases h1 : x1 = y1 <;> by_cases h2 : x2 = y2 <;> by_cases h3 : x3 = y3 <;> simp [h1, h2, h3]

/-- '!=' of two edges. -/
theorem neqEdge : NeqAt Try.prog 39 (fun x => .agg (encE x).toArray) (fun x y => decide (x = y)) := by
  refine ⟨fun x y w => ?_, GuardAt.agg _ (by kernel_rfl)⟩
  have u3 := Try.underlying37
  have a3 := Try.isAgg37
  have z3 := Try.sizeOf37
  have hS : Try.prog.underlying 39 = some (.struct (Try.prog.fieldsOf 39)) := by kernel_rfl
  have hp : Try.prog.stoodInHeld 39 = false := by kernel_rfl
  dsimp only
  rw [ed_eq]
  obtain ⟨x1, x2, x3⟩ := x
  obtain ⟨y1, y2, y3⟩ := y
  simp only [encE]
  rw [run_neq_struct, show (10000 : Nat) = 9999 + 1 from rfl, run_equalIn_agg w 9999 _ _ _ hS hp]
  simp only [Program.fieldsOf, Try.underlying39]
  go_simp
  by_cases h1 : x1 = y1 <;> by_cases h2 : x2 = y2 <;> by_cases h3 : x3 = y3 <;> simp [h1, h2, h3]

theorem allEq_decide (xs ys : List Ed) : Lib.allEq (fun x y : Ed => decide (x = y)) xs ys = decide (xs = ys) := by
  induction xs generalizing ys with
  | nil => cases ys <;> simp [Lib.allEq]
  | cons x xs ih => cases ys <;> simp [Lib.allEq, ih, Bool.decide_and]

theorem IsE.cells {w : World} {g len cap : Nat} {es : List Ed} (h : IsE w (.slice (some ⟨g, 0, none⟩) len cap) es) : ∀ j, j < es.length → ∀ i u, (encE es[j]!)[i]? = some u → w.cell? ⟨g, 0 + j * 3 + i, none⟩ = some u := by
  obtain ⟨a', cap', he, h1, h2, h3, h4⟩ := h
  simp only [Value.slice.injEq] at he
  obtain ⟨rfl, rfl, rfl⟩ := he
  intro j hj i u hu
  have := h3 _ rfl j hj i u hu
  rw [Addr.add_lit] at this
  rw [Nat.add_assoc]
  exact this

/-- slices.Equal, as edges.Same calls it. -/
theorem equal_any (g k : Nat) (xs ys : List Ed) (w : World) (hv : IsE w (.slice (some ⟨g, 0, none⟩) xs.length xs.length) xs) (hu : IsE w (.slice (some ⟨k, 0, none⟩) ys.length ys.length) ys) (hx : xs.length ≤ 1048576) (hy : ys.length ≤ 1048576) :
    Calls Try.prog 32 #[.slice (some ⟨g, 0, none⟩) xs.length xs.length, .slice (some ⟨k, 0, none⟩) ys.length ys.length] w fun e w' => e = .returned (.bool (decide (xs = ys))) ∧ Below w.heap.size w w' := by
  have hcon := AnyQ.slices_Equal Try.equalRows 3 Try.isAgg50 Try.sizeOf50 encE (fun _ => rfl) (fun x y => decide (x = y)) neqRow g 0 xs.length xs.length k 0 ys.length ys.length xs ys w (Nat.le_refl _) (Nat.le_refl _) (by omega) (by omega) hv.cells hu.cells
  rw [List.take_of_length_le (Nat.le_refl _), List.take_of_length_le (Nat.le_refl _), allEq_decide] at hcon
  change Calls Try.prog 32 _ _ _ at hcon
  exact hcon.mono fun e w' ⟨he, q, hq⟩ => ⟨he, hq ▸ below_drewN' (Below.refl _ _) q⟩

set_option maxRecDepth 100000 in
set_option maxHeartbeats 4000000 in
/-- edges.sorted: a new row of the edges' numbers, in order. -/
theorem sorted_any (v : Value) (es : List Ed) (w : World) (hv : IsE w v es) (hl : es.length ≤ 1048576) :
    Calls Try.prog 33 #[v] w fun e w' => ∃ g, e = .returned (.slice (some ⟨g, 0, none⟩) es.length es.length) ∧ IsE w' (.slice (some ⟨g, 0, none⟩) es.length es.length) (sortE es) ∧ Below w.heap.size w w' := by
  obtain ⟨row, hmk, hrow⟩ := makeR es.length hl
  have HV := hide hv
  have HRow := hide hrow
  obtain ⟨a, cap, rfl, _⟩ := hv.form
  clear hv hrow
  go_enter Try.func33, Try.ntmps33
  go_wp2
  go_loopw [11] (fun i wr => ∃ k : Nat, k ≤ es.length ∧ i = .int .i64 k ∧ Hid (OwnE 50 w.heap.size wr w.heap.size es.length (part es es.length k)) ∧ Hid (Below w.heap.size w wr)) (fun i _ => es.length - (intOf i).toNat)
  case atStart => exact ⟨0, Nat.zero_le _, rfl, by simpa [part, Hid] using HRow.out w w.heap.size (Nat.le_refl _), (Below.refl _ w).alloc (Nat.le_refl _) _⟩
  case round =>
    obtain ⟨k, hk, rfl, HO, HB⟩ := hrel
    by_cases hlt : k < es.length
    · have hI := HV.out.below HB.out
      have hok := hI.ok es[k]! (by rw [getElem!_pos es k hlt]; exact List.getElem_mem hlt)
      obtain ⟨b, off, cap', he, _, hb, hc⟩ := hI.opened (by omega)
      simp only [Value.slice.injEq, true_and] at he
      obtain ⟨rfl, rfl⟩ := he
      obtain ⟨l0, l1, l2⟩ := IsE.at hc k hlt
      have hpst := part_step es es.length k rfl hlt
      have hpl := part_length es es.length k rfl hk
      obtain ⟨x, hx⟩ : ∃ x, x = es[k]! := ⟨_, rfl⟩
      rw [← hx] at l0 l1 l2 hok hpst
      obtain ⟨x1, x2, x3⟩ := x
      dsimp only at l0 l1 l2
      have HOK := hide hok
      have HP := hide hpst
      have HPL := hide hpl
      clear hI hc hx hok hpst hpl
      go_wp2_with fail
      refine (numbersOf_any x1 x2 x3 _).mono ?_
      rintro e w1 ⟨rfl, b1⟩
      have B1 : Below wr.heap.size wr w1 := below_after (Below.refl _ wr) b1
      have o1 := HO.out.below B1
      have fz := o1.frozenAt
      have u0 := o1.cellAt k 0 _ (by rw [HPL.out]; exact hlt) rfl
      have u1 := o1.cellAt k 1 _ (by rw [HPL.out]; exact hlt) rfl
      have u2 := o1.cellAt k 2 _ (by rw [HPL.out]; exact hlt) rfl
      generalize (part es es.length k)[k]! = y at u0 u1 u2
      rw [Nat.add_zero] at u0
      have HO1 := hide o1
      have HB1 := hide (HB.out.trans (B1.mono HB.out.size))
      clear o1 b1 B1
      go_wp2
      go_roundw
      case rel =>
        have R1 : Below w.heap.size w (((w1.setCell ⟨w.heap.size, k * 3, none⟩ (.int .u32 x1)).setCell ⟨w.heap.size, k * 3 + 1, none⟩ (.int .u32 x2)).setCell ⟨w.heap.size, k * 3 + 2, none⟩ (.int .u32 x3)) := ((HB1.out.setCell (p := ⟨w.heap.size, k * 3, none⟩) (Nat.le_refl _) _).setCell (p := ⟨w.heap.size, k * 3 + 1, none⟩) (Nat.le_refl _) _).setCell (p := ⟨w.heap.size, k * 3 + 2, none⟩) (Nat.le_refl _) _
        have R2 := HO1.out.stored k (by rw [HPL.out]; exact hlt) (x1, x2, x3) HOK.out
        rw [HP.out] at R2
        first | exact ⟨k + 1, by omega, by go_num, R2, R1⟩ | ((repeat apply Exists.intro); exact ⟨⟨k + 1, by omega, by go_num, R2, R1⟩, rfl⟩)
      case measure => simp [intOf]; omega
    · have e : k = es.length := by omega
      subst e
      have hp : part es es.length es.length = es := by simp [part]
      have o3 := HO.out
      rw [hp] at o3
      have hS := sort_any w.heap.size w.heap.size es.length es wr o3 HB.out.size hl
      have HS := hide hS
      clear hp o3 hS
      go_wp2_with (go_at_call 40; refine HS.out.mono ?_; rintro e w2 ⟨rfl, i2, b2⟩)
      go_ret
      exact ⟨w.heap.size, rfl, i2, HB.out.trans b2⟩

end Go.Proofs.Ytjkdnibfppjolaa
