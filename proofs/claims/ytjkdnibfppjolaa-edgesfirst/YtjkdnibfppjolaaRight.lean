/-
  What edges.Right does. A lemma file: no statement of the seat is proved here.
-/
import Derived.Test.YtjkdnibfppjolaaEdge
namespace Go.Proofs.Ytjkdnibfppjolaa
open Go.RowKit Go.Shelf

/-- The slice value v holds the edges es. -/
def IsE (w : World) (v : Value) (es : List Ed) : Prop :=
  ∃ (a : Option Addr) (cap : Nat), v = .slice a es.length cap ∧ es.length ≤ cap ∧ (a = none → es = [] ∧ cap = 0) ∧
    (∀ x, a = some x → ∀ j, j < es.length → ∀ i u, (encE es[j]!)[i]? = some u → w.cell? (x.add (j * 3 + i)) = some u) ∧ ∀ e ∈ es, okE e

theorem IsE.nil (w : World) : IsE w (.slice none 0 0) [] := ⟨none, 0, rfl, Nat.le_refl _, fun _ => ⟨rfl, rfl⟩, by simp, by simp⟩

theorem IsE.ok {w : World} {v : Value} {es : List Ed} (h : IsE w v es) : ∀ e ∈ es, okE e := by
  obtain ⟨a, cap, rfl, h1, h2, h3, h4⟩ := h
  exact h4

theorem IsE.form {w : World} {v : Value} {es : List Ed} (h : IsE w v es) : ∃ a cap, v = .slice a es.length cap ∧ es.length ≤ cap := by
  obtain ⟨a, cap, rfl, h1, _⟩ := h
  exact ⟨a, cap, rfl, h1⟩

theorem IsE.below {w w' : World} {v : Value} {es : List Ed} (h : IsE w v es) (hb : Below w.heap.size w w') : IsE w' v es := by
  obtain ⟨a, cap, rfl, h1, h2, h3, h4⟩ := h
  refine ⟨a, cap, rfl, h1, h2, fun x hx j hj i u hu => ?_, h4⟩
  have h := h3 x hx j hj i u hu
  have hlt := World.block_lt_of_cell? w _ h
  rw [World.cell?_of_block (w := w) (hb.block _ hlt)]
  exact h

/-- A slice that is not empty leads to memory. -/
theorem IsE.opened {w : World} {v : Value} {es : List Ed} (h : IsE w v es) (h0 : 0 < es.length) :
    ∃ b off cap, v = .slice (some ⟨b, off, none⟩) es.length cap ∧ es.length ≤ cap ∧ b < w.heap.size ∧ ∀ j, j < es.length → ∀ i u, (encE es[j]!)[i]? = some u → w.cell? ⟨b, off + j * 3 + i, none⟩ = some u := by
  obtain ⟨a, cap, rfl, h1, h2, h3, h4⟩ := h
  cases a with
  | none => simp [(h2 rfl).1] at h0
  | some x =>
    obtain ⟨b, off, spot⟩ := x
    have hc := h3 _ rfl 0 h0 0 _ rfl
    have hlt := World.block_lt_of_cell? w _ hc
    have hspot : spot = none := by simpa [Addr.add] using World.cell?_spot hc
    subst hspot
    refine ⟨b, off, cap, rfl, h1, hlt, fun j hj i u hu => ?_⟩
    have := h3 _ rfl j hj i u hu
    rw [Addr.add_lit] at this
    rw [Nat.add_assoc]
    exact this

/-- An edge's three cells. -/
theorem IsE.at {w : World} {b off : Nat} {es : List Ed} (hc : ∀ j, j < es.length → ∀ i u, (encE es[j]!)[i]? = some u → w.cell? ⟨b, off + j * 3 + i, none⟩ = some u) (j : Nat) (hj : j < es.length) :
    w.cell? ⟨b, off + j * 3, none⟩ = some (.int .u32 es[j]!.1) ∧ w.cell? ⟨b, off + j * 3 + 1, none⟩ = some (.int .u32 es[j]!.2.1) ∧ w.cell? ⟨b, off + j * 3 + 2, none⟩ = some (.int .u32 es[j]!.2.2) :=
  ⟨hc j hj 0 _ rfl, hc j hj 1 _ rfl, hc j hj 2 _ rfl⟩

/-- A slice's front. -/
theorem IsE.take {w : World} {a : Option Addr} {len cap : Nat} {es : List Ed} (h : IsE w (.slice a len cap) es) (k : Nat) (hk : k ≤ len) : IsE w (.slice a k cap) (es.take k) := by
  obtain ⟨a', cap', he, h1, h2, h3, h4⟩ := h
  simp only [Value.slice.injEq] at he
  obtain ⟨rfl, rfl, rfl⟩ := he
  have hl : (es.take k).length = k := by simp; omega
  refine ⟨a, cap, by rw [hl], by rw [hl]; omega, fun e => ?_, fun x hx j hj i u hu => ?_, fun z hz => h4 z (List.mem_of_mem_take hz)⟩
  · obtain ⟨rfl, rfl⟩ := h2 e
    simp
  · rw [hl] at hj
    refine h3 x hx j (by omega) i u ?_
    rw [Lib.getElem!_take' es k j hj] at hu
    exact hu

/-- May a graph have these vertices, and edges? -/
def rightB (n : Int) (es : List Ed) : Bool := decide (0 ≤ n) && decide (n ≤ 1048576) && decide (es.length ≤ 1048576) && !(es.any fun x => decide (0 ≤ wrongE n x))

theorem pred_right (n : Int) (h0 : 0 ≤ n) (h1 : n < 9223372036854775808) (B : Nat) (w : World) (hB : B < w.heap.size) (hcell : w.cell? ⟨B, 0, none⟩ = some (.int .i64 n)) :
    PredBelow Try.prog 26 #[.pointer (some ⟨B, 0, none⟩)] (fun x => .agg (encE x).toArray) (fun x => decide (0 ≤ wrongE n x)) w := fun W x hb => by
  have hc : W.cell? ⟨B, 0, none⟩ = some (.int .i64 n) := (hb.cell (p := ⟨B, 0, none⟩) hB).trans hcell
  have hBW : B < W.heap.size := Nat.lt_of_lt_of_le hB hb.size
  show Calls Try.prog 26 #[.agg #[.int .u32 x.1, .int .u32 x.2.1, .int .u32 x.2.2], .pointer (some ⟨B, 0, none⟩)] W fun e w' => e = .returned (.bool (decide (0 ≤ wrongE n x))) ∧ Below w.heap.size w w'
  obtain ⟨x1, x2, x3⟩ := x
  have HW := fun W => wrongEnd_any n h0 h1 x1 x2 x3 W
  generalize wrongE n (x1, x2, x3) = r at HW ⊢
  have HWH := hide HW
  clear HW
  go_enter Try.func26, Try.ntmps26
  go_wp2
  have f1 : ∀ w', Below (W.alloc (.cells #[.int .u32 x1, .int .u32 x2, .int .u32 x3] 39)).drew.heap.size (W.alloc (.cells #[.int .u32 x1, .int .u32 x2, .int .u32 x3] 39)).drew w' →
      w'.cell? ⟨B, 0, none⟩ = some (.int .i64 n) ∧ w'.cell? ⟨W.heap.size, 0, none⟩ = some (.int .u32 x1) ∧ w'.cell? ⟨W.heap.size, 1, none⟩ = some (.int .u32 x2) ∧ w'.cell? ⟨W.heap.size, 2, none⟩ = some (.int .u32 x3) := fun w' hb =>
    ⟨(hb.cell (p := ⟨B, 0, none⟩) (by simp; omega)).trans (show (W.alloc _).cell? _ = _ from Lib.cell?_alloc_some _ hc), (hb.cell (p := ⟨W.heap.size, 0, none⟩) (by simp)).trans (by simp), (hb.cell (p := ⟨W.heap.size, 1, none⟩) (by simp)).trans (by simp), (hb.cell (p := ⟨W.heap.size, 2, none⟩) (by simp)).trans (by simp)⟩
  have F1 := hide f1
  clear f1
  go_region_held (fun w' => w'.cell? ⟨B, 0, none⟩ = some (.int .i64 n) ∧ w'.cell? ⟨W.heap.size, 0, none⟩ = some (.int .u32 x1) ∧ w'.cell? ⟨W.heap.size, 1, none⟩ = some (.int .u32 x2) ∧ w'.cell? ⟨W.heap.size, 2, none⟩ = some (.int .u32 x3)) (first | exact F1.out _ (Below.refl _ _) | exact F1.out _ b1 | exact F1.out _ (below_then b1 b2)) (first | (go_at_call 24; refine (numbersOf_any x1 x2 x3 _).mono ?_; rintro e w1 ⟨rfl, b1⟩) | (go_at_call 27; refine (HWH.out _).mono ?_; rintro e w2 ⟨rfl, b2⟩))
  go_wp2
  go_ret
  exact ⟨rfl, hb.trans (((((Below.refl _ W).alloc (Nat.le_refl _) _).trans ((below_undrew b1).mono (by simp))).trans (b2.mono (Nat.le_trans (by simp) b1.size))).mono hb.size)⟩

theorem indexE_none (a : Option Addr) (c : Nat) (fv : Value) (w : World) :
    Calls Try.prog 36 #[.slice a 0 c, fv] w fun e w' => e = .returned (.int .i64 (-1)) ∧ w' = w := by
  go_enter Try.func36, Try.ntmps36
  go_wp2
  refine wp_loop_rounds 1 ?_
  rw [rounds_succ]
  go_wp2
  go_ret
  exact ⟨rfl, rfl⟩

theorem containsE_none (a : Option Addr) (c : Nat) (fv : Value) (w : World) :
    Calls Try.prog 25 #[.slice a 0 c, fv] w fun e w' => e = .returned (.bool false) ∧ w' = w := by
  go_enter Try.func25, Try.ntmps25
  go_wp2_with (go_at_call 36; refine (indexE_none a c fv _).mono ?_; rintro e w' ⟨rfl, rfl⟩)
  go_ret
  exact ⟨rfl, rfl⟩

/-- slices.ContainsFunc, as Right asks it. -/
theorem contains_any (n : Int) (h0 : 0 ≤ n) (h1 : n < 9223372036854775808) (B : Nat) (v : Value) (es : List Ed) (w : World) (hv : IsE w v es) (hl : es.length ≤ 1048576) (hB : B < w.heap.size) (hcell : w.cell? ⟨B, 0, none⟩ = some (.int .i64 n)) :
    Calls Try.prog 25 #[v, .func (.func 26) #[] #[.pointer (some ⟨B, 0, none⟩)]] w fun e w' => e = .returned (.bool (es.any fun x => decide (0 ≤ wrongE n x))) ∧ Below w.heap.size w w' := by
  by_cases h : 0 < es.length
  · obtain ⟨b, off, cap, rfl, _, hb, hc⟩ := hv.opened h
    have eg : ∀ args w, (callFunc 26 args).run Try.prog w = .ok (.enter 26 args) w := enters_of Try.func26 (by kernel_rfl) rfl
    have hcon := AnyQ.slices_ContainsFunc Try.containsEdges 3 Try.isAgg39 Try.sizeOf39 encE (fun _ => rfl) (fun x => decide (0 ≤ wrongE n x)) 26 #[.pointer (some ⟨B, 0, none⟩)] eg b off es.length cap es w
      (pred_right n h0 h1 B w hB hcell) (Nat.le_refl _) (by omega) hb hc
    rw [List.take_of_length_le (Nat.le_refl _)] at hcon
    exact hcon
  · obtain rfl : es = [] := List.eq_nil_of_length_eq_zero (by omega)
    obtain ⟨a, cap, rfl, _⟩ := hv.form
    exact (containsE_none a cap _ w).mono fun e w' ⟨he, hw⟩ => ⟨he, hw ▸ Below.refl _ _⟩

set_option maxHeartbeats 1000000 in
/-- Right, of whatever graph. -/
theorem right_any (n : Int) (h1 : n < 9223372036854775808) (v : Value) (es : List Ed) (w : World) (hv : IsE w v es) (hl : es.length ≤ 140737488355328) :
    Calls Try.prog 15 #[.agg #[.int .i64 n, v]] w fun e w' => e = .returned (.bool (rightB n es)) ∧ Below w.heap.size w w' := by
  by_cases hn0 : n < 0
  · have hr : rightB n es = false := by simp [rightB]; omega
    obtain ⟨a, cap, rfl, _⟩ := hv.form
    rw [hr]
    go_enter Try.func15, Try.ntmps15
    go_wp2
    go_ret
    exact ⟨rfl, (Below.refl _ _).alloc (Nat.le_refl _) _⟩
  · by_cases hn1 : 1048576 < n
    · have hr : rightB n es = false := by simp [rightB]; omega
      obtain ⟨a, cap, rfl, _⟩ := hv.form
      rw [hr]
      go_enter Try.func15, Try.ntmps15
      go_wp2
      go_ret
      exact ⟨rfl, (Below.refl _ _).alloc (Nat.le_refl _) _⟩
    · by_cases hl1 : 1048576 < es.length
      · have hr : rightB n es = false := by simp [rightB]; omega
        obtain ⟨a, cap, rfl, _⟩ := hv.form
        rw [hr]
        go_enter Try.func15, Try.ntmps15
        go_wp2
        go_ret
        exact ⟨rfl, (Below.refl _ _).alloc (Nat.le_refl _) _⟩
      · have hr : rightB n es = !(es.any fun x => decide (0 ≤ wrongE n x)) := by
          have a1 : (0 : Int) ≤ n := by omega
          have a2 : n ≤ 1048576 := by omega
          have a3 : es.length ≤ 1048576 := by omega
          simp [rightB, a1, a2, a3]
        have hcon := fun v W hI hB hcell => contains_any n (by omega) h1 w.heap.size v es W hI (by omega) hB hcell
        have hv' := hv.below ((Below.refl _ w).alloc (Nat.le_refl _) (.cells #[.int .i64 n, v] 24))
        obtain ⟨a, cap, rfl, _⟩ := hv.form
        have HC := hide (hcon _ _ hv' (by simp) (by simp))
        rw [hr]
        clear hcon hr hv hv'
        generalize (es.any fun x => decide (0 ≤ wrongE n x)) = r at HC ⊢
        go_enter Try.func15, Try.ntmps15
        go_wp2_with (go_at_call 25; refine HC.out.mono ?_; rintro e w' ⟨rfl, b1⟩)
        go_ret
        exact ⟨rfl, below_after (Below.refl _ w) b1⟩

end Go.Proofs.Ytjkdnibfppjolaa
