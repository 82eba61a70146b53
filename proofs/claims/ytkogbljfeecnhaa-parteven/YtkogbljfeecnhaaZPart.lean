/-
  Intervals: what part's Bounds and Of do, and the document's. A lemma file: no statement of the seat is proved here.
-/
import Derived.Test.YtkogbljfeecnhaaRows
import Derived.WalkKit
import Derived.WalkSpells
import Derived.WalkLawsBesides
import Derived.Laws.AppendOwnNone
import Derived.Laws.OwnMore
namespace Go.Proofs.Ytkogbljfeecnhaa
open Go.RowKit

theorem hide {p : Prop} (h : p) : Hid p := h
theorem Try.infoI : (Try.prog.info? 3).map (fun i => (i.zero, i.size, i.bytes)) = some (some (.int .i64 0), 1, 8) := by kernel_rfl

/-- The slice at the head of block g, of the call's own blocks from B on, holds the numbers zs. -/
def OwnI (B : Nat) (w : World) (g cap : Nat) (zs : List Int) : Prop := w.ownsRow B 3 1 (.slice (some ⟨g, 0, none⟩) zs.length cap) zs.length (zs.map (Value.int .i64))

section
variable {B : Nat} {w w' : World} {g cap : Nat} {zs : List Int}
theorem OwnI.lt (h : OwnI B w g cap zs) : B ≤ g ∧ g < w.heap.size := World.ownsRow.lt h g rfl
theorem OwnI.cell (h : OwnI B w g cap zs) (j : Nat) (hj : j < zs.length) : w.cell? ⟨g, j, none⟩ = some (.int .i64 (zs[j]?.getD 0)) := by
  rw [World.ownsRow.cellAt h j (by omega)]
  simp [hj]
theorem OwnI.below (h : OwnI B w g cap zs) (hb : Below w.heap.size w w') : OwnI B w' g cap zs := by
  have hlt := h.lt
  refine ⟨h.1, ?_⟩
  rcases h.2 with ⟨h, _⟩ | ⟨g', cap', cur, he, hg, hh, r⟩
  · simp at h
  · have hg' : g' = g := by simp at he; omega
    subst hg'
    exact .inr ⟨g', cap', cur, he, hg, by rw [hb.block _ hlt.2]; exact hh, r⟩
theorem OwnI.mono {B' : Nat} (h : OwnI B w g cap zs) (hB : B' ≤ B) : OwnI B' w g cap zs := by
  refine ⟨h.1, ?_⟩
  rcases h.2 with h | ⟨g', cap', cur, he, hg, r⟩
  · exact .inl h
  · exact .inr ⟨g', cap', cur, he, by omega, r⟩
theorem OwnI.stored (h : OwnI B w g cap zs) (j : Nat) (z : Int) : OwnI B (w.setCell ⟨g, j, none⟩ (.int .i64 z)) g cap (zs.set j z) := by
  have := (World.ownsRow.stored h j (.int .i64 z)).1
  unfold OwnI
  rw [List.length_set, List.map_set]
  exact this
theorem OwnI.frozen (h : OwnI B w g cap zs) (j : Nat) : w.frozen? ⟨g, j, none⟩ = false := World.ownsRow.frozenAt h j
theorem OwnI.below_set {w0 : World} (h : OwnI B w g cap zs) (hb : Below B w0 w) (j : Nat) (z : Int) : Below B w0 (w.setCell ⟨g, j, none⟩ (.int .i64 z)) :=
  ⟨hb.os, hb.tape, hb.output, by have := hb.size; simpa using this, fun k hk => by
    rw [heap_setCell_other w ⟨g, j, none⟩ k _ (by have := h.lt; simp; omega)]
    exact hb.block k hk⟩
end

theorem below_then {w w1 w2 : World} (h : Below w.heap.size w w1) (k : Below w1.heap.size w1 w2) : Below w.heap.size w w2 := h.trans (k.mono h.size)

/-- 'make([]int, n)'. -/
theorem wp_makeI {ops : Array Oper} {rest : List Oper} {o : Oper} {a : Act} {Q : Exit → Act → World → Prop} (w : World) (hg : o.guard = none) (x y : Operand) (hop : o.op = Op.makeSlice 23 x y) (n : Nat) (L C : Int)
    (hl : a.eval x = .int .i64 L) (hc : a.eval y = .int .i64 C) (hL : L = (n : Int)) (hC : C = (n : Int)) (hn : n ≤ 1099511627776)
    (h : ∀ w', OwnI w.heap.size w' w.heap.size n (List.replicate n 0) → Below w.heap.size w w' → wpList Try.prog ops Q rest (a.put o.dst (.slice (some ⟨w.heap.size, 0, none⟩) n n)) w') :
    wpList Try.prog ops Q (o :: rest) a w := by
  obtain ⟨i0, hi, hz0, hz1, hz2⟩ := info_parts Try.infoI
  refine wpList_make_full w hg x y 23 hop w.heap.size 3 i0 (.int .i64 0) 1 Try.underlying23 hi hz0 hz1 .i64 .i64 L C n hl hc hL hC (by rw [hz2]; omega) (by unfold maxLen; omega) (Nat.le_refl _) ?_
  intro w' hown hgr
  refine h w' ?_ (⟨hgr.os, hgr.tape, hgr.output, hgr.size, fun k hk => hgr.block k hk (by simp)⟩ : Below w.heap.size w w')
  have e : (madeCells (Value.int .i64 0).cells (n * 1)).toList = (List.replicate n (0 : Int)).map (Value.int .i64) := by
    rw [Nat.mul_one, show (Value.int .i64 0).cells = #[Value.int .i64 0] from rfl, toList_madeCells_one, List.map_replicate]
  rw [e] at hown
  unfold OwnI
  rw [List.length_replicate]
  exact hown

/-! ### What there may be -/
def mayB (n s : Int) : Bool := decide (0 ≤ n) && decide (n ≤ 1048576) && decide (1 ≤ s) && decide (s ≤ 4096)

theorem may_any (n s : Int) (w : World) : Calls Try.prog 14 #[.int .i64 n, .int .i64 s] w fun e w' => e = .returned (.bool (mayB n s)) ∧ w' = w := by
  unfold mayB
  by_cases h1 : 0 ≤ n <;> by_cases h2 : n ≤ 1048576 <;> by_cases h3 : 1 ≤ s <;> by_cases h4 : s ≤ 4096 <;>
    (go_enter Try.func14, Try.ntmps14; go_wp2; go_ret; simp [h1, h2, h3, h4])

theorem right_any (n s : Int) (w : World) : Calls Try.prog 11 #[.int .i64 n, .int .i64 s] w fun e w' => e = .returned (.bool (mayB n s)) ∧ w' = w := by
  unfold mayB
  by_cases h1 : 0 ≤ n <;> by_cases h2 : n ≤ 1048576 <;> by_cases h3 : 1 ≤ s <;> by_cases h4 : s ≤ 4096 <;>
    (go_enter Try.func11, Try.ntmps11; go_wp2; go_ret; simp [h1, h2, h3, h4])

theorem mayB_no {n s : Int} (h : mayB n s = false) : ¬ (0 ≤ n ∧ n ≤ 1048576 ∧ 1 ≤ s ∧ s ≤ 4096) := by
  unfold mayB at h
  intro ⟨h1, h2, h3, h4⟩
  simp [h1, h2, h3, h4] at h
theorem mayB_yes {n s : Int} (h1 : 0 ≤ n) (h2 : n ≤ 1048576) (h3 : 1 ≤ s) (h4 : s ≤ 4096) : mayB n s = true := by
  unfold mayB
  simp [h1, h2, h3, h4]
theorem mayB_nat {n s : Int} (h : mayB n s = true) : ∃ N S : Nat, n = N ∧ s = S ∧ N ≤ 1048576 ∧ 1 ≤ S ∧ S ≤ 4096 := by
  unfold mayB at h
  simp at h
  exact ⟨n.toNat, s.toNat, by omega, by omega, by omega, by omega, by omega⟩

/-! ### Bounds -/
theorem bounds_no (n s : Int) (h : mayB n s = false) (w : World) : Calls Try.prog 9 #[.int .i64 n, .int .i64 s] w fun e w' => e = .returned (.tuple #[.slice none 0 0, .int .i64 1]) ∧ w' = w := by
  go_enter Try.func9, Try.ntmps9
  go_wp2_with (go_at_call 14; refine (may_any n s w).mono ?_; rintro e w1 ⟨rfl, rfl⟩; rw [h])
  go_ret2
  exact ⟨rfl, rfl⟩

/-- The i-th bound. -/
def bnd (n s i : Nat) : Int := ((i * n / s : Nat) : Int)
theorem bnd_ediv (n s i : Nat) : ((i : Int) * (n : Int)) / (s : Int) = bnd n s i := by unfold bnd; simp
theorem bnd_le {n s i : Nat} (hi : i ≤ s) : 0 ≤ bnd n s i ∧ bnd n s i ≤ n := by
  unfold bnd
  have h : i * n / s ≤ n := Nat.div_le_of_le_mul (Nat.mul_le_mul_right n hi)
  exact ⟨Int.natCast_nonneg _, Int.ofNat_le.2 h⟩
/-- The bounds, up to the last one. -/
def bndL (n s : Nat) : List Int := (List.range (s + 1)).map (bnd n s)
theorem bndL_length (n s : Nat) : (bndL n s).length = s + 1 := by simp [bndL]
theorem bndL_at {n s i : Nat} (hi : i ≤ s) : (bndL n s)[i]?.getD 0 = bnd n s i := by
  unfold bndL
  simp [show i < s + 1 by omega]

theorem mul_le_big {i n : Nat} (hi : i ≤ 4096) (hn : n ≤ 1048576) : (i : Int) * (n : Int) ≤ 4294967296 ∧ 0 ≤ (i : Int) * (n : Int) := by
  have h : i * n ≤ 4096 * 1048576 := Nat.mul_le_mul hi hn
  have e : (i : Int) * (n : Int) = ((i * n : Nat) : Int) := by simp
  omega

set_option maxHeartbeats 1000000 in
theorem bounds_go (n s : Nat) (hn : n ≤ 1048576) (h1 : 1 ≤ s) (h2 : s ≤ 4096) (w : World) :
    Calls Try.prog 9 #[.int .i64 n, .int .i64 s] w fun e w' => ∃ g, e = .returned (.tuple #[.slice (some ⟨g, 0, none⟩) (s + 1) (s + 1), .int .i64 0]) ∧ OwnI w.heap.size w' g (s + 1) (bndL n s) ∧ Below w.heap.size w w' := by
  have hm : mayB n s = true := mayB_yes (by omega) (by omega) (by omega) (by omega)
  go_enter Try.func9, Try.ntmps9
  go_wp2_with (first | (go_at_call 14; refine (may_any n s w).mono ?_; rintro e w1 ⟨rfl, rfl⟩; rw [hm]) | (at_make; refine wp_makeI _ rfl _ _ rfl (s + 1) ((s + 1 : Nat) : Int) ((s + 1 : Nat) : Int) rfl rfl rfl rfl (by omega) ?_; intro w2 o2 b2; have O2 := hide o2; have B2 := hide b2; clear o2 b2))
  go_loopw [7, 17] (fun iv k wr => ∃ (j : Nat) (zs : List Int), j ≤ s + 1 ∧ k = .int .i64 j ∧ zs.length = s + 1 ∧ Hid (∀ m, m < j → zs[m]?.getD 0 = bnd n s m) ∧ Hid (OwnI w1.heap.size wr w1.heap.size (s + 1) zs) ∧ Hid (Below w1.heap.size w1 wr)) (fun _ k _ => s + 1 - (intOf k).toNat)
  case atStart => exact ⟨0, List.replicate (s + 1) 0, by omega, rfl, by simp, by intro m hm; omega, O2, B2⟩
  case round =>
    obtain ⟨j, zs, hj, rfl, hz, HP, HO, HB⟩ := hrel
    by_cases hlt : j < s + 1
    · have hlt' : (j : Int) < (s : Int) + 1 := by omega
      have hc : wr.cell? ⟨w1.heap.size, j, none⟩ = some (.int .i64 (zs[j]?.getD 0)) := HO.out.cell j (by omega)
      have hf : wr.frozen? ⟨w1.heap.size, j, none⟩ = false := HO.out.frozen j
      obtain ⟨m1, m2⟩ := mul_le_big (i := j) (n := n) (by omega) hn
      have e1 : IntKind.u64.wrap (j : Int) = j := by rw [IntKind.wrap_u64]; omega
      have e2 : IntKind.u64.wrap (n : Int) = n := by rw [IntKind.wrap_u64]; omega
      have e3 : IntKind.u64.wrap (s : Int) = s := by rw [IntKind.wrap_u64]; omega
      have e4 : IntKind.u64.wrap ((j : Int) * (n : Int)) = (j : Int) * (n : Int) := by rw [IntKind.wrap_u64]; omega
      have e5 := bnd_ediv n s j
      have e6 := bnd_le (n := n) (s := s) (i := j) (by omega)
      have e7 : IntKind.u64.wrap (bnd n s j) = bnd n s j := by rw [IntKind.wrap_u64]; omega
      have e8 : IntKind.i64.wrap (bnd n s j) = bnd n s j := by rw [IntKind.wrap_i64]; omega
      go_wp2
      refine ⟨⟨j + 1, zs.set j (bnd n s j), by omega, by go_num, by rw [List.length_set]; exact hz, ?_, HO.out.stored j _, HO.out.below_set HB.out j _⟩, by simp [intOf]; omega⟩
      intro m hm
      by_cases hmj : m = j
      · subst hmj
        simp [show m < zs.length by omega]
      · rw [List.getElem?_set_ne (by omega)]
        exact HP.out m (by omega)
    · have hlt' : ¬ (j : Int) < (s : Int) + 1 := by omega
      go_wp2
      go_ret2
      refine ⟨_, rfl, ?_, HB.out⟩
      have e : zs = bndL n s := by
        apply List.ext_getElem?
        intro m
        by_cases hm : m < s + 1
        · have := HP.out m (by omega)
          rw [← bndL_at (i := m) (by omega)] at this
          have l1 : m < zs.length := by omega
          have l2 : m < (bndL n s).length := by rw [bndL_length]; omega
          simp only [List.getElem?_eq_getElem l1, List.getElem?_eq_getElem l2, Option.getD_some] at this ⊢
          rw [this]
        · rw [List.getElem?_eq_none (by omega), List.getElem?_eq_none (by rw [bndL_length]; omega)]
      rw [← e]
      exact HO.out

/-! ### Of -/
theorem of_no (n s v : Int) (h : mayB n s = false) (w : World) : Calls Try.prog 10 #[.int .i64 n, .int .i64 s, .int .i64 v] w fun e w' => e = .returned (.tuple #[.int .i64 0, .int .i64 1]) ∧ w' = w := by
  go_enter Try.func10, Try.ntmps10
  go_wp2_with (go_at_call 14; refine (may_any n s w).mono ?_; rintro e w1 ⟨rfl, rfl⟩; rw [h])
  go_ret2
  exact ⟨rfl, rfl⟩
theorem of_out (n s v : Int) (h : mayB n s = true) (hv : v < 0 ∨ n ≤ v) (w : World) : Calls Try.prog 10 #[.int .i64 n, .int .i64 s, .int .i64 v] w fun e w' => e = .returned (.tuple #[.int .i64 0, .int .i64 1]) ∧ w' = w := by
  by_cases h0 : v < 0
  · go_enter Try.func10, Try.ntmps10
    go_wp2_with (go_at_call 14; refine (may_any n s w).mono ?_; rintro e w1 ⟨rfl, rfl⟩; rw [h])
    go_ret2
    exact ⟨rfl, rfl⟩
  · have h2 : n ≤ v := by omega
    go_enter Try.func10, Try.ntmps10
    go_wp2_with (go_at_call 14; refine (may_any n s w).mono ?_; rintro e w1 ⟨rfl, rfl⟩; rw [h])
    go_ret2
    exact ⟨rfl, rfl⟩

/-- The interval that has v. -/
def ofN (n s v : Nat) : Nat := ((v + 1) * s - 1) / n
theorem ofN_lt {n s v : Nat} (hv : v < n) (hs : 1 ≤ s) : ofN n s v < s := by
  unfold ofN
  rw [Nat.div_lt_iff_lt_mul (by omega)]
  have h : (v + 1) * s ≤ n * s := Nat.mul_le_mul_right s hv
  have h1 : 1 ≤ (v + 1) * s := Nat.le_trans hs (Nat.le_mul_of_pos_left s (by omega))
  rw [Nat.mul_comm s n]
  omega
theorem ofN_lo {n s v : Nat} (hs : 1 ≤ s) : ofN n s v * n / s ≤ v := by
  have h : ofN n s v * n ≤ (v + 1) * s - 1 := Nat.div_mul_le_self _ _
  have h1 : 1 ≤ (v + 1) * s := Nat.le_trans hs (Nat.le_mul_of_pos_left s (by omega))
  have : ofN n s v * n / s < v + 1 := (Nat.div_lt_iff_lt_mul (by omega)).2 (by omega)
  omega
theorem ofN_hi {n s v : Nat} (hv : v < n) (hs : 1 ≤ s) : v < (ofN n s v + 1) * n / s := by
  have h : (v + 1) * s - 1 < (ofN n s v + 1) * n := by
    unfold ofN
    rw [Nat.mul_comm (_ + 1) n]
    exact Nat.lt_mul_div_succ _ (Nat.lt_of_le_of_lt (Nat.zero_le v) hv)
  refine (Nat.le_div_iff_mul_le (by omega)).2 ?_
  show (v + 1) * s ≤ _
  omega
theorem bnd_mono {n s i k : Nat} (h : i ≤ k) : i * n / s ≤ k * n / s := Nat.div_le_div_right (Nat.mul_le_mul_right n h)
/-- It alone has it. -/
theorem ofN_one {n s v i : Nat} (hv : v < n) (hs : 1 ≤ s) (h1 : i * n / s ≤ v) (h2 : v < (i + 1) * n / s) : i = ofN n s v := by
  have a := ofN_lo (n := n) (v := v) hs
  have b := ofN_hi hv hs
  by_cases h : i < ofN n s v
  · have := bnd_mono (n := n) (s := s) (show i + 1 ≤ ofN n s v by omega)
    omega
  · by_cases h' : ofN n s v < i
    · have := bnd_mono (n := n) (s := s) (show ofN n s v + 1 ≤ i by omega)
      omega
    · omega
theorem ofN_mono {n s a b : Nat} (h : a ≤ b) : ofN n s a ≤ ofN n s b := by
  unfold ofN
  apply Nat.div_le_div_right
  have : (a + 1) * s ≤ (b + 1) * s := Nat.mul_le_mul_right s (by omega)
  omega

theorem of_go (n s v : Nat) (hn : n ≤ 1048576) (h1 : 1 ≤ s) (h2 : s ≤ 4096) (hv : v < n) (w : World) :
    Calls Try.prog 10 #[.int .i64 n, .int .i64 s, .int .i64 v] w fun e w' => e = .returned (.tuple #[.int .i64 (ofN n s v), .int .i64 0]) ∧ w' = w := by
  have hm : mayB n s = true := mayB_yes (by omega) (by omega) (by omega) (by omega)
  have v0 : ¬ (v : Int) < 0 := by omega
  have v1 : ¬ (n : Int) ≤ v := by omega
  obtain ⟨p, hp⟩ : ∃ p, p = (v + 1) * s := ⟨_, rfl⟩
  have p1 : p ≤ 1048576 * 4096 := by rw [hp]; exact Nat.mul_le_mul (by omega) h2
  have p2 : 1 ≤ p := by rw [hp]; exact Nat.le_trans h1 (Nat.le_mul_of_pos_left s (by omega))
  have e0 : ((v : Int) + 1) * (s : Int) = p := by rw [hp]; simp
  have e1 : IntKind.u64.wrap ((v : Int) + 1) = (v : Int) + 1 := by rw [IntKind.wrap_u64]; omega
  have e2 : IntKind.u64.wrap (n : Int) = n := by rw [IntKind.wrap_u64]; omega
  have e3 : IntKind.u64.wrap (s : Int) = s := by rw [IntKind.wrap_u64]; omega
  have e4 : IntKind.u64.wrap (p : Int) = p := by rw [IntKind.wrap_u64]; omega
  have e5 : IntKind.u64.wrap ((p : Int) - 1) = (p : Int) - 1 := by rw [IntKind.wrap_u64]; omega
  have e6 : ((p : Int) - 1) / (n : Int) = (ofN n s v : Int) := by
    unfold ofN
    rw [← hp, Int.natCast_ediv, Int.natCast_sub p2]
    rfl
  clear hp
  have q := ofN_lt hv h1
  have e7 : IntKind.u64.wrap (ofN n s v : Int) = ofN n s v := by rw [IntKind.wrap_u64]; omega
  have e8 : IntKind.i64.wrap (ofN n s v : Int) = ofN n s v := by rw [IntKind.wrap_i64]; omega
  go_enter Try.func10, Try.ntmps10
  go_wp2_with (go_at_call 14; refine (may_any n s w).mono ?_; rintro e w1 ⟨rfl, rfl⟩; rw [hm])
  go_ret2
  exact ⟨rfl, rfl⟩

/-! ### The document's answer -/
section
variable {ops : Array Oper} {rest : List Oper} {o : Oper} {a : Act} {Q : Exit → Act → World → Prop}

/-- 'l = append(l, z)', l of the call's own. -/
theorem wp_pushI (w : World) (n0 : Nat) (hn0 : n0 = w.heap.size) (hgd : o.guard = none) (s x : Operand) (ho : o.op = .call { callee := .builtin .append, args := #[s, x], argTypes := #[23, 23] })
    (B g cap : Nat) (zs : List Int) (n : Nat) (hn : zs.length = n) (z : Int) (hs : a.eval s = .slice (some ⟨g, 0, none⟩) n cap) (hown : OwnI B w g cap zs) (hx : a.eval x = .slice (some ⟨n0, 0, none⟩) 1 1) (hlen : n + 1 ≤ 1000000) (hB : B ≤ w.heap.size)
    (h : ∀ g cap w', OwnI B w' g cap (zs ++ [z]) → Below B w w' → wpList Try.prog ops Q rest (a.put o.dst (.slice (some ⟨g, 0, none⟩) (n + 1) cap)) w') :
    wpList Try.prog ops Q (o :: rest) a (w.alloc (.cells #[.int .i64 z] 3)) := by
  subst hn0
  subst hn
  obtain ⟨i0, hi, hz0, hz1, hz2⟩ := info_parts Try.infoI
  refine wpList_append_own _ hgd s x 23 ho B 3 i0 _ 1 _ Try.underlying23 hi hz0 hz1 hz2 rfl (by decide) _ zs.length _ hs (World.ownsRow.alloc hown _) ⟨w.heap.size, 0, none⟩ 1 1 [.int .i64 z] hx rfl (cell_one_new _ _ _) (by simp [Value.oneCell']) (by unfold maxLen; omega) (by omega) (by simp; omega) ?_
  intro v' w' hown' hgrow _
  obtain ⟨g', cap', rfl⟩ : ∃ g' cap', v' = .slice (some ⟨g', 0, none⟩) (zs.length + 1) cap' := by
    rcases hown'.2 with ⟨_, h0⟩ | ⟨g', cap', _, e, _⟩
    · omega
    · exact ⟨g', cap', e⟩
  refine h g' cap' w' ?_ (((Below.refl _ _).alloc hB _).grown hgrow (by simp; omega) (fun k hk => (World.ownsRow.lt hown k hk).1))
  unfold OwnI
  rw [List.length_append, List.map_append]
  exact hown'
end

theorem OwnI.new {B : Nat} (w : World) (hB : B ≤ w.heap.size) : OwnI B (w.alloc (.cells #[] 3)) w.heap.size 0 [] := by
  have := World.ownsRow_lit (base := B) (e := 3) (size := 1) w #[] 0 hB (Nat.zero_le _) rfl
  exact this

theorem bndL_succ (n s j : Nat) : (List.range (j + 1)).map (bnd n s) = (List.range j).map (bnd n s) ++ [bnd n s j] := by
  rw [List.range_succ, List.map_append]
  rfl

set_option maxHeartbeats 1000000 in
theorem refBounds_any (n s : Nat) (hn : n ≤ 1048576) (h1 : 1 ≤ s) (h2 : s ≤ 4096) (w : World) :
    Calls Try.prog 12 #[.int .i64 n, .int .i64 s] w fun e w' => ∃ g cap, e = .returned (.slice (some ⟨g, 0, none⟩) (s + 1) cap) ∧ OwnI w.heap.size w' g cap (bndL n s) ∧ Below w.heap.size w w' := by
  go_enter Try.func12, Try.ntmps12
  have O0 := hide (OwnI.new (B := w.heap.size) w (Nat.le_refl _))
  have B0 : Hid (Below w.heap.size w (w.alloc (.cells #[] 3))) := (Below.refl _ w).alloc (Nat.le_refl _) _
  go_wp2
  go_loopw [5, 6] (fun l k wr => ∃ (j g cap : Nat), j ≤ s + 1 ∧ k = .int .i64 j ∧ l = .slice (some ⟨g, 0, none⟩) j cap ∧ Hid (OwnI w.heap.size wr g cap ((List.range j).map (bnd n s))) ∧ Hid (Below w.heap.size w wr)) (fun _ k _ => s + 1 - (intOf k).toNat)
  case atStart => exact ⟨0, w.heap.size, 0, by omega, rfl, rfl, O0, B0⟩
  case round =>
    obtain ⟨j, g, cap, hj, rfl, rfl, HO, HB⟩ := hrel
    by_cases hlt : j ≤ s
    · have hlt' : (j : Int) ≤ (s : Int) := by omega
      obtain ⟨m1, m2⟩ := mul_le_big (i := j) (n := n) (by omega) hn
      have e4 : IntKind.i64.wrap ((j : Int) * (n : Int)) = (j : Int) * (n : Int) := by rw [IntKind.wrap_i64]; omega
      have e6 := bnd_le (n := n) (s := s) (i := j) (by omega)
      have e5 : ((j : Int) * (n : Int)).tdiv (s : Int) = bnd n s j := by rw [Int.tdiv_eq_ediv_of_nonneg m2, bnd_ediv]
      have e8 : IntKind.i64.wrap (bnd n s j) = bnd n s j := by rw [IntKind.wrap_i64]; omega
      have hsz := HB.out.size
      go_wp2_with (at_builtin; refine wp_pushI wr _ rfl rfl _ _ rfl w.heap.size g cap ((List.range j).map (bnd n s)) j (by simp) (bnd n s j) rfl HO.out rfl (by omega) hsz ?_; intro g2 cap2 w2 o2 b2; have O2 := hide o2; have B2 := hide b2; clear o2 b2)
      refine ⟨⟨j + 1, g2, cap2, by omega, by go_num, rfl, ?_, HB.out.trans B2.out⟩, by simp [intOf]; omega⟩
      rw [bndL_succ]
      exact O2
    · have hlt' : ¬ (j : Int) ≤ (s : Int) := by omega
      obtain rfl : j = s + 1 := by omega
      go_wp2
      go_ret
      exact ⟨_, _, rfl, HO.out, HB.out⟩

set_option maxHeartbeats 1000000 in
theorem refOf_any (n s v : Nat) (hn : n ≤ 1048576) (h1 : 1 ≤ s) (h2 : s ≤ 4096) (hv : v < n) (w : World) :
    Calls Try.prog 13 #[.int .i64 n, .int .i64 s, .int .i64 v] w fun e w' => e = .returned (.int .i64 (ofN n s v)) ∧ w' = w := by
  have hq := ofN_lt hv h1
  go_enter Try.func13, Try.ntmps13
  go_wp2
  go_loop [7] (fun k => ∃ j : Nat, j ≤ ofN n s v ∧ k = .int .i64 j) (fun k => s - (intOf k).toNat)
  case atStart => exact ⟨0, Nat.zero_le _, rfl⟩
  case round =>
    obtain ⟨j, hj, rfl⟩ := hrel
    obtain ⟨m1, m2⟩ := mul_le_big (i := j + 1) (n := n) (by omega) hn
    have m1' : ((j : Int) + 1) * (n : Int) ≤ 4294967296 := m1
    have m2' : 0 ≤ ((j : Int) + 1) * (n : Int) := m2
    clear m1 m2
    have e4 : IntKind.i64.wrap (((j : Int) + 1) * (n : Int)) = ((j : Int) + 1) * (n : Int) := by rw [IntKind.wrap_i64]; omega
    have e6 := bnd_le (n := n) (s := s) (i := j + 1) (by omega)
    have e5 : (((j : Int) + 1) * (n : Int)).tdiv (s : Int) = bnd n s (j + 1) := by rw [Int.tdiv_eq_ediv_of_nonneg m2']; exact bnd_ediv n s (j + 1)
    have e8 : IntKind.i64.wrap (bnd n s (j + 1)) = bnd n s (j + 1) := by rw [IntKind.wrap_i64]; omega
    by_cases hlt : j < ofN n s v
    · have hlo := ofN_lo (n := n) (v := v) h1
      have hmo := bnd_mono (n := n) (s := s) (show j + 1 ≤ ofN n s v by omega)
      have hle : bnd n s (j + 1) ≤ (v : Int) := by unfold bnd; omega
      go_wp2
      refine ⟨⟨j + 1, by omega, by go_num⟩, by simp [intOf]; omega⟩
    · obtain rfl : j = ofN n s v := by omega
      have hhi := ofN_hi hv h1
      have hle : ¬ bnd n s (ofN n s v + 1) ≤ (v : Int) := by unfold bnd; omega
      go_wp2
      go_ret
      exact ⟨rfl, rfl⟩

/-! ### What the statements ask in any case -/
set_option maxHeartbeats 1000000 in
theorem shown_any (w : World) : Calls Try.prog 8 #[] w fun e w' => e = .returned (.bool true) ∧ Below w.heap.size w w' := by
  have S1 := hide (bounds_go 5 2 (by omega) (by omega) (by omega) w)
  go_enter Try.func8, Try.ntmps8
  go_wp2_with fail
  refine S1.out.mono ?_
  rintro e w1 ⟨g, rfl, o1, b1⟩
  have c0 : w1.cell? ⟨g, 0, none⟩ = some (.int .i64 0) := o1.cell 0 (by rw [bndL_length]; omega)
  have c1 : w1.cell? ⟨g, 1, none⟩ = some (.int .i64 2) := o1.cell 1 (by rw [bndL_length]; omega)
  have c2 : w1.cell? ⟨g, 2, none⟩ = some (.int .i64 5) := o1.cell 2 (by rw [bndL_length]; omega)
  have B1 := hide b1
  clear b1 o1 S1
  go_wp2_with fail
  refine (of_go 5 2 2 (by omega) (by omega) (by omega) (by omega) w1).mono ?_
  rintro e w2 ⟨rfl, rfl⟩
  go_wp2_with fail
  refine (of_out 5 2 5 (by decide) (by omega) w2).mono ?_
  rintro e w3 ⟨rfl, rfl⟩
  go_wp2_with fail
  refine (bounds_no 1 0 (by decide) w3).mono ?_
  rintro e w4 ⟨rfl, rfl⟩
  have o1 : ((ofN 5 2 2 : Nat) : Int) = 1 := by decide
  rw [o1]
  go_wp2
  go_ret
  exact ⟨rfl, B1.out⟩

theorem and_low (m k : Nat) (hm : m < 64) (n c : Int) (hc : c = ((2 ^ m - 1 : Nat) : Int)) (hk : k = 2 ^ m) : bits .and .i64 n c = n % (k : Int) := by
  subst hk
  subst hc
  have h2 : (2 : Nat) ^ m ≤ 2 ^ 63 := Nat.pow_le_pow_right (by omega) (by omega)
  have hpos : 0 < (2 : Nat) ^ m := Nat.pow_pos (by omega)
  have hm' : (BitVec.ofInt 64 ((2 ^ m - 1 : Nat) : Int)).toNat = 2 ^ m - 1 := by
    rw [BitVec.toNat_ofInt]
    simp only [Nat.reducePow] at h2 ⊢
    omega
  have key : (BitVec.ofInt 64 n &&& BitVec.ofInt 64 ((2 ^ m - 1 : Nat) : Int)).toNat = (n % ((2 ^ 64 : Nat) : Int)).toNat % 2 ^ m := by
    rw [BitVec.toNat_and, BitVec.toNat_ofInt, hm', Nat.and_two_pow_sub_one_eq_mod]
  show IntKind.i64.wrap ((BitVec.ofInt 64 n &&& BitVec.ofInt 64 ((2 ^ m - 1 : Nat) : Int)).toNat : Nat) = n % ((2 ^ m : Nat) : Int)
  rw [key, IntKind.wrap_i64]
  have hd : ((2 ^ m : Nat) : Int) ∣ ((2 ^ 64 : Nat) : Int) := by exact_mod_cast Nat.pow_dvd_pow 2 (by omega)
  have e1 : (((n % ((2 ^ 64 : Nat) : Int)).toNat % 2 ^ m : Nat) : Int) = n % ((2 ^ m : Nat) : Int) := by
    rw [Int.natCast_emod, Int.toNat_of_nonneg (Int.emod_nonneg _ (by decide)), Int.emod_emod_of_dvd _ hd]
  rw [e1]
  have b0 := Int.emod_nonneg n (show ((2 ^ m : Nat) : Int) ≠ 0 by omega)
  have b1 := Int.emod_lt_of_pos n (show (0 : Int) < ((2 ^ m : Nat) : Int) by omega)
  simp only [Nat.reducePow] at h2
  omega
theorem and65535 (n : Int) : bits .and .i64 n 65535 = n % 65536 := and_low 16 65536 (by omega) n 65535 (by decide) (by decide)
theorem and1048575 (n : Int) : bits .and .i64 n 1048575 = n % 1048576 := and_low 20 1048576 (by omega) n 1048575 (by decide) (by decide)
theorem and16777215 (n : Int) : bits .and .i64 n 16777215 = n % 16777216 := and_low 24 16777216 (by omega) n 16777215 (by decide) (by decide)
end Go.Proofs.Ytkogbljfeecnhaa
