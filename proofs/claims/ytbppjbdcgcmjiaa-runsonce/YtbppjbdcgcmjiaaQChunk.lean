/-
  What slices.Chunk over records does, for whatever loop body. A lemma file: no statement of the seat is proved here.
-/
import Derived.Shelf.Abstract
import Derived.Shelf.RegionOpen
import Derived.WalkKit
import Derived.TacticsInMore
import Derived.LoopNIn
import Derived.LoopIn
import Derived.Test.YtbppjbdcgcmjiaaQRowX
namespace Go.Proofs.Ytbppjbdcgcmjiaa
open Go.RowKit Go.Shelf

attribute [local go_sem] Oper.semAt_some

/-- Piece k of a slice that is cut by n. -/
def pcV (b off len n k : Nat) : Value := .slice (some ⟨b, off + k * n * 2, none⟩) (min n (len - k * n)) (min n (len - k * n))
/-- How many there are. -/
def pcN (len n : Nat) : Nat := (len + n - 1) / n
theorem pcN_lt {len n k : Nat} (hn : 0 < n) : k < pcN len n ↔ k * n < len := by
  unfold pcN
  rw [Nat.lt_div_iff_mul_lt hn]
  omega

/-- What a round keeps: all that lay below n₀, and two boxes. -/
def KeepC (n₀ B1 B2 : Nat) (A B : World) : Prop := Below n₀ A B ∧ B.cell? ⟨B1, 0, none⟩ = A.cell? ⟨B1, 0, none⟩ ∧ B.cell? ⟨B2, 0, none⟩ = A.cell? ⟨B2, 0, none⟩
theorem keepC_t {n₀ B1 B2 : Nat} {A B C : World} (h : KeepC n₀ B1 B2 A B) (k : KeepC n₀ B1 B2 B C) : KeepC n₀ B1 B2 A C := ⟨h.1.trans k.1, k.2.1.trans h.2.1, k.2.2.trans h.2.2⟩
theorem keepC_b {n₀ B1 B2 : Nat} {w : World} (hn : n₀ ≤ w.heap.size) (hB1 : B1 < w.heap.size) (hB2 : B2 < w.heap.size) (W : World) (l : Nat) (o o' : Obj) (hl : w.heap.size ≤ l) (h : W.heap[l]? = some o) (hc : o.isCells = false) (hk : o.isWalk = false) : KeepC n₀ B1 B2 W (W.putObj l o') :=
  ⟨belowK_b hn W l o o' hl h hc hk, World.cell?_of_block (w := W) ((grownBy_putObj' W l o').block B1 (by have := (Array.getElem?_eq_some_iff.1 h).1; show B1 < _; omega) (by simp; omega)), World.cell?_of_block (w := W) ((grownBy_putObj' W l o').block B2 (by have := (Array.getElem?_eq_some_iff.1 h).1; show B2 < _; omega) (by simp; omega))⟩

set_option maxRecDepth 100000 in
set_option maxHeartbeats 2000000 in
theorem chunk1_in (m : Nat) (hm : 1 ≤ m) (l B1 B2 b off len cap n : Nat) (ad : Option Addr) (had : 0 < len → ad = some ⟨b, off, none⟩) (hcap : len ≤ cap) (hlen : len ≤ 1000000) (hn : 0 < n) (hn1 : n ≤ 1000000) (n₀ n₁ : Nat) (J Jx : List Nat → World → Prop)
    (hY : ∀ pre x W, J pre W → pre.length < pcN len n → YieldAt Fence.wide (m - 1) Try.prog l #[pcV b off len n x] W fun e W' =>
      (e = .returned (.bool true) ∧ J (pre ++ [x]) W' ∧ KeepC n₀ B1 B2 W W') ∨ (e = .returned (.bool false) ∧ Jx (pre ++ [x]) W'))
    (hab : AbidesFrom n₁ J) (W : World) (h1 : W.cell? ⟨B1, 0, none⟩ = some (.slice ad len cap)) (h2 : W.cell? ⟨B2, 0, none⟩ = some (.int .i64 n)) (h0 : J [] W) :
    CallsIn Fence.wide m Try.prog 33 #[.func (.yield l) #[] #[], .pointer (some ⟨B1, 0, none⟩), .pointer (some ⟨B2, 0, none⟩)] W fun e W' => (∃ v, e = .returned v) ∧
      ((∃ ys, ys = List.range (pcN len n) ∧ J ys W') ∨ (∃ pre, (∃ k, k ≤ pcN len n ∧ pre = List.range k) ∧ Jx pre W')) := by
  refine callsIn_of_wp Try.func33 rfl trivial ?_ rfl
  simp only [Try.ntmps33, List.size_toArray, List.length_cons, List.length_nil, Nat.reduceAdd, Nat.reduceSub, Array.replicate_succ, Array.replicate_zero, List.push_toArray, List.append_toArray, List.nil_append, List.cons_append]
  gi_wp2
  gi_loopw [4] (fun i wr => ∃ k p : Nat, k ≤ pcN len n ∧ p = k * n ∧ i = .int .i64 (p : Int) ∧ Hid (J (List.range k) wr ∧ KeepC n₀ B1 B2 W wr))
    (fun i _ => len + n - numOf i)
  case atStart => exact ⟨0, 0, Nat.zero_le _, by simp, rfl, h0, Below.refl _ _, rfl, rfl⟩
  case round =>
    obtain ⟨k, p, hk, hp, rfl, HJ⟩ := hrel
    have hB1 : wr.cell? ⟨B1, 0, none⟩ = some (.slice ad len cap) := HJ.out.2.2.1.trans h1
    have hB2 : wr.cell? ⟨B2, 0, none⟩ = some (.int .i64 n) := HJ.out.2.2.2.trans h2
    by_cases hlt : p < len
    · obtain rfl := had (by omega)
      have hklt : k < pcN len n := by rw [pcN_lt hn, ← hp]; exact hlt
      obtain ⟨en, hen⟩ : ∃ en, en = min n (len - p) := ⟨_, rfl⟩
      have hmin : ∀ (ts : Array TypeId) (t : TypeId) (w : World), (Builtin.min_ ts t #[.int .i64 (n : Int), .int .i64 ((len - p : Nat) : Int)]).run Try.prog w = .ok (.int .i64 (en : Int)) w := fun ts t w => by
        rw [run_min_int2]
        congr 2
        split <;> omega
      have hw1 : IntKind.i64.wrap ((p : Int) + (en : Int)) = (p : Int) + (en : Int) := i64_small _ (by omega) (by omega)
      have hw2 : IntKind.i64.wrap ((p : Int) + (n : Int)) = (p : Int) + (n : Int) := i64_small _ (by omega) (by omega)
      have hple : (p : Int) ≤ (len : Int) := by omega
      have hen1 : (p : Int) + (en : Int) ≤ (len : Int) := by omega
      have hmi : min (n : Int) ((len - p : Nat) : Int) = (en : Int) := by omega
      have htn : ((p : Int) + (en : Int)).toNat - p = en := by omega
      have HEN := hide (And.intro hen hp)
      have HY := hide hY
      clear hen hY hp
      gi_wp2
      gi_quiet (fail)
      have hJd : J (List.range k) (wr.drewN nq) := hab _ _ _ none HJ.out.1 ⟨rfl, rfl, rfl, Nat.le_refl _, fun _ _ _ => rfl⟩ (fun _ e => by cases e)
      obtain ⟨fn, tmps, assign, body, hy, hR⟩ := HY.out _ k (wr.drewN nq) hJd (by rw [List.length_range]; exact hklt)
      have hpc : pcV b off len n k = .slice (some ⟨b, off + p * 2, none⟩) en en := by rw [pcV, ← HEN.out.2, ← HEN.out.1]
      rw [hpc] at hy
      have HR := hide hR
      clear hR hJd hpc
      gi_wp2
      refine HR.out.mono ?_
      rintro e W3 (⟨rfl, hJ3, hk3⟩ | ⟨rfl, hJx3⟩)
      · have hB2' : W3.cell? ⟨B2, 0, none⟩ = some (.int .i64 n) := hk3.2.2.trans hB2
        have HJ3 := hide (And.intro hJ3 hk3)
        clear hJ3 hk3 hB1 hB2 HR
        gi_wp2
        go_roundw
        case rel =>
          have kd := HJ3.out.2
          have hk3' : KeepC n₀ B1 B2 wr W3 := ⟨⟨kd.1.os, kd.1.tape, kd.1.output, kd.1.size, kd.1.block⟩, kd.2.1, kd.2.2⟩
          refine ⟨k + 1, p + n, by omega, by rw [HEN.out.2, Nat.add_mul, Nat.one_mul], by go_num, ?_, keepC_t HJ.out.2 hk3'⟩
          have := HJ3.out.1
          rw [List.range_succ]
          exact this
        case measure => simp [numOf]; omega
      · gi_wp2
        refine bodyPost_ret (results_none rfl _ _ _) rfl ?_
        refine ⟨⟨_, rfl⟩, .inr ⟨_, ⟨k + 1, by omega, rfl⟩, ?_⟩⟩
        rw [List.range_succ]
        exact hJx3
    · have hke : k = pcN len n := by
        have h := pcN_lt (len := len) (k := k) hn
        rw [← hp] at h
        omega
      have HK := hide hke
      have hle : ¬ ((p : Int) < (len : Int)) := by omega
      clear hp hke
      gi_wp2
      go_end0
      exact ⟨⟨_, rfl⟩, .inl (by rw [← HK.out]; exact HJ.out.1)⟩

/-- slices.Chunk(s, n): both are boxed; the function value captures the boxes. -/
theorem chunk_in (m : Nat) (a : Option Addr) (len cap : Nat) (n : Nat) (hn : 0 < n) (w : World) :
    CallsIn Fence.wide m Try.prog 26 #[.slice a len cap, .int .i64 n] w fun e w' => e = .returned (.func (.func 33) #[] #[.pointer (some ⟨w.heap.size, 0, none⟩), .pointer (some ⟨w.heap.size + 1, 0, none⟩)]) ∧ w' = (w.alloc (.cells #[.slice a len cap] 22)).alloc (.cells #[.int .i64 n] 3) := by
  have h1 : (n : Int) ≥ 1 := by omega
  refine callsIn_of_wp Try.func26 rfl trivial ?_ rfl
  simp only [Try.ntmps26, List.size_toArray, List.length_cons, List.length_nil, Nat.reduceAdd, Nat.reduceSub, Array.replicate_succ, Array.replicate_zero, List.push_toArray, List.append_toArray, List.nil_append, List.cons_append]
  gi_wp2
  go_ret
  exact ⟨rfl, rfl⟩

theorem chunk_stops (m : Nat) (hm : 1 ≤ m) (B1 B2 b off len cap n : Nat) (ad : Option Addr) (had : 0 < len → ad = some ⟨b, off, none⟩) (hcap : len ≤ cap) (hlen : len ≤ 1000000) (hn : 0 < n) (hn1 : n ≤ 1000000) (n₀ : Nat) (w : World)
    (h1 : w.cell? ⟨B1, 0, none⟩ = some (.slice ad len cap)) (h2 : w.cell? ⟨B2, 0, none⟩ = some (.int .i64 n)) :
    SeqStopsK Fence.wide m Try.prog 33 #[.pointer (some ⟨B1, 0, none⟩), .pointer (some ⟨B2, 0, none⟩)] (fun x : Nat => #[pcV b off len n x]) (KeepC n₀ B1 B2) (fun ys => ys = List.range (pcN len n))
      (fun pre => ∃ k, k ≤ pcN len n ∧ pre = List.range k) (pcN len n) w := fun l J Jx W hW1 hab _ hY h0 =>
  chunk1_in m hm l B1 B2 b off len cap n ad had hcap hlen hn hn1 n₀ _ J Jx hY hab W ((hW1.cell (p := ⟨B1, 0, none⟩) (World.block_lt_of_cell? w _ h1)).trans h1) ((hW1.cell (p := ⟨B2, 0, none⟩) (World.block_lt_of_cell? w _ h2)).trans h2) h0

end Go.Proofs.Ytbppjbdcgcmjiaa
