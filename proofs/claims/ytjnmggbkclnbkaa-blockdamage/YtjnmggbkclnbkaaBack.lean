/-
  What slices.Backward over bytes does, for whatever loop body. A lemma file: no statement of the seat is proved here.
-/
import Derived.RangeFuncNested
import Derived.RangeFuncBound
import Derived.RangeFuncCalls
import Derived.RangeFuncLeaves
import Derived.Shelf.Abstract
import Derived.Shelf.RegionOpen
import Derived.WalkKit
import Derived.OwnWalkIn
import Derived.TacticsInMore
import Derived.LoopNIn
import Derived.LoopIn
import Derived.Test.YtjnmggbkclnbkaaBase
namespace Go.Proofs.Ytjnmggbkclnbkaa
open Go.RowKit Go.Shelf

attribute [local go_sem] Oper.semAt_some

/-- What has come when k rounds are over, of bytes that are gone through from the last: the places, and the bytes. -/
def downto (bs : List Int) (k : Nat) : List (Int × Int) := (List.range k).map fun (j : Nat) => ((bs.length : Int) - 1 - j, bs[bs.length - 1 - j]?.getD 0)
theorem downto_succ (bs : List Int) (k : Nat) : downto bs (k + 1) = downto bs k ++ [((bs.length : Int) - 1 - k, bs[bs.length - 1 - k]?.getD 0)] := by simp [downto, List.range_succ]
theorem downto_length (bs : List Int) (k : Nat) : (downto bs k).length = k := by simp [downto]

/-- What a round keeps: all that lay below n₀, and the box of the slice. -/
def KeepB (n₀ Bs : Nat) (A B : World) : Prop := Below n₀ A B ∧ B.cell? ⟨Bs, 0, none⟩ = A.cell? ⟨Bs, 0, none⟩
theorem keepB_t {n₀ Bs : Nat} {A B C : World} (h : KeepB n₀ Bs A B) (k : KeepB n₀ Bs B C) : KeepB n₀ Bs A C := ⟨h.1.trans k.1, k.2.trans h.2⟩
theorem keepB_b {n₀ Bs : Nat} {w : World} (hn : n₀ ≤ w.heap.size) (hB : Bs < w.heap.size) (W : World) (l : Nat) (o o' : Obj) (hl : w.heap.size ≤ l) (h : W.heap[l]? = some o) (hc : o.isCells = false) (hk : o.isWalk = false) : KeepB n₀ Bs W (W.putObj l o') :=
  ⟨belowK_b hn W l o o' hl h hc hk, World.cell?_of_block (w := W) ((grownBy_putObj' W l o').block Bs (by have := (Array.getElem?_eq_some_iff.1 h).1; show Bs < _; omega) (by simp; omega))⟩

set_option maxRecDepth 100000 in
set_option maxHeartbeats 2000000 in
theorem back1_in (F : Fence) (n : Nat) (hfn : F.fn 30) (hro : F.round = none) (hn : 1 ≤ n) (l Bs : Nat) (v : Value) (bs : List Int) (hreach : bs.length ≤ 140737488355328) (W0 : World) (J Jx : List (Int × Int) → World → Prop)
    (hY : ∀ pre x W, J pre W → pre.length < bs.length → YieldAt F (n - 1) Try.prog l #[.int .i64 x.1, .int .u8 x.2] W fun e W' =>
      (e = .returned (.bool true) ∧ J (pre ++ [x]) W' ∧ KeepB W0.heap.size Bs W W') ∨ (e = .returned (.bool false) ∧ Jx (pre ++ [x]) W'))
    (W : World) (hBs : W.cell? ⟨Bs, 0, none⟩ = some v) (hI : IsB W0 v bs) (hW : Below W0.heap.size W0 W) (h0 : J [] W) :
    CallsIn F n Try.prog 30 #[.func (.yield l) #[] #[], .pointer (some ⟨Bs, 0, none⟩)] W fun e W' => (∃ v, e = .returned v) ∧
      ((∃ ys, ys = downto bs bs.length ∧ J ys W') ∨ (∃ pre, (∃ k, k ≤ bs.length ∧ pre = downto bs k) ∧ Jx pre W')) := by
  obtain ⟨a, cap, rfl, hlc⟩ := hI.form
  refine callsIn_of_wp Try.func30 rfl hfn ?_ hro
  simp only [Try.ntmps30, List.size_toArray, List.length_cons, List.length_nil, Nat.reduceAdd, Nat.reduceSub, Array.replicate_succ, Array.replicate_zero, List.push_toArray, List.append_toArray, List.nil_append, List.cons_append]
  gi_wp2
  gi_loopw [3] (fun i wr => ∃ k : Nat, k ≤ bs.length ∧ i = .int .i64 ((bs.length : Int) - 1 - k) ∧ J (downto bs k) wr ∧ KeepB W0.heap.size Bs W wr)
    (fun i _ => (intOf i + 1).toNat)
  case atStart => exact ⟨0, Nat.zero_le _, by simp, h0, Below.refl _ _, rfl⟩
  case round =>
    obtain ⟨k, hk, rfl, hJs, hnx⟩ := hrel
    have hBs' : wr.cell? ⟨Bs, 0, none⟩ = some (.slice a bs.length cap) := hnx.2.trans hBs
    by_cases hlt : k < bs.length
    · obtain ⟨b, off, cap', he, _, hc⟩ := hI.opened (by omega)
      simp only [Value.slice.injEq, true_and] at he
      obtain ⟨rfl, rfl⟩ := he
      have hc0 := hc (bs.length - 1 - k) (by omega)
      have hbb := World.block_lt_of_cell? W0 _ hc0
      have hc1 : wr.cell? ⟨b, off + (bs.length - 1 - k), none⟩ = _ := ((hW.trans hnx.1).cell (p := ⟨b, off + (bs.length - 1 - k), none⟩) hbb).trans hc0
      obtain ⟨fn, tmps, assign, body, hy, hR⟩ := hY _ ((bs.length : Int) - 1 - k, bs[bs.length - 1 - k]?.getD 0) wr hJs (by rw [downto_length]; exact hlt)
      dsimp only at hy
      clear hc hc0
      gi_wp2
      refine hR.mono ?_
      rintro e W3 (⟨rfl, hJ3, hk3⟩ | ⟨rfl, hJx3⟩)
      · gi_wp2
        go_roundw
        case rel => exact ⟨k + 1, by omega, by simp; omega, by rw [downto_succ]; exact hJ3, keepB_t hnx hk3⟩
        case measure => simp [intOf]; omega
      · gi_wp2
        refine bodyPost_ret (results_none rfl _ _ _) rfl ?_
        exact ⟨⟨_, rfl⟩, .inr ⟨_, ⟨k + 1, by omega, (downto_succ _ _).symm⟩, hJx3⟩⟩
    · obtain rfl : k = bs.length := by omega
      gi_wp2
      go_end0
      exact ⟨⟨_, rfl⟩, .inl ⟨_, rfl, hJs⟩⟩

set_option maxHeartbeats 1000000 in
/-- slices.Backward(s): the slice value is boxed; the function value captures the box. -/
theorem back_in (F : Fence) (n : Nat) (hfn : F.fn 29) (hro : F.round = none) (a : Option Addr) (len cap : Nat) (w : World) :
    CallsIn F n Try.prog 29 #[.slice a len cap] w fun e w' => e = .returned (.func (.func 30) #[] #[.pointer (some ⟨w.heap.size, 0, none⟩)]) ∧ w' = w.alloc (.cells #[.slice a len cap] 25) := by
  refine callsIn_of_wp Try.func29 rfl hfn ?_ hro
  simp only [Try.ntmps29, List.size_toArray, List.length_cons, List.length_nil, Nat.reduceAdd, Nat.reduceSub, Array.replicate_succ, Array.replicate_zero, List.push_toArray, List.append_toArray, List.nil_append, List.cons_append]
  gi_wp2
  go_ret
  exact ⟨rfl, rfl⟩

/-- slices.Backward(s) hands back a value that goes through the bytes from the last. -/
theorem back_stops (F : Fence) (n : Nat) (hfn : F.fn 30) (hro : F.round = none) (hn : 1 ≤ n) (Bs : Nat) (v : Value) (bs : List Int) (hreach : bs.length ≤ 140737488355328) (W0 w : World) (hBs : Bs < w.heap.size)
    (hc : w.cell? ⟨Bs, 0, none⟩ = some v) (hI : IsB W0 v bs) (hW : Below W0.heap.size W0 w) :
    SeqStopsK F n Try.prog 30 #[.pointer (some ⟨Bs, 0, none⟩)] (fun x : Int × Int => #[Value.int .i64 x.1, Value.int .u8 x.2]) (KeepB W0.heap.size Bs) (fun ys => ys = downto bs bs.length)
      (fun pre => ∃ k, k ≤ bs.length ∧ pre = downto bs k) bs.length w := fun l J Jx W hW1 _ _ hY h0 =>
  back1_in F n hfn hro hn l Bs v bs hreach W0 J Jx hY W ((hW1.cell (p := ⟨Bs, 0, none⟩) hBs).trans hc) hI (hW.trans (hW1.mono hW.size)) h0

end Go.Proofs.Ytjnmggbkclnbkaa
