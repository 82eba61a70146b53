/-
  Lemma texts, one behind the other: Base, Back, Put, Crc, Get, Kept, Com. No statement of the seat is proved here.
-/
import Derived.Test.YtgpbanjammipiaaGreatDoorRows
import Derived.WalkKit
import Derived.WalkSpells
import Derived.WalkLawsBesides
import Derived.Laws.BytesArg
import Derived.Laws.AppendOwnNone
import Derived.RangeFuncNested
import Derived.RangeFuncBound
import Derived.RangeFuncCalls
import Derived.RangeFuncLeaves
import Derived.Shelf.Abstract
import Derived.Shelf.RegionOpen
import Derived.OwnWalkIn
import Derived.TacticsInMore
import Derived.LoopNIn
import Derived.LoopIn
import Derived.Maps.OwnSet
import Derived.Maps.AppendAt
import Derived.Lib.AppendZeros
namespace Go.Proofs.YtgpbanjammipiaaGreatDoor
open Go.RowKit

theorem Tryz.infoU8 : (Tryz.prog.info? 5).map (fun i => (i.zero, i.size, i.bytes)) = some (some (.int .u8 0), 1, 1) := by kernel_rfl

theorem hide {p : Prop} (h : p) : Hid p := h

/-- The slice value v holds the bytes bs. -/
def IsB (w : World) (v : Value) (bs : List Int) : Prop :=
  ∃ (a : Option Addr) (cap : Nat), v = .slice a bs.length cap ∧ bs.length ≤ cap ∧ (a = none → bs = [] ∧ cap = 0) ∧
    (∀ x, a = some x → ∀ j, j < bs.length → w.cell? (x.add j) = some (.int .u8 (bs[j]?.getD 0))) ∧ ∀ z ∈ bs, 0 ≤ z ∧ z ≤ 255

theorem cells_kept {w w1 : World} {x : Addr} {bs : List Int} (hg : ∀ k, k < w.heap.size → w1.heap[k]? = w.heap[k]?) (hc : ∀ j, j < bs.length → w.cell? (x.add j) = some (.int .u8 (bs[j]?.getD 0))) :
    ∀ j, j < bs.length → w1.cell? (x.add j) = some (.int .u8 (bs[j]?.getD 0)) := by
  intro j hj
  have h := hc j hj
  have hlt := World.block_lt_of_cell? w _ h
  rw [World.cell?_of_block (w := w) (hg _ hlt)]
  exact h

theorem cells_news {w : World} {x : Addr} {bs : List Int} (hc : ∀ j, j < bs.length → w.cell? (x.add j) = some (.int .u8 (bs[j]?.getD 0))) :
    ∀ j u, (bs.map (Value.int .u8))[j]? = some u → w.cell? (x.add j) = some u := by
  intro j u hu
  have hj : j < bs.length := by simpa using (List.getElem?_eq_some_iff.1 hu).1
  rw [hc j hj]
  simp [hj] at hu
  simp [hj, hu]

theorem IsB.below {w w' : World} {v : Value} {bs : List Int} (h : IsB w v bs) (hb : Below w.heap.size w w') : IsB w' v bs := by
  obtain ⟨a, cap, rfl, h1, h2, h3, h4⟩ := h
  exact ⟨a, cap, rfl, h1, h2, fun x hx => cells_kept (fun k hk => hb.block k hk) (h3 x hx), h4⟩

theorem IsB.nil (w : World) : IsB w (.slice none 0 0) [] := ⟨none, 0, rfl, Nat.le_refl _, fun _ => ⟨rfl, rfl⟩, by simp, by simp⟩

theorem IsB.bytes {w : World} {v : Value} {bs : List Int} (h : IsB w v bs) : ∀ z ∈ bs, 0 ≤ z ∧ z ≤ 255 := by
  obtain ⟨a, cap, rfl, h1, h2, h3, h4⟩ := h
  exact h4

/-- A slice that is not empty leads to memory. -/
theorem IsB.opened {w : World} {v : Value} {bs : List Int} (h : IsB w v bs) (h0 : 0 < bs.length) :
    ∃ b off cap, v = .slice (some ⟨b, off, none⟩) bs.length cap ∧ bs.length ≤ cap ∧ ∀ j, j < bs.length → w.cell? ⟨b, off + j, none⟩ = some (.int .u8 (bs[j]?.getD 0)) := by
  obtain ⟨a, cap, rfl, h1, h2, h3, h4⟩ := h
  cases a with
  | none => simp [(h2 rfl).1] at h0
  | some x =>
    obtain ⟨b, off, spot⟩ := x
    have hc := h3 _ rfl 0 h0
    have hspot : spot = none := by simpa [Addr.add] using World.cell?_spot hc
    subst hspot
    refine ⟨b, off, cap, rfl, h1, fun j hj => ?_⟩
    have := h3 _ rfl j hj
    rw [Addr.add_lit] at this
    exact this

/-- A slice's form. -/
theorem IsB.form {w : World} {v : Value} {bs : List Int} (h : IsB w v bs) : ∃ a cap, v = .slice a bs.length cap ∧ bs.length ≤ cap := by
  obtain ⟨a, cap, rfl, h1, _⟩ := h
  exact ⟨a, cap, rfl, h1⟩

/-- A slice's front. -/
theorem IsB.take {w : World} {a : Option Addr} {len cap : Nat} {bs : List Int} (h : IsB w (.slice a len cap) bs) (k : Nat) (hk : k ≤ len) : IsB w (.slice a k cap) (bs.take k) := by
  obtain ⟨a', cap', he, h1, h2, h3, h4⟩ := h
  simp only [Value.slice.injEq] at he
  obtain ⟨rfl, rfl, rfl⟩ := he
  have hl : (bs.take k).length = k := by simp; omega
  refine ⟨a, cap, by rw [hl], by rw [hl]; omega, fun e => ?_, fun x hx j hj => ?_, fun z hz => h4 z (List.mem_of_mem_take hz)⟩
  · obtain ⟨rfl, rfl⟩ := h2 e
    simp
  · rw [hl] at hj
    rw [h3 x hx j (by omega), List.getElem?_take_of_lt hj]

/-- A slice's middle. -/
theorem IsB.mid {w : World} {b off len cap : Nat} {bs : List Int} (h : IsB w (.slice (some ⟨b, off, none⟩) len cap) bs) (p s : Nat) (hp : p + s ≤ len) : IsB w (.slice (some ⟨b, off + p, none⟩) s (cap - p)) ((bs.drop p).take s) := by
  obtain ⟨a', cap', he, h1, h2, h3, h4⟩ := h
  simp only [Value.slice.injEq] at he
  obtain ⟨rfl, rfl, rfl⟩ := he
  have hl : ((bs.drop p).take s).length = s := by simp; omega
  refine ⟨_, _, by rw [hl], by rw [hl]; omega, by simp, fun x hx j hj => ?_, fun z hz => h4 z (List.mem_of_mem_drop (List.mem_of_mem_take hz))⟩
  simp only [Option.some.injEq] at hx
  subst hx
  rw [hl] at hj
  have := h3 _ rfl (p + j) (by omega)
  rw [Addr.add_lit] at this
  rw [Addr.add_lit, Nat.add_assoc, this, List.getElem?_take_of_lt hj, List.getElem?_drop]

/-- The slice at the head of block g, of the call's own blocks from B on, holds the bytes bs. -/
def OwnB (B : Nat) (w : World) (g cap : Nat) (bs : List Int) : Prop :=
  w.ownsRow B 5 1 (.slice (some ⟨g, 0, none⟩) bs.length cap) bs.length (bs.map (Value.int .u8)) ∧ ∀ z ∈ bs, 0 ≤ z ∧ z ≤ 255

theorem OwnB.base {B : Nat} {w : World} {g cap : Nat} {bs : List Int} (h : OwnB B w g cap bs) : B ≤ g ∧ g < w.heap.size := h.1.lt g rfl

theorem OwnB.isB {B : Nat} {w : World} {g cap : Nat} {bs : List Int} (h : OwnB B w g cap bs) : IsB w (.slice (some ⟨g, 0, none⟩) bs.length cap) bs := by
  obtain ⟨⟨h1, h2⟩, h3⟩ := h
  rcases h2 with ⟨h, _⟩ | ⟨g', cap', cur, he, hg, hh, hn, hm, hs, ht⟩
  · simp at h
  · simp only [Value.slice.injEq, Option.some.injEq, Addr.mk.injEq, and_true, true_and] at he
    obtain ⟨rfl, rfl⟩ := he
    refine ⟨_, cap, rfl, hn, by simp, fun x hx j hj => ?_, h3⟩
    simp only [Option.some.injEq] at hx
    subst hx
    have e1 : (cur.toList.take bs.length)[j]? = (bs.map (Value.int .u8))[j]? := by rw [← ht]; simp
    rw [List.getElem?_take_of_lt hj] at e1
    simp [hj] at e1
    rw [Addr.add_lit]
    simp [World.cell?, hh, hj, e1]

theorem OwnB.len_le {B : Nat} {w : World} {g cap : Nat} {bs : List Int} (h : OwnB B w g cap bs) : bs.length ≤ cap := by
  obtain ⟨a, c, he, h1⟩ := h.isB.form
  simp only [Value.slice.injEq, true_and] at he
  omega

theorem OwnB.alloc {B : Nat} {w : World} {g cap : Nat} {bs : List Int} (h : OwnB B w g cap bs) (o : Obj) : OwnB B (w.alloc o) g cap bs := ⟨h.1.alloc o, h.2⟩

/-- What is owned stays, where all that was there stays. -/
theorem OwnB.below {B : Nat} {w w' : World} {g cap : Nat} {bs : List Int} (h : OwnB B w g cap bs) (hb : Below w.heap.size w w') : OwnB B w' g cap bs := by
  have hlt := h.base
  obtain ⟨⟨h1, h2⟩, h3⟩ := h
  refine ⟨⟨h1, ?_⟩, h3⟩
  rcases h2 with ⟨h, _⟩ | ⟨g', cap', cur, he, hg, hh, r⟩
  · simp at h
  · have hg' : g' = g := by simp at he; omega
    subst hg'
    exact .inr ⟨g', cap', cur, he, hg, by rw [hb.block _ hlt.2]; exact hh, r⟩

theorem OwnB.mono {B B' : Nat} {w : World} {g cap : Nat} {bs : List Int} (h : OwnB B w g cap bs) (hB : B' ≤ B) : OwnB B' w g cap bs := by
  obtain ⟨⟨h1, h2⟩, h3⟩ := h
  refine ⟨⟨h1, ?_⟩, h3⟩
  rcases h2 with h | ⟨g', cap', cur, he, hg, r⟩
  · exact .inl h
  · exact .inr ⟨g', cap', cur, he, by omega, r⟩

section
variable {ops : Array Oper} {rest : List Oper} {o : Oper} {a : Act} {Q : Exit → Act → World → Prop}

/-- 'row = append(row, z)', row of the call's own: z has just been laid in a new block. -/
theorem wp_push (w : World) (hgd : o.guard = none) (s x : Operand) (ho : o.op = .call { callee := .builtin .append, args := #[s, x], argTypes := #[46, 46] })
    (B g cap : Nat) (bs : List Int) (z : Int) (hs : a.eval s = .slice (some ⟨g, 0, none⟩) bs.length cap) (hown : OwnB B w g cap bs) (hx : a.eval x = .slice (some ⟨w.heap.size, 0, none⟩) 1 1)
    (hz : 0 ≤ z ∧ z ≤ 255) (hlen : bs.length + 1 ≤ 140737488355328) (hB : B ≤ w.heap.size)
    (h : ∀ g' cap' w', OwnB B w' g' cap' (bs ++ [z]) → Below B w w' → wpList Tryz.prog ops Q rest (a.put o.dst (.slice (some ⟨g', 0, none⟩) (bs.length + 1) cap')) w') :
    wpList Tryz.prog ops Q (o :: rest) a (w.alloc (.cells #[.int .u8 z] 5)) := by
  obtain ⟨i0, hi, hz0, hz1, hz2⟩ := info_parts Tryz.infoU8
  have hb := hown.base
  refine wpList_append_own _ hgd s x 46 ho B 5 i0 (.int .u8 0) 1 1 Tryz.underlying46 hi hz0 hz1 hz2 rfl (by decide) _ bs.length _ hs (hown.1.alloc _) ⟨w.heap.size, 0, none⟩ 1 1 [.int .u8 z] hx rfl (cell_one_new _ _ _) (by simp [Value.oneCell']) (by unfold maxLen; omega) (by omega) (by simp; omega) ?_
  intro v' w' hown' hgrow _
  have hsh : ∃ g' cap', v' = .slice (some ⟨g', 0, none⟩) (bs.length + 1) cap' := by
    rcases hown'.2 with ⟨_, h0⟩ | ⟨g', cap', _, rfl, _⟩
    · omega
    · exact ⟨g', cap', rfl⟩
  obtain ⟨g', cap', rfl⟩ := hsh
  refine h g' cap' w' ⟨?_, ?_⟩ ?_
  · simpa using hown'
  · intro y hy
    rcases List.mem_append.1 hy with hy | hy
    · exact hown.2 y hy
    · simp at hy
      subst hy
      exact hz
  · exact ((Below.refl _ _).alloc hB _).grown hgrow (by simp; omega) (by intro k hk; simp [Value.ownBlock] at hk; omega)

/-- 'append(row, b...)', row of the call's own, b whatever. -/
theorem wp_appendB (w : World) (hgd : o.guard = none) (s x : Operand) (ho : o.op = .call { callee := .builtin .append, args := #[s, x], argTypes := #[46, 46] })
    (B g cap : Nat) (bs cs : List Int) (v : Value) (hs : a.eval s = .slice (some ⟨g, 0, none⟩) bs.length cap) (hown : OwnB B w g cap bs) (hx : a.eval x = v) (hv : IsB w v cs)
    (hlen : bs.length + cs.length ≤ 140737488355328) (hB : B ≤ w.heap.size)
    (h : ∀ g' cap' w', OwnB B w' g' cap' (bs ++ cs) → Below B w w' → wpList Tryz.prog ops Q rest (a.put o.dst (.slice (some ⟨g', 0, none⟩) (bs.length + cs.length) cap')) w') :
    wpList Tryz.prog ops Q (o :: rest) a w := by
  obtain ⟨i0, hi, hz0, hz1, hz2⟩ := info_parts Tryz.infoU8
  have hb := hown.base
  obtain ⟨ad, c, rfl, h1, h2, h3, h4⟩ := hv
  cases ad with
  | none =>
    obtain ⟨rfl, rfl⟩ := h2 rfl
    refine wpList_append_own_none hgd s x 46 ho B 5 i0 1 Tryz.underlying46 hi _ _ _ hs hown.1 hx ?_
    have := h g cap w (by simpa using hown) (Below.refl _ _)
    simpa using this
  | some ad =>
    refine wpList_append_own _ hgd s x 46 ho B 5 i0 (.int .u8 0) 1 1 Tryz.underlying46 hi hz0 hz1 hz2 rfl (by decide) _ bs.length _ hs hown.1 ad cs.length c (cs.map (Value.int .u8)) hx (by simp) (cells_news (h3 ad rfl)) (ints_oneCell _ _) (by unfold maxLen; omega) (by omega) (by omega) ?_
    intro v' w' hown' hgrow hnil
    have hsh : ∃ g' cap', v' = .slice (some ⟨g', 0, none⟩) (bs.length + cs.length) cap' := by
      rcases hown'.2 with ⟨h0, _⟩ | ⟨g', cap', _, rfl, _⟩
      · simp [h0] at hnil
      · exact ⟨g', cap', rfl⟩
    obtain ⟨g', cap', rfl⟩ := hsh
    refine h g' cap' w' ⟨?_, ?_⟩ ?_
    · simpa using hown'
    · intro y hy
      rcases List.mem_append.1 hy with hy | hy
      · exact hown.2 y hy
      · exact h4 y hy
    · exact (Below.refl _ _).grown hgrow (by omega) (by intro k hk; simp [Value.ownBlock] at hk; omega)
end

/-- The string of bytes. -/
theorem conv_isB {w : World} {v : Value} {bs : List Int} (h : IsB w v bs) : (convert 46 9 v).run Tryz.prog w = .ok (.string (strOfNums bs)) w := by
  obtain ⟨a, cap, rfl, h1, h2, h3, h4⟩ := h
  cases a with
  | none =>
    obtain ⟨rfl, rfl⟩ := h2 rfl
    exact run_convert_bytes_nil w 46 5 Tryz.underlying46 Tryz.underlying5 _ _ 9 Tryz.underlying9
  | some x =>
    by_cases h0 : bs.length = 0
    · obtain rfl : bs = [] := List.eq_nil_of_length_eq_zero h0
      show (convert 46 9 (.slice (some x) 0 cap)).run Tryz.prog w = _
      rw [run_convert_bytes_string w 46 9 5 _ _ _ Tryz.underlying46 Tryz.underlying5 Tryz.underlying9, run_bytesToString w x 0 cap [] (by simpa using run_loadCells_list (P := Tryz.prog) w x [] (by simp))]
      rfl
    · obtain ⟨b, off, spot⟩ := x
      have hc := h3 _ rfl 0 (by omega)
      have hspot : spot = none := by simpa [Addr.add] using World.cell?_spot hc
      subst hspot
      refine run_convert_bytes_arg w 46 5 Tryz.underlying46 Tryz.underlying5 b off bs.length cap bs rfl (fun i hi => ?_) 9 Tryz.underlying9
      have := h3 _ rfl i hi
      rw [Addr.add_lit] at this
      simpa [List.getD] using this

/-- Two rows of bytes are the same string just if they are the same. -/
theorem strOfNums_inj {xs ys : List Int} (ha : ∀ z ∈ xs, 0 ≤ z ∧ z ≤ 255) (hb : ∀ z ∈ ys, 0 ≤ z ∧ z ≤ 255) (h : strOfNums xs = strOfNums ys) : xs = ys := by
  have h1 : xs.map (fun n => UInt8.ofNat n.toNat) = ys.map (fun n => UInt8.ofNat n.toNat) := by
    have := congrArg (fun s : ByteArray => s.data.toList) h
    simpa [strOfNums] using this
  induction xs generalizing ys with
  | nil => cases ys with
    | nil => rfl
    | cons b ys => simp at h1
  | cons a xs ih => cases ys with
    | nil => simp at h1
    | cons b ys =>
      simp only [List.map_cons, List.cons.injEq] at h1
      have ha0 := ha a (by simp)
      have hb0 := hb b (by simp)
      have e : a = b := by
        have h2 := congrArg UInt8.toNat h1.1
        simp at h2
        omega
      subst e
      have := ih (fun z hz => ha z (by simp [hz])) (fun z hz => hb z (by simp [hz])) (by simp [strOfNums, h1.2]) h1.2
      rw [this]

end Go.Proofs.YtgpbanjammipiaaGreatDoor

namespace Go.Proofs.YtgpbanjammipiaaGreatDoor
open Go.RowKit Go.Shelf

attribute [local go_sem] Oper.semAt_some

/-- What has come when k rounds are over, of bytes that are gone through from the last: the places, and the bytes. -/
def downto (bs : List Int) (k : Nat) : List (Int × Int) := (List.range k).map fun (j : Nat) => ((bs.length : Int) - 1 - j, bs[bs.length - 1 - j]?.getD 0)
theorem downto_succ (bs : List Int) (k : Nat) : downto bs (k + 1) = downto bs k ++ [((bs.length : Int) - 1 - k, bs[bs.length - 1 - k]?.getD 0)] := by simp [downto, List.range_succ]
theorem downto_length (bs : List Int) (k : Nat) : (downto bs k).length = k := by simp [downto]

/-- What a round keeps: all that lay below n₀, and the box of the slice. -/
def KeepB (n₀ Bs : Nat) (A B : World) : Prop := Below n₀ A B ∧ B.cell? ⟨Bs, 0, none⟩ = A.cell? ⟨Bs, 0, none⟩
theorem keepB_t {n₀ Bs : Nat} {A B C : World} (h : KeepB n₀ Bs A B) (k : KeepB n₀ Bs B C) : KeepB n₀ Bs A C := ⟨h.1.trans k.1, k.2.trans h.2⟩
theorem keepB_b {n₀ Bs : Nat} {w : World} (hn : n₀ ≤ w.heap.size) (hB : Bs < w.heap.size) (W : World) (l : Nat) (o o' : Obj) (hl : w.heap.size ≤ l) (h : W.heap[l]? = some o) (hc : o.isCells = false) (hk : o.isWalk = false) : KeepB n₀ Bs W (W.putObj l o') :=
  ⟨belowK_b hn W l o o' hl h hc hk, World.cell?_of_block (w := W) ((grownBy_putObj' W l o').block Bs (by have := (Array.getElem?_eq_some_iff.1 h).1; show Bs < _; omega) (by simp; omega))⟩

set_option maxRecDepth 100000 in
set_option maxHeartbeats 2000000 in
theorem back1_in (F : Fence) (n : Nat) (hfn : F.fn 120) (hro : F.round = none) (hn : 1 ≤ n) (l Bs : Nat) (v : Value) (bs : List Int) (hreach : bs.length ≤ 140737488355328) (W0 : World) (J Jx : List (Int × Int) → World → Prop)
    (hY : ∀ pre x W, J pre W → pre.length < bs.length → YieldAt F (n - 1) Tryz.prog l #[.int .i64 x.1, .int .u8 x.2] W fun e W' =>
      (e = .returned (.bool true) ∧ J (pre ++ [x]) W' ∧ KeepB W0.heap.size Bs W W') ∨ (e = .returned (.bool false) ∧ Jx (pre ++ [x]) W'))
    (W : World) (hBs : W.cell? ⟨Bs, 0, none⟩ = some v) (hI : IsB W0 v bs) (hW : Below W0.heap.size W0 W) (h0 : J [] W) :
    CallsIn F n Tryz.prog 120 #[.func (.yield l) #[] #[], .pointer (some ⟨Bs, 0, none⟩)] W fun e W' => (∃ v, e = .returned v) ∧
      ((∃ ys, ys = downto bs bs.length ∧ J ys W') ∨ (∃ pre, (∃ k, k ≤ bs.length ∧ pre = downto bs k) ∧ Jx pre W')) := by
  obtain ⟨a, cap, rfl, hlc⟩ := hI.form
  refine callsIn_of_wp Tryz.func120 rfl hfn ?_ hro
  simp only [Tryz.ntmps120, List.size_toArray, List.length_cons, List.length_nil, Nat.reduceAdd, Nat.reduceSub, Array.replicate_succ, Array.replicate_zero, List.push_toArray, List.append_toArray, List.nil_append, List.cons_append]
  gi_wp2
  gi_loopw [3] (fun i wr => ∃ k : Nat, k ≤ bs.length ∧ i = .int .i64 ((bs.length : Int) - 1 - k) ∧ J (downto bs k) wr ∧ KeepB W0.heap.size Bs W wr)
    (fun i _ => (intOf i + 1).toNat)
  case atStart => exact ⟨0, Nat.zero_le _, by simp, h0, Below.refl _ _, rfl⟩
  case round =>
    obtain ⟨k, hk, rfl, hJs, hnx⟩ := hrel
    have hBs' : wr.cell? ⟨Bs, 0, none⟩ = some (.slice a bs.length cap) := hnx.2.trans hBs
    by_cases hlt : k < bs.length
    · obtain ⟨b, off, cap', he, _, hc⟩ := hI.opened (by omega)
      simp only [Value.slice.injEq, true_and] at he
      obtain ⟨rfl, rfl⟩ := he
      have hc0 := hc (bs.length - 1 - k) (by omega)
      have hbb := World.block_lt_of_cell? W0 _ hc0
      have hc1 : wr.cell? ⟨b, off + (bs.length - 1 - k), none⟩ = _ := ((hW.trans hnx.1).cell (p := ⟨b, off + (bs.length - 1 - k), none⟩) hbb).trans hc0
      obtain ⟨fn, tmps, assign, body, hy, hR⟩ := hY _ ((bs.length : Int) - 1 - k, bs[bs.length - 1 - k]?.getD 0) wr hJs (by rw [downto_length]; exact hlt)
      dsimp only at hy
      clear hc hc0
      gi_wp2
      refine hR.mono ?_
      rintro e W3 (⟨rfl, hJ3, hk3⟩ | ⟨rfl, hJx3⟩)
      · gi_wp2
        go_roundw
        case rel => exact ⟨k + 1, by omega, by simp; omega, by rw [downto_succ]; exact hJ3, keepB_t hnx hk3⟩
        case measure => simp [intOf]; omega
      · gi_wp2
        refine bodyPost_ret (results_none rfl _ _ _) rfl ?_
        exact ⟨⟨_, rfl⟩, .inr ⟨_, ⟨k + 1, by omega, (downto_succ _ _).symm⟩, hJx3⟩⟩
    · obtain rfl : k = bs.length := by omega
      gi_wp2
      go_end0
      exact ⟨⟨_, rfl⟩, .inl ⟨_, rfl, hJs⟩⟩

set_option maxHeartbeats 1000000 in
/-- slices.Backward(s): the slice value is boxed; the function value captures the box. -/
theorem back_in (F : Fence) (n : Nat) (hfn : F.fn 97) (hro : F.round = none) (a : Option Addr) (len cap : Nat) (w : World) :
    CallsIn F n Tryz.prog 97 #[.slice a len cap] w fun e w' => e = .returned (.func (.func 120) #[] #[.pointer (some ⟨w.heap.size, 0, none⟩)]) ∧ w' = w.alloc (.cells #[.slice a len cap] 46) := by
  refine callsIn_of_wp Tryz.func97 rfl hfn ?_ hro
  simp only [Tryz.ntmps97, List.size_toArray, List.length_cons, List.length_nil, Nat.reduceAdd, Nat.reduceSub, Array.replicate_succ, Array.replicate_zero, List.push_toArray, List.append_toArray, List.nil_append, List.cons_append]
  gi_wp2
  go_ret
  exact ⟨rfl, rfl⟩

/-- slices.Backward(s) hands back a value that goes through the bytes from the last. -/
theorem back_stops (F : Fence) (n : Nat) (hfn : F.fn 120) (hro : F.round = none) (hn : 1 ≤ n) (Bs : Nat) (v : Value) (bs : List Int) (hreach : bs.length ≤ 140737488355328) (W0 w : World) (hBs : Bs < w.heap.size)
    (hc : w.cell? ⟨Bs, 0, none⟩ = some v) (hI : IsB W0 v bs) (hW : Below W0.heap.size W0 w) :
    SeqStopsK F n Tryz.prog 120 #[.pointer (some ⟨Bs, 0, none⟩)] (fun x : Int × Int => #[Value.int .i64 x.1, Value.int .u8 x.2]) (KeepB W0.heap.size Bs) (fun ys => ys = downto bs bs.length)
      (fun pre => ∃ k, k ≤ bs.length ∧ pre = downto bs k) bs.length w := fun l J Jx W hW1 _ _ hY h0 =>
  back1_in F n hfn hro hn l Bs v bs hreach W0 J Jx hY W ((hW1.cell (p := ⟨Bs, 0, none⟩) hBs).trans hc) hI (hW.trans (hW1.mono hW.size)) h0

end Go.Proofs.YtgpbanjammipiaaGreatDoor

namespace Go.Proofs.YtgpbanjammipiaaGreatDoor
open Go.RowKit

/-- The lowest k bytes of n, the lowest first. -/
def putB : Nat → Int → List Int
  | 0, _ => []
  | k + 1, n => n % 256 :: putB k (n / 256)

theorem putB_length (k : Nat) (n : Int) : (putB k n).length = k := by
  induction k generalizing n with
  | zero => rfl
  | succ k ih => simp [putB, ih]

theorem putB_bytes (k : Nat) (n : Int) : ∀ z ∈ putB k n, 0 ≤ z ∧ z ≤ 255 := by
  induction k generalizing n with
  | zero => simp [putB]
  | succ k ih =>
    intro z hz
    simp only [putB, List.mem_cons] at hz
    rcases hz with rfl | hz
    · omega
    · exact ih _ z hz

set_option maxHeartbeats 400000 in
theorem copyOf_any (v : Value) (bs : List Int) (room : Int) (w : World) (hb : IsB w v bs) (hl : bs.length ≤ 70368744177664) (h0 : 0 ≤ room) (h1 : room ≤ 10) :
    Calls Tryz.prog 70 #[v, .int .i64 room] w fun e w' => ∃ g cap, e = .returned (.slice (some ⟨g, 0, none⟩) bs.length cap) ∧ OwnB w.heap.size w' g cap bs ∧ Below w.heap.size w w' := by
  have hbb := hb.bytes
  obtain ⟨a, cap, rfl, hlc, hnone, hc, hz⟩ := hb
  obtain ⟨r, rfl⟩ := Int.eq_ofNat_of_zero_le h0
  obtain ⟨i0, hi, hz0, hz1, hz2⟩ := info_parts Tryz.infoU8
  go_enter Tryz.func70, Tryz.ntmps70
  go_wp2_with (first
    | (at_make; refine wpList_make_own _ rfl _ _ 46 rfl w.heap.size 5 i0 (.int .u8 0) 1 Tryz.underlying46 hi hz0 hz1 _ _ _ (bs.length + r) rfl rfl (by omega) (by rw [hz2]; omega) (by unfold maxLen; omega) (Nat.le_refl _) ?_; intro w1 hown1 hgrow1)
    | (at_builtin; refine wpList_append_fits_any _ rfl _ _ 46 rfl w.heap.size 5 i0 1 Tryz.underlying46 hi hz1 w.heap.size 0 (bs.length + r) [] rfl hown1 a bs.length cap (bs.map (Value.int .u8)) rfl (by simp) (fun h => ⟨by simp [(hnone h).1], (hnone h).2⟩) (fun x hx => cells_news (cells_kept (fun k hk => hgrow1.block k hk (by simp)) (hc x hx))) (ints_oneCell _ _) (by omega) ?_; intro w2 hown2 hgrow2; simp only [Nat.zero_add, List.nil_append] at hown2))
  go_ret
  refine ⟨_, _, rfl, ⟨hown2, hbb⟩, ?_⟩
  exact ((Below.refl _ _).grown hgrow1 (Nat.le_refl _) (by simp)).grown hgrow2 hgrow1.size (by intro k hk; simp at hk; omega)

set_option maxHeartbeats 400000 in
theorem put_mid (v : Value) (bs : List Int) (s : Nat) (n : Int) (w : World) (hb : IsB w v bs) (hl : bs.length ≤ 70368744177664) (hn0 : 0 ≤ n) (hn1 : n < 18446744073709551616) (hs : s ≤ 8) :
    Calls Tryz.prog 45 #[v, .int .i64 s, .int .u64 n] w fun e w' => ∃ g cap, e = .returned (.slice (some ⟨g, 0, none⟩) (bs ++ putB s n).length cap) ∧ OwnB w.heap.size w' g cap (bs ++ putB s n) ∧ Below w.heap.size w w' := by
  have hs0 : ¬ (s : Int) < 0 := by omega
  have hs8 : (s : Int) ≤ 8 := by omega
  go_enter Tryz.func45, Tryz.ntmps45
  go_wp2_with (go_at_call 70; refine (copyOf_any v bs _ w hb hl (by omega) (by omega)).mono ?_; rintro e w1 ⟨g, cap, rfl, hown, hbel⟩)
  go_loopw [2, 7, 15] (fun m row i wr => ∃ (k : Nat) (m' : Int) (acc : List Int) (g cap : Nat), k ≤ s ∧ i = .int .i64 k ∧ m = .int .u64 m' ∧ 0 ≤ m' ∧ m' < 18446744073709551616 ∧ Hid (acc ++ putB (s - k) m' = bs ++ putB s n) ∧ acc.length ≤ bs.length + k ∧ row = .slice (some ⟨g, 0, none⟩) acc.length cap ∧ OwnB w.heap.size wr g cap acc ∧ Below w.heap.size w wr) (fun _ _ i _ => s - (intOf i).toNat)
  case atStart => exact ⟨0, n, bs, g, cap, Nat.zero_le _, rfl, rfl, hn0, hn1, rfl, Nat.le_refl _, rfl, hown, hbel⟩
  case round =>
    obtain ⟨k, m', acc, g', cap', hk, rfl, rfl, hm0, hm1, HP, hal, rfl, hown', hbel'⟩ := hrel
    by_cases hlt : k < s
    · have hsz := hbel'.size
      go_wp2_with (at_builtin; refine wp_push wr rfl _ _ rfl w.heap.size g' cap' acc (m' % 256) rfl hown' rfl (by omega) (by omega) hsz ?_; intro g2 cap2 w2 hown2 hbel2)
      go_roundw
      case rel => exact ⟨k + 1, m' / 256, acc ++ [m' % 256], g2, cap2, by omega, by go_num, rfl, by omega, by omega, (by have := HP.out; rw [show s - k = (s - (k + 1)) + 1 by omega, putB] at this; show _ = _; simpa using this), by simp; omega, by simp, hown2, hbel'.trans hbel2⟩
      case measure => simp [intOf]; omega
    · go_wp2
      go_ret
      have e := HP.out
      rw [show s - k = 0 by omega, putB, List.append_nil] at e
      subst e
      exact ⟨_, _, rfl, hown', hbel'⟩
set_option maxHeartbeats 400000 in
theorem put_lo (v : Value) (bs : List Int) (size : Int) (n : Int) (w : World) (hb : IsB w v bs) (hl : bs.length ≤ 70368744177664) (hn0 : 0 ≤ n) (hn1 : n < 18446744073709551616) (hs : size < 0) :
    Calls Tryz.prog 45 #[v, .int .i64 size, .int .u64 n] w fun e w' => ∃ g cap, e = .returned (.slice (some ⟨g, 0, none⟩) (bs ++ putB 0 n).length cap) ∧ OwnB w.heap.size w' g cap (bs ++ putB 0 n) ∧ Below w.heap.size w w' := by
  go_enter Tryz.func45, Tryz.ntmps45
  go_wp2_with (go_at_call 70; refine (copyOf_any v bs _ w hb hl (by omega) (by omega)).mono ?_; rintro e w1 ⟨g, cap, rfl, hown, hbel⟩)
  go_loopw [2, 7, 15] (fun m row i wr => ∃ (k : Nat) (m' : Int) (acc : List Int) (g cap : Nat), k ≤ 0 ∧ i = .int .i64 k ∧ m = .int .u64 m' ∧ 0 ≤ m' ∧ m' < 18446744073709551616 ∧ Hid (acc ++ putB (0 - k) m' = bs ++ putB 0 n) ∧ acc.length ≤ bs.length + k ∧ row = .slice (some ⟨g, 0, none⟩) acc.length cap ∧ OwnB w.heap.size wr g cap acc ∧ Below w.heap.size w wr) (fun _ _ i _ => 0 - (intOf i).toNat)
  case atStart => exact ⟨0, n, bs, g, cap, Nat.zero_le _, rfl, rfl, hn0, hn1, rfl, Nat.le_refl _, rfl, hown, hbel⟩
  case round =>
    obtain ⟨k, m', acc, g', cap', hk, rfl, rfl, hm0, hm1, HP, hal, rfl, hown', hbel'⟩ := hrel
    have hlt : ¬ k < 0 := by omega
    go_wp2
    go_ret
    have e := HP.out
    rw [show 0 - k = 0 by omega, putB, List.append_nil] at e
    subst e
    exact ⟨_, _, rfl, hown', hbel'⟩
set_option maxHeartbeats 400000 in
theorem put_hi (v : Value) (bs : List Int) (size : Int) (n : Int) (w : World) (hb : IsB w v bs) (hl : bs.length ≤ 70368744177664) (hn0 : 0 ≤ n) (hn1 : n < 18446744073709551616) (hs : 8 < size) :
    Calls Tryz.prog 45 #[v, .int .i64 size, .int .u64 n] w fun e w' => ∃ g cap, e = .returned (.slice (some ⟨g, 0, none⟩) (bs ++ putB 8 n).length cap) ∧ OwnB w.heap.size w' g cap (bs ++ putB 8 n) ∧ Below w.heap.size w w' := by
  have hs0 : ¬ size < 0 := by omega
  have hs8 : ¬ size ≤ 8 := by omega
  go_enter Tryz.func45, Tryz.ntmps45
  go_wp2_with (go_at_call 70; refine (copyOf_any v bs _ w hb hl (by omega) (by omega)).mono ?_; rintro e w1 ⟨g, cap, rfl, hown, hbel⟩)
  go_loopw [2, 7, 15] (fun m row i wr => ∃ (k : Nat) (m' : Int) (acc : List Int) (g cap : Nat), k ≤ 8 ∧ i = .int .i64 k ∧ m = .int .u64 m' ∧ 0 ≤ m' ∧ m' < 18446744073709551616 ∧ Hid (acc ++ putB (8 - k) m' = bs ++ putB 8 n) ∧ acc.length ≤ bs.length + k ∧ row = .slice (some ⟨g, 0, none⟩) acc.length cap ∧ OwnB w.heap.size wr g cap acc ∧ Below w.heap.size w wr) (fun _ _ i _ => 8 - (intOf i).toNat)
  case atStart => exact ⟨0, n, bs, g, cap, Nat.zero_le _, rfl, rfl, hn0, hn1, rfl, Nat.le_refl _, rfl, hown, hbel⟩
  case round =>
    obtain ⟨k, m', acc, g', cap', hk, rfl, rfl, hm0, hm1, HP, hal, rfl, hown', hbel'⟩ := hrel
    by_cases hlt : k < 8
    · have hsz := hbel'.size
      go_wp2_with (at_builtin; refine wp_push wr rfl _ _ rfl w.heap.size g' cap' acc (m' % 256) rfl hown' rfl (by omega) (by omega) hsz ?_; intro g2 cap2 w2 hown2 hbel2)
      go_roundw
      case rel => exact ⟨k + 1, m' / 256, acc ++ [m' % 256], g2, cap2, by omega, by go_num, rfl, by omega, by omega, (by have := HP.out; rw [show 8 - k = (8 - (k + 1)) + 1 by omega, putB] at this; show _ = _; simpa using this), by simp; omega, by simp, hown2, hbel'.trans hbel2⟩
      case measure => simp [intOf]; omega
    · go_wp2
      go_ret
      have e := HP.out
      rw [show 8 - k = 0 by omega, putB, List.append_nil] at e
      subst e
      exact ⟨_, _, rfl, hown', hbel'⟩
/-- Put, at whatever size. -/
theorem put_any (v : Value) (bs : List Int) (size n : Int) (w : World) (hb : IsB w v bs) (hl : bs.length ≤ 70368744177664) (hn0 : 0 ≤ n) (hn1 : n < 18446744073709551616) :
    Calls Tryz.prog 45 #[v, .int .i64 size, .int .u64 n] w fun e w' => ∃ g cap, e = .returned (.slice (some ⟨g, 0, none⟩) (bs ++ putB (min size 8).toNat n).length cap) ∧ OwnB w.heap.size w' g cap (bs ++ putB (min size 8).toNat n) ∧ Below w.heap.size w w' := by
  by_cases h1 : size < 0
  · rw [show (min size 8).toNat = 0 by omega]
    exact put_lo v bs size n w hb hl hn0 hn1 h1
  · by_cases h2 : 8 < size
    · rw [show (min size 8).toNat = 8 by omega]
      exact put_hi v bs size n w hb hl hn0 hn1 h2
    · obtain ⟨s, rfl⟩ := Int.eq_ofNat_of_zero_le (show 0 ≤ size by omega)
      rw [show (min (s : Int) 8).toNat = s by omega]
      exact put_mid v bs s n w hb hl hn0 hn1 (by omega)

end Go.Proofs.YtgpbanjammipiaaGreatDoor

namespace Go.Proofs.YtgpbanjammipiaaGreatDoor
open Go.RowKit

/-- One bit of the sum. -/
def crcBit (c : Nat) : Nat := (c / 2) ^^^ (if c % 2 = 1 then 3988292384 else 0)
def crcBits : Nat → Nat → Nat
  | 0, c => c
  | k + 1, c => crcBits k (crcBit c)
def crcByte (c : Nat) (x : Int) : Nat := crcBits 8 (c ^^^ x.toNat)
def crcRow (bs : List Int) : Nat := bs.foldl crcByte 4294967295

theorem crcBit_lt (c : Nat) (h : c < 4294967296) : crcBit c < 4294967296 := by
  unfold crcBit
  have : (c / 2) ^^^ (if c % 2 = 1 then 3988292384 else 0) < 2 ^ 32 := Nat.xor_lt_two_pow (by omega) (by split <;> omega)
  omega
theorem crcBits_lt (k c : Nat) (h : c < 4294967296) : crcBits k c < 4294967296 := by
  induction k generalizing c with
  | zero => exact h
  | succ k ih => exact ih _ (crcBit_lt c h)
theorem crcByte_lt (c : Nat) (x : Int) (h : c < 4294967296) (hx : 0 ≤ x ∧ x ≤ 255) : crcByte c x < 4294967296 := by
  unfold crcByte
  apply crcBits_lt
  have : c ^^^ x.toNat < 2 ^ 32 := Nat.xor_lt_two_pow (by omega) (by omega)
  omega
theorem crcRow_snoc (bs : List Int) (x : Int) : crcRow (bs ++ [x]) = crcByte (crcRow bs) x := by simp [crcRow]

def crcSum (bs : List Int) : Nat := 4294967295 ^^^ crcRow bs

theorem and_one (d : Nat) (hd : d < 4294967296) : bits .and .u32 (d : Int) 1 = ((d % 2 : Nat) : Int) := by
  rw [show (1 : Int) = ((1 : Nat) : Int) from rfl, u32_and_nat d 1 hd (by omega), Nat.and_one_is_mod]

/-- One bit, as octets' Crc reckons it. -/
theorem crcBit_go (d : Nat) (hd : d < 4294967296) : bits .xor .u32 ((d : Int) / 2) (bits .and .u32 3988292384 (-bits .and .u32 (d : Int) 1 % 4294967296)) = ((crcBit d : Nat) : Int) := by
  rw [and_one d hd, show ((d : Int) / 2) = ((d / 2 : Nat) : Int) by omega]
  unfold crcBit
  by_cases h : d % 2 = 1
  · rw [h, if_pos rfl, show (-((1 : Nat) : Int) % 4294967296) = ((4294967295 : Nat) : Int) by decide, show (3988292384 : Int) = ((3988292384 : Nat) : Int) from rfl, u32_and_nat _ _ (by omega) (by omega),
      show 3988292384 &&& 4294967295 = 3988292384 by decide +kernel, u32_xor_nat _ _ (by omega) (by omega)]
  · rw [show d % 2 = 0 by omega, if_neg (by omega), show (-((0 : Nat) : Int) % 4294967296) = ((0 : Nat) : Int) by decide, show (3988292384 : Int) = ((3988292384 : Nat) : Int) from rfl, u32_and_nat _ _ (by omega) (by omega), Nat.and_zero,
      u32_xor_nat _ _ (by omega) (by omega)]

theorem crc_first (c : Nat) (x : Int) (hc : c < 4294967296) (hx : 0 ≤ x) (hx2 : x ≤ 255) : bits .xor .u32 (c : Int) x = ((c ^^^ x.toNat : Nat) : Int) := by
  obtain ⟨n, rfl⟩ := Int.eq_ofNat_of_zero_le hx
  rw [u32_xor_nat _ _ (by omega) (by omega), Int.toNat_natCast]

theorem crc_first_lt (c : Nat) (x : Int) (hc : c < 4294967296) (hx : 0 ≤ x) (hx2 : x ≤ 255) : c ^^^ x.toNat < 4294967296 := by
  have : c ^^^ x.toNat < 2 ^ 32 := Nat.xor_lt_two_pow (by omega) (by omega)
  omega

theorem crc_last (c : Nat) (hc : c < 4294967296) : bits .xor .u32 IntKind.u32.max (c : Int) = ((4294967295 ^^^ c : Nat) : Int) := by
  rw [show IntKind.u32.max = ((4294967295 : Nat) : Int) by decide, u32_xor_nat _ _ (by omega) (by omega)]

theorem crc_last' (c : Nat) (hc : c < 4294967296) : bits .xor .u32 (c : Int) 4294967295 = ((4294967295 ^^^ c : Nat) : Int) := by
  rw [show (4294967295 : Int) = ((4294967295 : Nat) : Int) from rfl, u32_xor_nat _ _ (by omega) (by omega), Nat.xor_comm]

theorem crcBit_odd (d : Nat) (hd : d < 4294967296) (h : d % 2 = 1) : bits .xor .u32 ((d : Int) / 2) 3988292384 = ((crcBit d : Nat) : Int) := by
  rw [show ((d : Int) / 2) = ((d / 2 : Nat) : Int) by omega, show (3988292384 : Int) = ((3988292384 : Nat) : Int) from rfl, u32_xor_nat _ _ (by omega) (by omega)]
  unfold crcBit
  rw [if_pos h]

theorem crcBit_even (d : Nat) (h : ¬ d % 2 = 1) : ((d : Int) / 2) = ((crcBit d : Nat) : Int) := by
  unfold crcBit
  rw [if_neg h, Nat.xor_zero]
  omega

theorem crcSum_lt (bs : List Int) (hb : ∀ z ∈ bs, 0 ≤ z ∧ z ≤ 255) : crcSum bs < 4294967296 := by
  have h1 : ∀ (bs : List Int) (c : Nat), c < 4294967296 → (∀ z ∈ bs, 0 ≤ z ∧ z ≤ 255) → bs.foldl crcByte c < 4294967296 := by
    intro bs
    induction bs with
    | nil => intro c hc _; exact hc
    | cons x bs ih => intro c hc h; exact ih _ (crcByte_lt c x hc (h x (by simp))) (fun z hz => h z (by simp [hz]))
  have h2 : crcRow bs < 4294967296 := h1 bs _ (by omega) hb
  have : 4294967295 ^^^ crcRow bs < 2 ^ 32 := Nat.xor_lt_two_pow (by omega) (by omega)
  unfold crcSum
  omega

theorem take_snoc (bs : List Int) (k : Nat) (h : k < bs.length) : bs.take (k + 1) = bs.take k ++ [bs[k]?.getD 0] := by
  rw [List.take_succ_eq_append_getElem h]
  simp [h]

set_option maxHeartbeats 1000000 in
theorem crc_any (v : Value) (bs : List Int) (w : World) (hb : IsB w v bs) (hl : bs.length ≤ 140737488355328) :
    Calls Tryz.prog 99 #[v] w fun e w' => e = .returned (.int .u32 (crcSum bs : Nat)) ∧ w' = w := by
  have hbb := hb.bytes
  have hop := hb.opened
  obtain ⟨a, cap, rfl, hlc⟩ := hb.form
  clear hb
  go_enter Tryz.func99, Tryz.ntmps99
  go_wp2
  go_loop [3, 5, 8] (fun c _ i => ∃ k c' : Nat, k ≤ bs.length ∧ i = .int .i64 k ∧ c = .int .u32 c' ∧ c' < 4294967296 ∧ Hid (c' = crcRow (bs.take k))) (fun _ _ i => bs.length - (intOf i).toNat)
  case atStart => exact ⟨0, 4294967295, Nat.zero_le _, rfl, rfl, by omega, rfl⟩
  case round =>
    obtain ⟨k, c', hk, rfl, rfl, hc', HC⟩ := hrel
    by_cases hlt : k < bs.length
    · obtain ⟨b, off, cap', he, _, hc⟩ := hop (by omega)
      simp only [Value.slice.injEq, true_and] at he
      obtain ⟨rfl, rfl⟩ := he
      obtain ⟨x, hx⟩ : ∃ x, x = bs[k]?.getD 0 := ⟨_, rfl⟩
      have hc0 := hc k hlt
      rw [← hx] at hc0
      have hb0 := hbb x (by rw [hx]; simp [hlt])
      obtain ⟨hb1, hb2⟩ := hb0
      have HX : Hid (x = bs[k]?.getD 0) := hx
      clear hx hc hop hbb
      go_wp2
      go_loop [3, 16] (fun c j => ∃ m d : Nat, m ≤ 8 ∧ j = .int .i64 m ∧ c = .int .u32 d ∧ d < 4294967296 ∧ Hid (crcBits (8 - m) d = crcByte c' x)) (fun _ j => 8 - (intOf j).toNat)
      case atStart => exact ⟨0, c' ^^^ x.toNat, by omega, rfl, by rw [crc_first c' x hc' hb1 hb2], crc_first_lt c' x hc' hb1 hb2, rfl⟩
      case round =>
        obtain ⟨m, d, hm, rfl, rfl, hd, HD⟩ := hrel
        by_cases hm8 : m < 8
        · go_wp2
          go_round
          case rel => exact ⟨m + 1, crcBit d, by omega, by go_num, by rw [crcBit_go d hd], crcBit_lt d hd, (by have := HD.out; rw [show 8 - m = (8 - (m + 1)) + 1 by omega, crcBits] at this; exact this)⟩
          case measure => simp [intOf]; omega
        · go_wp2
          go_round
          case rel => exact ⟨k + 1, d, by omega, by go_num, rfl, hd, (by have := HD.out; rw [show 8 - m = 0 by omega, crcBits] at this; show _ = _; rw [take_snoc bs k hlt, crcRow_snoc, ← HC.out, ← HX.out]; exact this)⟩
          case measure => simp [intOf]; omega
    · go_wp2
      go_ret
      refine ⟨?_, rfl⟩
      have e : c' = crcRow bs := by have := HC.out; rw [List.take_of_length_le (by omega)] at this; exact this
      subst e
      show Ending.returned (.int .u32 (bits .xor .u32 IntKind.u32.max _)) = _
      rw [crc_last _ hc']
      rfl

end Go.Proofs.YtgpbanjammipiaaGreatDoor

namespace Go.Proofs.YtgpbanjammipiaaGreatDoor
open Go.RowKit Go.Shelf

attribute [local go_sem] Oper.semAt_some

set_option maxHeartbeats 400000 in
theorem get_no (v : Value) (bs : List Int) (at_ size : Int) (w : World) (hb : IsB w v bs) (hl : bs.length ≤ 140737488355328)
    (h : at_ < 0 ∨ size < 1 ∨ 8 < size ∨ (bs.length : Int) - size < at_) :
    Calls Tryz.prog 67 #[v, .int .i64 at_, .int .i64 size] w fun e w' => e = .returned (.tuple #[.int .u64 0, .bool false]) ∧ w' = w := by
  obtain ⟨a, cap, rfl, hlc⟩ := hb.form
  clear hb
  by_cases h1 : at_ < 0
  · go_enter Tryz.func67, Tryz.ntmps67
    go_wp2
    go_ret2
    exact ⟨rfl, rfl⟩
  · by_cases h2 : size < 1
    · go_enter Tryz.func67, Tryz.ntmps67
      go_wp2
      go_ret2
      exact ⟨rfl, rfl⟩
    · by_cases h3 : 8 < size
      · go_enter Tryz.func67, Tryz.ntmps67
        go_wp2
        go_ret2
        exact ⟨rfl, rfl⟩
      · have h4 : (bs.length : Int) - size < at_ := by omega
        go_enter Tryz.func67, Tryz.ntmps67
        go_wp2
        go_ret2
        exact ⟨rfl, rfl⟩

/-- The number of digits to the base m, the lowest first. -/
def valB (m : Int) : List Int → Int
  | [] => 0
  | x :: xs => x + m * valB m xs

theorem valB_nonneg (m : Int) (hm : 0 ≤ m) (xs : List Int) (h : ∀ z ∈ xs, 0 ≤ z) : 0 ≤ valB m xs := by
  induction xs with
  | nil => simp [valB]
  | cons x xs ih =>
    have h1 := h x (by simp)
    have h2 := Int.mul_nonneg hm (ih fun z hz => h z (by simp [hz]))
    simp only [valB]
    omega

/-- One digit more, as the loop reckons it. -/
def getStep (m n x : Int) : Int := bits .or .u64 (IntKind.u64.wrap (n * m)) (IntKind.u64.wrap x)
def getFold (m : Int) (xs : List Int) : Int := xs.foldl (getStep m) 0
theorem getFold_snoc (m : Int) (xs : List Int) (x : Int) : getFold m (xs ++ [x]) = getStep m (getFold m xs) x := by simp [getFold]

theorem getStep_eq (i : Nat) (n x : Int) (hx0 : 0 ≤ x) (hx1 : x < (2 ^ i : Nat)) (hn : 0 ≤ n) (ht : x + (2 ^ i : Nat) * n < 18446744073709551616) : getStep ((2 ^ i : Nat) : Int) n x = x + (2 ^ i : Nat) * n := by
  obtain ⟨k, rfl⟩ := Int.eq_ofNat_of_zero_le hn
  obtain ⟨y, rfl⟩ := Int.eq_ofNat_of_zero_le hx0
  have hy : y < 2 ^ i := by omega
  have ht' : y + 2 ^ i * k < 18446744073709551616 := by
    have : ((y + 2 ^ i * k : Nat) : Int) < 18446744073709551616 := by rw [Int.natCast_add, Int.natCast_mul]; exact ht
    omega
  unfold getStep
  rw [IntKind.wrap_u64, IntKind.wrap_u64, show ((k : Int) * ((2 ^ i : Nat) : Int)) = ((2 ^ i * k : Nat) : Int) by rw [Int.natCast_mul, Int.mul_comm],
    show ((2 ^ i * k : Nat) : Int) % 18446744073709551616 = ((2 ^ i * k : Nat) : Int) by omega, show (y : Int) % 18446744073709551616 = (y : Int) by omega, u64_or_nat _ _ (by omega) (by omega), ← Nat.two_pow_add_eq_or_of_lt hy]
  rw [Int.natCast_add, Int.natCast_mul]
  omega

theorem getFold_reverse (i : Nat) (xs : List Int) (h : ∀ z ∈ xs, 0 ≤ z ∧ z < (2 ^ i : Nat)) (ht : valB (2 ^ i : Nat) xs < 18446744073709551616) : getFold ((2 ^ i : Nat) : Int) xs.reverse = valB (2 ^ i : Nat) xs := by
  induction xs with
  | nil => rfl
  | cons x xs ih =>
    have h1 := h x (by simp)
    have h2 := valB_nonneg ((2 ^ i : Nat) : Int) (by omega) xs (fun z hz => (h z (by simp [hz])).1)
    have h3 : valB ((2 ^ i : Nat) : Int) xs ≤ ((2 ^ i : Nat) : Int) * valB ((2 ^ i : Nat) : Int) xs := by
      have hp : (1 : Int) ≤ ((2 ^ i : Nat) : Int) := by have := Nat.pow_pos (n := i) (a := 2) (by omega); omega
      have := Int.mul_le_mul_of_nonneg_right hp h2
      omega
    simp only [valB] at ht
    rw [List.reverse_cons, getFold_snoc, ih (fun z hz => h z (by simp [hz])) (by omega), getStep_eq i _ x h1.1 h1.2 h2 ht]
    rfl

theorem downto_snd (bs : List Int) : (downto bs bs.length).map Prod.snd = bs.reverse := by
  apply List.ext_getElem
  · simp [downto]
  · intro j h1 h2
    simp [downto] at h1
    simp [downto, List.getElem_reverse, show bs.length - 1 - j < bs.length by omega]

theorem valB_lt (m : Int) (hm : 1 ≤ m) (xs : List Int) (h : ∀ z ∈ xs, 0 ≤ z ∧ z < m) : valB m xs < m ^ xs.length := by
  induction xs with
  | nil => simp [valB]
  | cons x xs ih =>
    have h1 := h x (by simp)
    have h2 := ih (fun z hz => h z (by simp [hz]))
    simp only [valB, List.length_cons]
    rw [Int.pow_succ]
    have h3 : m * (valB m xs + 1) ≤ m * m ^ xs.length := Int.mul_le_mul_of_nonneg_left (by omega) (by omega)
    rw [Int.mul_add] at h3
    rw [Int.mul_comm (m ^ xs.length)]
    omega

set_option maxRecDepth 100000 in
set_option maxHeartbeats 2000000 in
theorem get_in (F : Fence) (n : Nat) (hf1 : F.fn 67) (hf2 : F.fn 97) (hf3 : F.fn 120) (hro : F.round = none) (hn : 3 ≤ n)
    (v : Value) (bs : List Int) (p s : Nat) (w : World) (hb : IsB w v bs) (hl : bs.length ≤ 140737488355328) (h1 : 1 ≤ s) (h2 : s ≤ 8) (h3 : p + s ≤ bs.length) :
    CallsIn F n Tryz.prog 67 #[v, .int .i64 p, .int .i64 s] w fun e w' => e = .returned (.tuple #[.int .u64 (getFold 256 ((bs.drop p).take s).reverse), .bool true]) ∧ Below w.heap.size w w' := by
  have hn1 : 1 ≤ n := by omega
  obtain ⟨b, off, cap, rfl, hlc, hc⟩ := hb.opened (by omega)
  refine callsIn_of_wp_marks Tryz.func67 rfl hf1 ?_ hro
  simp only [Tryz.ntmps67, List.size_toArray, List.length_cons, List.length_nil, Nat.reduceAdd, Nat.reduceSub, Array.replicate_succ, Array.replicate_zero, List.push_toArray, List.append_toArray, List.nil_append, List.cons_append]
  gi_wp2_with (gi_at_call 97; refine (back_in F (n - 1) hf2 hro _ _ _ _).mono ?_; rintro e w' ⟨rfl, rfl⟩)
  have hm := hb.mid p s h3
  have bS := Boxed.new w 50 (.int .u64 0)
  have bN := Boxed.new (w.alloc (.cells #[.int .u64 0] 50)) 46 (.slice (some ⟨b, off + p, none⟩) s (cap - p))
  rw [World.size_alloc] at bN
  have hB0 : Below w.heap.size w ((w.alloc (.cells #[.int .u64 0] 50)).alloc (.cells #[.slice (some ⟨b, off + p, none⟩) s (cap - p)] 46)) := ((Below.refl _ w).alloc (Nat.le_refl _) _).alloc (by simp) _
  have hms : ((bs.drop p).take s).length = s := by simp; omega
  refine wpIn_rangeFunc_ownG hro hn1 (gf := 120) (lb := #[.pointer (some ⟨w.heap.size + 1, 0, none⟩)]) rfl hf3 (enters_of Tryz.func120 (by kernel_rfl) rfl)
    (back_stops F (n - 1) hf3 hro (by omega) (w.heap.size + 1) _ ((bs.drop p).take s) (by rw [hms]; omega) w _ (by simp) bN.cell hm hB0) keepB_t (keepB_b (by simp; omega) (by simp)) (Below.refl _ _) (fun _ => rfl)
    (fun pre W => (W.cell? ⟨w.heap.size, 0, none⟩ = some (.int .u64 (getFold 256 (pre.map Prod.snd))) ∧ W.frozen? ⟨w.heap.size, 0, none⟩ = false) ∧ Below w.heap.size w W)
    (fun _ _ _ => False)
    (OwnFrom.and (Own.from (fun s A B row hs hg hr => ⟨cell_kept hs.1 hg hr, (frozen_kept hs.1 hg hr).trans hs.2⟩) _) (ownFrom_below (Nat.le_refl _) (by simp; omega)))
    (fun _ _ _ _ _ hs _ _ => hs)
    ⟨⟨(bS.alloc _).cell, (bS.alloc _).frozen⟩, hB0⟩
    ?a1 ?assign ?body ?done ?stop
  case assign =>
    intro l x W K hK
    gi_wp2
    exact hK
  case body =>
    rintro l pre x W ⟨⟨hc, hf⟩, hB⟩ _
    gi_wp2
    exact ⟨(KeepsOthers.setCell _ _ _).from _, ⟨(Below.refl w.heap.size W).setCell (p := ⟨w.heap.size, 0, none⟩) (Nat.le_refl _) _, World.cell?_of_block (w := W) (Below.heap_setCell _ _ _ _ (by simp))⟩,
      ⟨by rw [List.map_append, List.map_cons, List.map_nil, getFold_snoc]; exact World.cell?_setCell_same' _ _ _ (by rw [hc]; rfl), by rw [World.frozen?_setCell]; exact hf⟩, hB.setCell (p := ⟨w.heap.size, 0, none⟩) (Nat.le_refl _) _⟩
  case done =>
    rintro D ys W hD rfl ⟨⟨hc, _⟩, hB⟩ hK
    rw [downto_snd] at hc
    gi_wp2
    refine ⟨by simp, .inl ⟨_, _, rfl, run_takeDeferred hK, ?_⟩⟩
    exact ⟨_, results_tmp2 rfl _ _ _, rfl, hB.trans (belowK_b (w := w) (Nat.le_refl _) W D _ _ (by simp at hD; omega) hK rfl rfl)⟩
  case stop =>
    rintro D c pre W _ _ h _
    exact h.elim

/-- Get, where there are so many bytes. -/
theorem get_yes (v : Value) (bs : List Int) (p s : Nat) (w : World) (hb : IsB w v bs) (hl : bs.length ≤ 140737488355328) (h1 : 1 ≤ s) (h2 : s ≤ 8) (h3 : p + s ≤ bs.length) :
    Calls Tryz.prog 67 #[v, .int .i64 p, .int .i64 s] w fun e w' => e = .returned (.tuple #[.int .u64 (valB 256 ((bs.drop p).take s)), .bool true]) ∧ Below w.heap.size w w' := by
  have hd : ∀ z ∈ (bs.drop p).take s, 0 ≤ z ∧ z < ((2 ^ 8 : Nat) : Int) := fun z hz => by
    have := hb.bytes z (List.mem_of_mem_drop (List.mem_of_mem_take hz))
    omega
  have hlt := valB_lt ((2 ^ 8 : Nat) : Int) (by omega) _ hd
  have hlen : ((bs.drop p).take s).length = s := by simp; omega
  rw [hlen] at hlt
  have hp : ((2 ^ 8 : Nat) : Int) ^ s ≤ 18446744073709551616 := by
    rw [← Int.natCast_pow]
    have := Nat.pow_le_pow_right (show 0 < 2 ^ 8 by omega) h2
    omega
  have e := getFold_reverse 8 _ hd (by omega)
  have hg := callsIn_wide.1 (get_in Fence.wide 3 trivial trivial trivial rfl (Nat.le_refl _) v bs p s w hb hl h1 h2 h3)
  rw [show (256 : Int) = ((2 ^ 8 : Nat) : Int) from rfl, ← e]
  exact hg

end Go.Proofs.YtgpbanjammipiaaGreatDoor

namespace Go.Proofs.YtgpbanjammipiaaGreatDoor
open Go.RowKit Go.Maps

/-- w' is w, but for the blocks of fp, and new ones. -/
structure Kept (fp : List Nat) (w w' : World) : Prop where
  os : w'.os = w.os
  tape : w'.tape = w.tape
  output : w'.output = w.output
  size : w.heap.size ≤ w'.heap.size
  block : ∀ k, k < w.heap.size → k ∉ fp → w'.heap[k]? = w.heap[k]?

theorem Kept.refl (fp : List Nat) (w : World) : Kept fp w w := ⟨rfl, rfl, rfl, Nat.le_refl _, fun _ _ _ => rfl⟩

/-- What is in fp', is in fp, or new in w. -/
def Newly (w : World) (fp fp' : List Nat) : Prop := ∀ x ∈ fp', x ∈ fp ∨ w.heap.size ≤ x

theorem Newly.of_sub {w : World} {fp fp' : List Nat} (h : ∀ x ∈ fp', x ∈ fp) : Newly w fp fp' := fun x hx => .inl (h x hx)
theorem Newly.refl (w : World) (fp : List Nat) : Newly w fp fp := fun _ hx => .inl hx

theorem Newly.trans {w w' : World} {a b c : List Nat} (h : Newly w a b) (k : Newly w' b c) (hs : w.heap.size ≤ w'.heap.size) : Newly w a c := fun x hx => by
  rcases k x hx with h1 | h1
  · exact h x h1
  · exact .inr (Nat.le_trans hs h1)

theorem Kept.trans {fp fp' : List Nat} {a b c : World} (h : Kept fp a b) (k : Kept fp' b c) (hn : Newly a fp fp') : Kept fp a c :=
  ⟨k.os.trans h.os, k.tape.trans h.tape, k.output.trans h.output, Nat.le_trans h.size k.size, fun i hi hne =>
    (k.block i (Nat.lt_of_lt_of_le hi h.size) (fun e => by rcases hn i e with h1 | h1; exact hne h1; omega)).trans (h.block i hi hne)⟩

theorem Kept.mono {fp fp' : List Nat} {a b : World} (h : Kept fp a b) (hs : ∀ x ∈ fp, x ∈ fp') : Kept fp' a b :=
  ⟨h.os, h.tape, h.output, h.size, fun k hk hne => h.block k hk (fun e => hne (hs k e))⟩

theorem Kept.of_below {fp : List Nat} {a b : World} (h : Below a.heap.size a b) : Kept fp a b := ⟨h.os, h.tape, h.output, h.size, fun k hk _ => h.block k hk⟩

theorem Kept.of_grown {row : Option Nat} {a b : World} (h : a.grownBy b row) : Kept row.toList a b :=
  ⟨h.os, h.tape, h.output, h.size, fun k hk hne => h.block k hk (fun e => hne (by rw [← e]; simp))⟩

theorem Kept.below {B : Nat} {fp : List Nat} {a b : World} (h : Kept fp a b) (hB : B ≤ a.heap.size) (hf : ∀ x ∈ fp, B ≤ x) : Below B a b :=
  ⟨h.os, h.tape, h.output, h.size, fun k hk => h.block k (by omega) (fun e => by have := hf k e; omega)⟩

theorem Kept.alloc {fp : List Nat} {a b : World} (h : Kept fp a b) (o : Obj) : Kept fp a (b.alloc o) :=
  h.trans (fp' := []) ⟨rfl, rfl, rfl, by simp, fun k hk _ => Below.heap_alloc _ _ _ hk⟩ (fun _ hx => by simp at hx)

theorem Kept.setCell {fp : List Nat} {a b : World} (h : Kept fp a b) {p : Addr} (hp : p.block ∈ fp ∨ a.heap.size ≤ p.block) (u : Value) : Kept fp a (b.setCell p u) :=
  h.trans (fp' := [p.block]) ⟨rfl, rfl, rfl, by simp [World.setCell], fun k _ hk => Below.heap_setCell _ _ _ _ (by simpa using hk)⟩ (fun x hx => by simp at hx; subst hx; exact hp)

theorem Kept.drew {fp : List Nat} {a b : World} (h : Kept fp a b) : Kept fp a b.drew := ⟨h.os, h.tape, h.output, h.size, h.block⟩
theorem Kept.drewN {fp : List Nat} {a b : World} (h : Kept fp a b) (n : Nat) : Kept fp a (b.drewN n) := ⟨h.os, h.tape, h.output, h.size, h.block⟩

theorem Kept.cell {fp : List Nat} {w w' : World} (h : Kept fp w w') {p : Addr} {v : Value} (hv : w.cell? p = some v) (hp : p.block ∉ fp) : w'.cell? p = some v :=
  (World.cell?_of_block (w := w) (h.block p.block (World.block_lt_of_cell? w _ hv) hp)).trans hv

/-- A slice that was there holds what it held, if its block is none of those that were written. -/
theorem IsB.kept {fp : List Nat} {w w' : World} {v : Value} {bs : List Int} (h : IsB w v bs) (hk : Kept fp w w') (hf : bs ≠ [] → ∀ x ∈ v.ownBlock.toList, x ∉ fp) : IsB w' v bs := by
  obtain ⟨a, cap, rfl, h1, h2, h3, h4⟩ := h
  refine ⟨a, cap, rfl, h1, h2, fun x hx j hj => ?_, h4⟩
  subst hx
  exact hk.cell (h3 x rfl j hj) (hf (fun e => by subst e; simp at hj) _ (by simp [Value.ownBlock, Addr.add]; split <;> rfl))

theorem IsB.lt {w : World} {v : Value} {bs : List Int} (h : IsB w v bs) (hne : bs ≠ []) : ∀ x ∈ v.ownBlock.toList, x < w.heap.size := by
  obtain ⟨a, cap, rfl, h1, h2, h3, h4⟩ := h
  intro x hx
  cases a with
  | none => simp [Value.ownBlock] at hx
  | some a =>
    have := World.block_lt_of_cell? w _ (h3 a rfl 0 (List.length_pos_iff.2 hne))
    simp [Value.ownBlock] at hx
    subst hx
    simpa [Addr.add] using this

/-- The blocks of a slice of the disk's own. -/
abbrev own (v : Value) : List Nat := v.ownBlock.toList

/-- The slice v, nil or a row of its own, holds the bytes bs. -/
def RowB (w : World) (v : Value) (bs : List Int) : Prop :=
  w.ownsRow 0 5 1 v bs.length (bs.map (Value.int .u8)) ∧ ∀ z ∈ bs, 0 ≤ z ∧ z ≤ 255

theorem ownsRow_kept {fp : List Nat} {w w' : World} {base : Nat} {e : TypeId} {size : Nat} {v : Value} {n : Nat} {xs : List Value} (h : w.ownsRow base e size v n xs) (hk : Kept fp w w') (hf : ∀ x ∈ own v, x ∉ fp) : w'.ownsRow base e size v n xs := by
  refine ⟨h.1, ?_⟩
  rcases h.2 with hn | ⟨g, cap, cur, rfl, hb, hgg, rest⟩
  · exact .inl hn
  · refine .inr ⟨g, cap, cur, rfl, hb, ?_, rest⟩
    rw [hk.block g (Array.getElem?_eq_some_iff.1 hgg).1 (hf g (by simp [own, Value.ownBlock]))]
    exact hgg

theorem RowB.kept {fp : List Nat} {w w' : World} {v : Value} {bs : List Int} (h : RowB w v bs) (hk : Kept fp w w') (hf : ∀ x ∈ own v, x ∉ fp) : RowB w' v bs := ⟨ownsRow_kept h.1 hk hf, h.2⟩

theorem RowB.nil (w : World) : RowB w (.slice none 0 0) [] := ⟨World.ownsRow_nil w 0 _ _, by simp⟩

theorem RowB.lt {w : World} {v : Value} {bs : List Int} (h : RowB w v bs) : ∀ x ∈ own v, x < w.heap.size := fun x hx => (h.1.lt x (by simpa [own] using hx)).2

theorem RowB.form {w : World} {v : Value} {bs : List Int} (h : RowB w v bs) : (v = .slice none 0 0 ∧ bs = []) ∨ ∃ g cap, v = .slice (some ⟨g, 0, none⟩) bs.length cap ∧ OwnB 0 w g cap bs := by
  obtain ⟨⟨h1, h2⟩, h3⟩ := h
  rcases h2 with ⟨rfl, h⟩ | ⟨g, cap, cur, rfl, hb, hgg, rest⟩
  · exact .inl ⟨rfl, List.eq_nil_of_length_eq_zero h⟩
  · exact .inr ⟨g, cap, rfl, ⟨h1, .inr ⟨g, cap, cur, rfl, hb, hgg, rest⟩⟩, h3⟩

theorem RowB.isB {w : World} {v : Value} {bs : List Int} (h : RowB w v bs) : IsB w v bs := by
  rcases h.form with ⟨rfl, rfl⟩ | ⟨g, cap, rfl, ho⟩
  · exact IsB.nil w
  · exact ho.isB

theorem OwnB.rowB {B : Nat} {w : World} {g cap : Nat} {bs : List Int} (h : OwnB B w g cap bs) : RowB w (.slice (some ⟨g, 0, none⟩) bs.length cap) bs := ⟨(h.mono (Nat.zero_le B)).1, h.2⟩

/-- A new row of no bytes. -/
theorem OwnB.empty (w : World) (B : Nat) (hB : B ≤ w.heap.size) : OwnB B (w.alloc (.cells #[] 5)) w.heap.size 0 [] :=
  ⟨World.ownsRow_made w #[] 0 hB (by unfold maxLen; omega) rfl, by simp⟩

/-- 'append(row, b...)': row nil or a row of its own, b whatever. -/
theorem RowB.append {w : World} {v x : Value} {bs cs : List Int} (h : RowB w v bs) (hx : IsB w x cs) (hlen : bs.length + cs.length ≤ 1099511627776) (ty : TypeId) :
    ∃ v' w', (Builtin.append_ #[46, 46] ty #[v, x]).run Tryz.prog w = .ok v' w' ∧ RowB w' v' (bs ++ cs) ∧ Kept (own v) w w' ∧ Newly w (own v) (own v') ∧ (v' = .slice none 0 0 → v = .slice none 0 0 ∧ cs = []) := by
  obtain ⟨i0, hi, hz0, hz1, hz2⟩ := info_parts Tryz.infoU8
  obtain ⟨ad, c, rfl, h1, h2, h3, h4⟩ := hx
  cases ad with
  | none =>
    obtain ⟨rfl, rfl⟩ := h2 rfl
    have hrun := run_append_owned_none (P := Tryz.prog) (w := w) 0 46 ty 5 i0 1 Tryz.underlying46 hi _ _ _ h.1
    exact ⟨v, w, hrun, by simpa using h, Kept.refl _ _, Newly.refl _ _, fun e => ⟨e, rfl⟩⟩
  | some ad =>
    obtain ⟨v', w', hr, ho, hg, hn, hat⟩ := run_append_own_at (P := Tryz.prog) w 0 46 ty 5 i0 (.int .u8 0) 1 1 Tryz.underlying46 hi hz0 hz1 hz2 rfl (by decide) v bs.length _ h.1 ad cs.length c (cs.map (Value.int .u8)) (by simp) (cells_news (h3 ad rfl)) (ints_oneCell _ _) (by unfold maxLen; omega) (by omega) (Nat.zero_le _)
    refine ⟨v', w', hr, ⟨by simpa using ho, ?_⟩, Kept.of_grown hg, ?_, fun e => ?_⟩
    · intro y hy
      rcases List.mem_append.1 hy with hy | hy
      · exact h.2 y hy
      · exact h4 y hy
    · intro y hy
      rcases hat with e | e
      · exact .inl (by simpa [own, e] using hy)
      · simp [own, e] at hy
        subst hy
        exact .inr (Nat.le_refl _)
    · obtain ⟨e1, e2⟩ := hn.1 e
      exact ⟨e1, List.eq_nil_of_length_eq_zero e2⟩

theorem below_then {w w1 w2 : World} (h : Below w.heap.size w w1) (k : Below w1.heap.size w1 w2) : Below w.heap.size w w2 := h.trans (k.mono h.size)

theorem below_after {w w1 w2 : World} {o : Obj} (h : Below w.heap.size w w1) (k : Below (w1.alloc o).heap.size (w1.alloc o) w2) : Below w.heap.size w w2 :=
  (h.alloc h.size o).trans (k.mono (by simp; have := h.size; omega))

/-- A new block of bytes. -/
theorem IsB.new (w : World) (bs : List Int) (m : Nat × Nat) (h : ∀ z ∈ bs, 0 ≤ z ∧ z ≤ 255) : IsB (w.alloc (.cells (bs.map (Value.int .u8)).toArray 5 m)) (.slice (some ⟨w.heap.size, 0, none⟩) bs.length bs.length) bs := by
  refine ⟨_, _, rfl, Nat.le_refl _, by simp, fun x hx j hj => ?_, h⟩
  simp only [Option.some.injEq] at hx
  subst hx
  rw [Addr.add_lit]
  rw [World.cell?_alloc_mark]
  simp [hj]

end Go.Proofs.YtgpbanjammipiaaGreatDoor

namespace Go.Proofs.YtgpbanjammipiaaGreatDoor
open Go.RowKit Go.Maps

theorem Tryz.eqlSome (ad : Addr) (n c : Nat) (w : World) : (binOp .eql 46 (.slice (some ad) n c) (.slice none 0 0)).run Tryz.prog w = .ok (.bool false) w := by kernel_rfl

theorem i64_small (x : Int) (h0 : -9223372036854775808 ≤ x) (h1 : x ≤ 9223372036854775807) : IntKind.i64.wrap x = x := by
  rw [IntKind.wrap_i64]
  omega

section
variable {ops : Array Oper} {rest : List Oper} {o : Oper} {a : Act} {Q : Exit → Act → World → Prop}

/-- 'append(row, b...)', row nil or of its own, b whatever: at the operation. -/
theorem wp_appendR (w : World) (hgd : o.guard = none) (s x : Operand) (ho : o.op = .call { callee := .builtin .append, args := #[s, x], argTypes := #[46, 46] })
    (v u : Value) (bs cs : List Int) (hs : a.eval s = v) (hrow : RowB w v bs) (hx : a.eval x = u) (hu : IsB w u cs) (hlen : bs.length + cs.length ≤ 1099511627776)
    (h : ∀ v' w', RowB w' v' (bs ++ cs) → Kept (own v) w w' → Newly w (own v) (own v') → (v' = .slice none 0 0 → v = .slice none 0 0 ∧ cs = []) → wpList Tryz.prog ops Q rest (a.put o.dst v') w') :
    wpList Tryz.prog ops Q (o :: rest) a w := by
  refine wpList_plain hgd fun K hK => ?_
  obtain ⟨v', w', hr, h2, h3, h4, h5⟩ := hrow.append hu hlen o.type
  unfold Oper.wp execOp
  simp only [ho, resolve, invoke, builtin, Sem.run_bind, Sem.run_pure, Result.andThen_ok, List.map_toArray, List.map_cons, List.map_nil, hs, hx, hr]
  exact hK _ _ (h v' w' h2 h3 h4 h5)

end

/-- So many 0s. -/
def zs0 (n : Nat) : List Int := List.replicate n 0

theorem zs0_length (n : Nat) : (zs0 n).length = n := List.length_replicate

/-- 'make([]byte, n)'. -/
theorem wp_makeB {ops : Array Oper} {rest : List Oper} {o : Oper} {a : Act} {Q : Exit → Act → World → Prop} (w : World) (hg : o.guard = none) (x y : Operand) (hop : o.op = Op.makeSlice 46 x y) (n : Nat) (L C : Int)
    (hl : a.eval x = .int .i64 L) (hc : a.eval y = .int .i64 C) (hL : L = (n : Int)) (hC : C = (n : Int)) (hn : n ≤ 1099511627776)
    (h : ∀ w', RowB w' (.slice (some ⟨w.heap.size, 0, none⟩) n n) (zs0 n) → Below w.heap.size w w' → wpList Tryz.prog ops Q rest (a.put o.dst (.slice (some ⟨w.heap.size, 0, none⟩) n n)) w') :
    wpList Tryz.prog ops Q (o :: rest) a w := by
  obtain ⟨i0, hi, hz0, hz1, hz2⟩ := info_parts Tryz.infoU8
  refine wpList_make_full w hg x y 46 hop 0 5 i0 (.int .u8 0) 1 Tryz.underlying46 hi hz0 hz1 .i64 .i64 L C n hl hc hL hC (by rw [hz2]; omega) (by unfold maxLen; omega) (Nat.zero_le _) ?_
  intro w' hown hgr
  refine h w' ⟨?_, ?_⟩ (⟨hgr.os, hgr.tape, hgr.output, hgr.size, fun k hk => hgr.block k hk (by simp)⟩ : Below w.heap.size w w')
  · have e : (madeCells (Value.int .u8 0).cells (n * 1)).toList = (List.replicate n (0 : Int)).map (Value.int .u8) := by
      simp [madeCells, Value.cells]
      apply List.ext_getElem?
      intro i
      by_cases hi : i < n
      · simp [hi, Nat.mod_one]
      · simp [hi]
    rw [e] at hown
    unfold zs0
    simpa using hown
  · intro z hz
    unfold zs0 at hz
    rw [(List.mem_replicate.1 hz).2]
    omega

theorem strOfNums_append (a b : List Int) : strOfNums (a ++ b) = strOfNums a ++ strOfNums b := by
  unfold strOfNums
  apply ByteArray.ext
  simp

end Go.Proofs.YtgpbanjammipiaaGreatDoor
