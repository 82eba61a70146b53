/-
  Lemma texts, one behind the other: Base, DMem, DSmall. No statement of the seat is proved here.
-/
import Derived.Test.YtahhokhhgamelaaRows
import Derived.WalkKit
import Derived.WalkSpells
import Derived.WalkLawsBesides
import Derived.Laws.BytesArg
import Derived.Laws.AppendOwnNone
import Derived.Maps.OwnSet
import Derived.Maps.AppendAt
import Derived.Laws.LoneSync
import Derived.Deep.QuietTactic
import Derived.BigQuiet
namespace Go.Proofs.Ytahhokhhgamelaa
open Go.RowKit

theorem Try.infoU8 : (Try.prog.info? 5).map (fun i => (i.zero, i.size, i.bytes)) = some (some (.int .u8 0), 1, 1) := by kernel_rfl

theorem hide {p : Prop} (h : p) : Hid p := h

/-- The slice value v holds the bytes bs. -/
def IsB (w : World) (v : Value) (bs : List Int) : Prop :=
  ∃ (a : Option Addr) (cap : Nat), v = .slice a bs.length cap ∧ bs.length ≤ cap ∧ (a = none → bs = [] ∧ cap = 0) ∧
    (∀ x, a = some x → ∀ j, j < bs.length → w.cell? (x.add j) = some (.int .u8 (bs[j]?.getD 0))) ∧ ∀ z ∈ bs, 0 ≤ z ∧ z ≤ 255

theorem cells_kept {w w1 : World} {x : Addr} {bs : List Int} (hg : ∀ k, k < w.heap.size → w1.heap[k]? = w.heap[k]?) (hc : ∀ j, j < bs.length → w.cell? (x.add j) = some (.int .u8 (bs[j]?.getD 0))) :
    ∀ j, j < bs.length → w1.cell? (x.add j) = some (.int .u8 (bs[j]?.getD 0)) := by
  intro j hj
  have h := hc j hj
  have hlt := World.block_lt_of_cell? w _ h
  rw [World.cell?_of_block (w := w) (hg _ hlt)]
  exact h

theorem cells_news {w : World} {x : Addr} {bs : List Int} (hc : ∀ j, j < bs.length → w.cell? (x.add j) = some (.int .u8 (bs[j]?.getD 0))) :
    ∀ j u, (bs.map (Value.int .u8))[j]? = some u → w.cell? (x.add j) = some u := by
  intro j u hu
  have hj : j < bs.length := by simpa using (List.getElem?_eq_some_iff.1 hu).1
  rw [hc j hj]
  simp [hj] at hu
  simp [hj, hu]

theorem IsB.below {w w' : World} {v : Value} {bs : List Int} (h : IsB w v bs) (hb : Below w.heap.size w w') : IsB w' v bs := by
  obtain ⟨a, cap, rfl, h1, h2, h3, h4⟩ := h
  exact ⟨a, cap, rfl, h1, h2, fun x hx => cells_kept (fun k hk => hb.block k hk) (h3 x hx), h4⟩

theorem IsB.nil (w : World) : IsB w (.slice none 0 0) [] := ⟨none, 0, rfl, Nat.le_refl _, fun _ => ⟨rfl, rfl⟩, by simp, by simp⟩

theorem IsB.bytes {w : World} {v : Value} {bs : List Int} (h : IsB w v bs) : ∀ z ∈ bs, 0 ≤ z ∧ z ≤ 255 := by
  obtain ⟨a, cap, rfl, h1, h2, h3, h4⟩ := h
  exact h4

/-- A slice that is not empty leads to memory. -/
theorem IsB.opened {w : World} {v : Value} {bs : List Int} (h : IsB w v bs) (h0 : 0 < bs.length) :
    ∃ b off cap, v = .slice (some ⟨b, off, none⟩) bs.length cap ∧ bs.length ≤ cap ∧ ∀ j, j < bs.length → w.cell? ⟨b, off + j, none⟩ = some (.int .u8 (bs[j]?.getD 0)) := by
  obtain ⟨a, cap, rfl, h1, h2, h3, h4⟩ := h
  cases a with
  | none => simp [(h2 rfl).1] at h0
  | some x =>
    obtain ⟨b, off, spot⟩ := x
    have hc := h3 _ rfl 0 h0
    have hspot : spot = none := by simpa [Addr.add] using World.cell?_spot hc
    subst hspot
    refine ⟨b, off, cap, rfl, h1, fun j hj => ?_⟩
    have := h3 _ rfl j hj
    rw [Addr.add_lit] at this
    exact this

/-- A slice's form. -/
theorem IsB.form {w : World} {v : Value} {bs : List Int} (h : IsB w v bs) : ∃ a cap, v = .slice a bs.length cap ∧ bs.length ≤ cap := by
  obtain ⟨a, cap, rfl, h1, _⟩ := h
  exact ⟨a, cap, rfl, h1⟩

/-- A slice's front. -/
theorem IsB.take {w : World} {a : Option Addr} {len cap : Nat} {bs : List Int} (h : IsB w (.slice a len cap) bs) (k : Nat) (hk : k ≤ len) : IsB w (.slice a k cap) (bs.take k) := by
  obtain ⟨a', cap', he, h1, h2, h3, h4⟩ := h
  simp only [Value.slice.injEq] at he
  obtain ⟨rfl, rfl, rfl⟩ := he
  have hl : (bs.take k).length = k := by simp; omega
  refine ⟨a, cap, by rw [hl], by rw [hl]; omega, fun e => ?_, fun x hx j hj => ?_, fun z hz => h4 z (List.mem_of_mem_take hz)⟩
  · obtain ⟨rfl, rfl⟩ := h2 e
    simp
  · rw [hl] at hj
    rw [h3 x hx j (by omega), List.getElem?_take_of_lt hj]

/-- A slice's middle. -/
theorem IsB.mid {w : World} {b off len cap : Nat} {bs : List Int} (h : IsB w (.slice (some ⟨b, off, none⟩) len cap) bs) (p s : Nat) (hp : p + s ≤ len) : IsB w (.slice (some ⟨b, off + p, none⟩) s (cap - p)) ((bs.drop p).take s) := by
  obtain ⟨a', cap', he, h1, h2, h3, h4⟩ := h
  simp only [Value.slice.injEq] at he
  obtain ⟨rfl, rfl, rfl⟩ := he
  have hl : ((bs.drop p).take s).length = s := by simp; omega
  refine ⟨_, _, by rw [hl], by rw [hl]; omega, by simp, fun x hx j hj => ?_, fun z hz => h4 z (List.mem_of_mem_drop (List.mem_of_mem_take hz))⟩
  simp only [Option.some.injEq] at hx
  subst hx
  rw [hl] at hj
  have := h3 _ rfl (p + j) (by omega)
  rw [Addr.add_lit] at this
  rw [Addr.add_lit, Nat.add_assoc, this, List.getElem?_take_of_lt hj, List.getElem?_drop]

/-- The slice at the head of block g, of the call's own blocks from B on, holds the bytes bs. -/
def OwnB (B : Nat) (w : World) (g cap : Nat) (bs : List Int) : Prop :=
  w.ownsRow B 5 1 (.slice (some ⟨g, 0, none⟩) bs.length cap) bs.length (bs.map (Value.int .u8)) ∧ ∀ z ∈ bs, 0 ≤ z ∧ z ≤ 255

theorem OwnB.base {B : Nat} {w : World} {g cap : Nat} {bs : List Int} (h : OwnB B w g cap bs) : B ≤ g ∧ g < w.heap.size := h.1.lt g rfl

theorem OwnB.isB {B : Nat} {w : World} {g cap : Nat} {bs : List Int} (h : OwnB B w g cap bs) : IsB w (.slice (some ⟨g, 0, none⟩) bs.length cap) bs := by
  obtain ⟨⟨h1, h2⟩, h3⟩ := h
  rcases h2 with ⟨h, _⟩ | ⟨g', cap', cur, he, hg, hh, hn, hm, hs, ht⟩
  · simp at h
  · simp only [Value.slice.injEq, Option.some.injEq, Addr.mk.injEq, and_true, true_and] at he
    obtain ⟨rfl, rfl⟩ := he
    refine ⟨_, cap, rfl, hn, by simp, fun x hx j hj => ?_, h3⟩
    simp only [Option.some.injEq] at hx
    subst hx
    have e1 : (cur.toList.take bs.length)[j]? = (bs.map (Value.int .u8))[j]? := by rw [← ht]; simp
    rw [List.getElem?_take_of_lt hj] at e1
    simp [hj] at e1
    rw [Addr.add_lit]
    simp [World.cell?, hh, hj, e1]

theorem OwnB.len_le {B : Nat} {w : World} {g cap : Nat} {bs : List Int} (h : OwnB B w g cap bs) : bs.length ≤ cap := by
  obtain ⟨a, c, he, h1⟩ := h.isB.form
  simp only [Value.slice.injEq, true_and] at he
  omega

theorem OwnB.alloc {B : Nat} {w : World} {g cap : Nat} {bs : List Int} (h : OwnB B w g cap bs) (o : Obj) : OwnB B (w.alloc o) g cap bs := ⟨h.1.alloc o, h.2⟩

/-- What is owned stays, where all that was there stays. -/
theorem OwnB.below {B : Nat} {w w' : World} {g cap : Nat} {bs : List Int} (h : OwnB B w g cap bs) (hb : Below w.heap.size w w') : OwnB B w' g cap bs := by
  have hlt := h.base
  obtain ⟨⟨h1, h2⟩, h3⟩ := h
  refine ⟨⟨h1, ?_⟩, h3⟩
  rcases h2 with ⟨h, _⟩ | ⟨g', cap', cur, he, hg, hh, r⟩
  · simp at h
  · have hg' : g' = g := by simp at he; omega
    subst hg'
    exact .inr ⟨g', cap', cur, he, hg, by rw [hb.block _ hlt.2]; exact hh, r⟩

theorem OwnB.mono {B B' : Nat} {w : World} {g cap : Nat} {bs : List Int} (h : OwnB B w g cap bs) (hB : B' ≤ B) : OwnB B' w g cap bs := by
  obtain ⟨⟨h1, h2⟩, h3⟩ := h
  refine ⟨⟨h1, ?_⟩, h3⟩
  rcases h2 with h | ⟨g', cap', cur, he, hg, r⟩
  · exact .inl h
  · exact .inr ⟨g', cap', cur, he, by omega, r⟩

section
variable {ops : Array Oper} {rest : List Oper} {o : Oper} {a : Act} {Q : Exit → Act → World → Prop}

/-- 'row = append(row, z)', row of the call's own: z has just been laid in a new block. -/
theorem wp_push (w : World) (hgd : o.guard = none) (s x : Operand) (ho : o.op = .call { callee := .builtin .append, args := #[s, x], argTypes := #[28, 28] })
    (B g cap : Nat) (bs : List Int) (z : Int) (hs : a.eval s = .slice (some ⟨g, 0, none⟩) bs.length cap) (hown : OwnB B w g cap bs) (hx : a.eval x = .slice (some ⟨w.heap.size, 0, none⟩) 1 1)
    (hz : 0 ≤ z ∧ z ≤ 255) (hlen : bs.length + 1 ≤ 140737488355328) (hB : B ≤ w.heap.size)
    (h : ∀ g' cap' w', OwnB B w' g' cap' (bs ++ [z]) → Below B w w' → wpList Try.prog ops Q rest (a.put o.dst (.slice (some ⟨g', 0, none⟩) (bs.length + 1) cap')) w') :
    wpList Try.prog ops Q (o :: rest) a (w.alloc (.cells #[.int .u8 z] 5)) := by
  obtain ⟨i0, hi, hz0, hz1, hz2⟩ := info_parts Try.infoU8
  have hb := hown.base
  refine wpList_append_own _ hgd s x 28 ho B 5 i0 (.int .u8 0) 1 1 Try.underlying28 hi hz0 hz1 hz2 rfl (by decide) _ bs.length _ hs (hown.1.alloc _) ⟨w.heap.size, 0, none⟩ 1 1 [.int .u8 z] hx rfl (cell_one_new _ _ _) (by simp [Value.oneCell']) (by unfold maxLen; omega) (by omega) (by simp; omega) ?_
  intro v' w' hown' hgrow _
  have hsh : ∃ g' cap', v' = .slice (some ⟨g', 0, none⟩) (bs.length + 1) cap' := by
    rcases hown'.2 with ⟨_, h0⟩ | ⟨g', cap', _, rfl, _⟩
    · omega
    · exact ⟨g', cap', rfl⟩
  obtain ⟨g', cap', rfl⟩ := hsh
  refine h g' cap' w' ⟨?_, ?_⟩ ?_
  · simpa using hown'
  · intro y hy
    rcases List.mem_append.1 hy with hy | hy
    · exact hown.2 y hy
    · simp at hy
      subst hy
      exact hz
  · exact ((Below.refl _ _).alloc hB _).grown hgrow (by simp; omega) (by intro k hk; simp [Value.ownBlock] at hk; omega)

/-- 'append(row, b...)', row of the call's own, b whatever. -/
theorem wp_appendB (w : World) (hgd : o.guard = none) (s x : Operand) (ho : o.op = .call { callee := .builtin .append, args := #[s, x], argTypes := #[28, 28] })
    (B g cap : Nat) (bs cs : List Int) (v : Value) (hs : a.eval s = .slice (some ⟨g, 0, none⟩) bs.length cap) (hown : OwnB B w g cap bs) (hx : a.eval x = v) (hv : IsB w v cs)
    (hlen : bs.length + cs.length ≤ 140737488355328) (hB : B ≤ w.heap.size)
    (h : ∀ g' cap' w', OwnB B w' g' cap' (bs ++ cs) → Below B w w' → wpList Try.prog ops Q rest (a.put o.dst (.slice (some ⟨g', 0, none⟩) (bs.length + cs.length) cap')) w') :
    wpList Try.prog ops Q (o :: rest) a w := by
  obtain ⟨i0, hi, hz0, hz1, hz2⟩ := info_parts Try.infoU8
  have hb := hown.base
  obtain ⟨ad, c, rfl, h1, h2, h3, h4⟩ := hv
  cases ad with
  | none =>
    obtain ⟨rfl, rfl⟩ := h2 rfl
    refine wpList_append_own_none hgd s x 28 ho B 5 i0 1 Try.underlying28 hi _ _ _ hs hown.1 hx ?_
    have := h g cap w (by simpa using hown) (Below.refl _ _)
    simpa using this
  | some ad =>
    refine wpList_append_own _ hgd s x 28 ho B 5 i0 (.int .u8 0) 1 1 Try.underlying28 hi hz0 hz1 hz2 rfl (by decide) _ bs.length _ hs hown.1 ad cs.length c (cs.map (Value.int .u8)) hx (by simp) (cells_news (h3 ad rfl)) (ints_oneCell _ _) (by unfold maxLen; omega) (by omega) (by omega) ?_
    intro v' w' hown' hgrow hnil
    have hsh : ∃ g' cap', v' = .slice (some ⟨g', 0, none⟩) (bs.length + cs.length) cap' := by
      rcases hown'.2 with ⟨h0, _⟩ | ⟨g', cap', _, rfl, _⟩
      · simp [h0] at hnil
      · exact ⟨g', cap', rfl⟩
    obtain ⟨g', cap', rfl⟩ := hsh
    refine h g' cap' w' ⟨?_, ?_⟩ ?_
    · simpa using hown'
    · intro y hy
      rcases List.mem_append.1 hy with hy | hy
      · exact hown.2 y hy
      · exact h4 y hy
    · exact (Below.refl _ _).grown hgrow (by omega) (by intro k hk; simp [Value.ownBlock] at hk; omega)
end

/-- The string of bytes. -/
theorem conv_isB {w : World} {v : Value} {bs : List Int} (h : IsB w v bs) : (convert 28 9 v).run Try.prog w = .ok (.string (strOfNums bs)) w := by
  obtain ⟨a, cap, rfl, h1, h2, h3, h4⟩ := h
  cases a with
  | none =>
    obtain ⟨rfl, rfl⟩ := h2 rfl
    exact run_convert_bytes_nil w 28 5 Try.underlying28 Try.underlying5 _ _ 9 Try.underlying9
  | some x =>
    by_cases h0 : bs.length = 0
    · obtain rfl : bs = [] := List.eq_nil_of_length_eq_zero h0
      show (convert 28 9 (.slice (some x) 0 cap)).run Try.prog w = _
      rw [run_convert_bytes_string w 28 9 5 _ _ _ Try.underlying28 Try.underlying5 Try.underlying9, run_bytesToString w x 0 cap [] (by simpa using run_loadCells_list (P := Try.prog) w x [] (by simp))]
      rfl
    · obtain ⟨b, off, spot⟩ := x
      have hc := h3 _ rfl 0 (by omega)
      have hspot : spot = none := by simpa [Addr.add] using World.cell?_spot hc
      subst hspot
      refine run_convert_bytes_arg w 28 5 Try.underlying28 Try.underlying5 b off bs.length cap bs rfl (fun i hi => ?_) 9 Try.underlying9
      have := h3 _ rfl i hi
      rw [Addr.add_lit] at this
      simpa [List.getD] using this

/-- Two rows of bytes are the same string just if they are the same. -/
theorem strOfNums_inj {xs ys : List Int} (ha : ∀ z ∈ xs, 0 ≤ z ∧ z ≤ 255) (hb : ∀ z ∈ ys, 0 ≤ z ∧ z ≤ 255) (h : strOfNums xs = strOfNums ys) : xs = ys := by
  have h1 : xs.map (fun n => UInt8.ofNat n.toNat) = ys.map (fun n => UInt8.ofNat n.toNat) := by
    have := congrArg (fun s : ByteArray => s.data.toList) h
    simpa [strOfNums] using this
  induction xs generalizing ys with
  | nil => cases ys with
    | nil => rfl
    | cons b ys => simp at h1
  | cons a xs ih => cases ys with
    | nil => simp at h1
    | cons b ys =>
      simp only [List.map_cons, List.cons.injEq] at h1
      have ha0 := ha a (by simp)
      have hb0 := hb b (by simp)
      have e : a = b := by
        have h2 := congrArg UInt8.toNat h1.1
        simp at h2
        omega
      subst e
      have := ih (fun z hz => ha z (by simp [hz])) (fun z hz => hb z (by simp [hz])) (by simp [strOfNums, h1.2]) h1.2
      rw [this]

end Go.Proofs.Ytahhokhhgamelaa

namespace Go.Proofs.Ytahhokhhgamelaa
open Go.RowKit Go.Maps

/-- w' is w, but for the blocks of fp, and new ones. -/
structure Kept (fp : List Nat) (w w' : World) : Prop where
  os : w'.os = w.os
  tape : w'.tape = w.tape
  output : w'.output = w.output
  size : w.heap.size ≤ w'.heap.size
  block : ∀ k, k < w.heap.size → k ∉ fp → w'.heap[k]? = w.heap[k]?

theorem Kept.refl (fp : List Nat) (w : World) : Kept fp w w := ⟨rfl, rfl, rfl, Nat.le_refl _, fun _ _ _ => rfl⟩

/-- What is in fp', is in fp, or new in w. -/
def Newly (w : World) (fp fp' : List Nat) : Prop := ∀ x ∈ fp', x ∈ fp ∨ w.heap.size ≤ x

theorem Newly.of_sub {w : World} {fp fp' : List Nat} (h : ∀ x ∈ fp', x ∈ fp) : Newly w fp fp' := fun x hx => .inl (h x hx)
theorem Newly.refl (w : World) (fp : List Nat) : Newly w fp fp := fun _ hx => .inl hx

theorem Newly.trans {w w' : World} {a b c : List Nat} (h : Newly w a b) (k : Newly w' b c) (hs : w.heap.size ≤ w'.heap.size) : Newly w a c := fun x hx => by
  rcases k x hx with h1 | h1
  · exact h x h1
  · exact .inr (Nat.le_trans hs h1)

theorem Kept.trans {fp fp' : List Nat} {a b c : World} (h : Kept fp a b) (k : Kept fp' b c) (hn : Newly a fp fp') : Kept fp a c :=
  ⟨k.os.trans h.os, k.tape.trans h.tape, k.output.trans h.output, Nat.le_trans h.size k.size, fun i hi hne =>
    (k.block i (Nat.lt_of_lt_of_le hi h.size) (fun e => by rcases hn i e with h1 | h1; exact hne h1; omega)).trans (h.block i hi hne)⟩

theorem Kept.mono {fp fp' : List Nat} {a b : World} (h : Kept fp a b) (hs : ∀ x ∈ fp, x ∈ fp') : Kept fp' a b :=
  ⟨h.os, h.tape, h.output, h.size, fun k hk hne => h.block k hk (fun e => hne (hs k e))⟩

theorem Kept.of_below {fp : List Nat} {a b : World} (h : Below a.heap.size a b) : Kept fp a b := ⟨h.os, h.tape, h.output, h.size, fun k hk _ => h.block k hk⟩

theorem Kept.of_grown {row : Option Nat} {a b : World} (h : a.grownBy b row) : Kept row.toList a b :=
  ⟨h.os, h.tape, h.output, h.size, fun k hk hne => h.block k hk (fun e => hne (by rw [← e]; simp))⟩

theorem Kept.below {B : Nat} {fp : List Nat} {a b : World} (h : Kept fp a b) (hB : B ≤ a.heap.size) (hf : ∀ x ∈ fp, B ≤ x) : Below B a b :=
  ⟨h.os, h.tape, h.output, h.size, fun k hk => h.block k (by omega) (fun e => by have := hf k e; omega)⟩

theorem Kept.alloc {fp : List Nat} {a b : World} (h : Kept fp a b) (o : Obj) : Kept fp a (b.alloc o) :=
  h.trans (fp' := []) ⟨rfl, rfl, rfl, by simp, fun k hk _ => Below.heap_alloc _ _ _ hk⟩ (fun _ hx => by simp at hx)

theorem Kept.setCell {fp : List Nat} {a b : World} (h : Kept fp a b) {p : Addr} (hp : p.block ∈ fp ∨ a.heap.size ≤ p.block) (u : Value) : Kept fp a (b.setCell p u) :=
  h.trans (fp' := [p.block]) ⟨rfl, rfl, rfl, by simp [World.setCell], fun k _ hk => Below.heap_setCell _ _ _ _ (by simpa using hk)⟩ (fun x hx => by simp at hx; subst hx; exact hp)

theorem Kept.drew {fp : List Nat} {a b : World} (h : Kept fp a b) : Kept fp a b.drew := ⟨h.os, h.tape, h.output, h.size, h.block⟩
theorem Kept.drewN {fp : List Nat} {a b : World} (h : Kept fp a b) (n : Nat) : Kept fp a (b.drewN n) := ⟨h.os, h.tape, h.output, h.size, h.block⟩

theorem Kept.cell {fp : List Nat} {w w' : World} (h : Kept fp w w') {p : Addr} {v : Value} (hv : w.cell? p = some v) (hp : p.block ∉ fp) : w'.cell? p = some v :=
  (World.cell?_of_block (w := w) (h.block p.block (World.block_lt_of_cell? w _ hv) hp)).trans hv

/-- A slice that was there holds what it held, if its block is none of those that were written. -/
theorem IsB.kept {fp : List Nat} {w w' : World} {v : Value} {bs : List Int} (h : IsB w v bs) (hk : Kept fp w w') (hf : bs ≠ [] → ∀ x ∈ v.ownBlock.toList, x ∉ fp) : IsB w' v bs := by
  obtain ⟨a, cap, rfl, h1, h2, h3, h4⟩ := h
  refine ⟨a, cap, rfl, h1, h2, fun x hx j hj => ?_, h4⟩
  subst hx
  exact hk.cell (h3 x rfl j hj) (hf (fun e => by subst e; simp at hj) _ (by simp [Value.ownBlock, Addr.add]; split <;> rfl))

theorem IsB.lt {w : World} {v : Value} {bs : List Int} (h : IsB w v bs) (hne : bs ≠ []) : ∀ x ∈ v.ownBlock.toList, x < w.heap.size := by
  obtain ⟨a, cap, rfl, h1, h2, h3, h4⟩ := h
  intro x hx
  cases a with
  | none => simp [Value.ownBlock] at hx
  | some a =>
    have := World.block_lt_of_cell? w _ (h3 a rfl 0 (List.length_pos_iff.2 hne))
    simp [Value.ownBlock] at hx
    subst hx
    simpa [Addr.add] using this

/-- The blocks of a slice of the disk's own. -/
abbrev own (v : Value) : List Nat := v.ownBlock.toList

/-- The slice v, nil or a row of its own, holds the bytes bs. -/
def RowB (w : World) (v : Value) (bs : List Int) : Prop :=
  w.ownsRow 0 5 1 v bs.length (bs.map (Value.int .u8)) ∧ ∀ z ∈ bs, 0 ≤ z ∧ z ≤ 255

theorem ownsRow_kept {fp : List Nat} {w w' : World} {base : Nat} {e : TypeId} {size : Nat} {v : Value} {n : Nat} {xs : List Value} (h : w.ownsRow base e size v n xs) (hk : Kept fp w w') (hf : ∀ x ∈ own v, x ∉ fp) : w'.ownsRow base e size v n xs := by
  refine ⟨h.1, ?_⟩
  rcases h.2 with hn | ⟨g, cap, cur, rfl, hb, hgg, rest⟩
  · exact .inl hn
  · refine .inr ⟨g, cap, cur, rfl, hb, ?_, rest⟩
    rw [hk.block g (Array.getElem?_eq_some_iff.1 hgg).1 (hf g (by simp [own, Value.ownBlock]))]
    exact hgg

theorem RowB.kept {fp : List Nat} {w w' : World} {v : Value} {bs : List Int} (h : RowB w v bs) (hk : Kept fp w w') (hf : ∀ x ∈ own v, x ∉ fp) : RowB w' v bs := ⟨ownsRow_kept h.1 hk hf, h.2⟩

theorem RowB.nil (w : World) : RowB w (.slice none 0 0) [] := ⟨World.ownsRow_nil w 0 _ _, by simp⟩

theorem RowB.lt {w : World} {v : Value} {bs : List Int} (h : RowB w v bs) : ∀ x ∈ own v, x < w.heap.size := fun x hx => (h.1.lt x (by simpa [own] using hx)).2

theorem RowB.form {w : World} {v : Value} {bs : List Int} (h : RowB w v bs) : (v = .slice none 0 0 ∧ bs = []) ∨ ∃ g cap, v = .slice (some ⟨g, 0, none⟩) bs.length cap ∧ OwnB 0 w g cap bs := by
  obtain ⟨⟨h1, h2⟩, h3⟩ := h
  rcases h2 with ⟨rfl, h⟩ | ⟨g, cap, cur, rfl, hb, hgg, rest⟩
  · exact .inl ⟨rfl, List.eq_nil_of_length_eq_zero h⟩
  · exact .inr ⟨g, cap, rfl, ⟨h1, .inr ⟨g, cap, cur, rfl, hb, hgg, rest⟩⟩, h3⟩

theorem RowB.isB {w : World} {v : Value} {bs : List Int} (h : RowB w v bs) : IsB w v bs := by
  rcases h.form with ⟨rfl, rfl⟩ | ⟨g, cap, rfl, ho⟩
  · exact IsB.nil w
  · exact ho.isB

theorem OwnB.rowB {B : Nat} {w : World} {g cap : Nat} {bs : List Int} (h : OwnB B w g cap bs) : RowB w (.slice (some ⟨g, 0, none⟩) bs.length cap) bs := ⟨(h.mono (Nat.zero_le B)).1, h.2⟩

/-- A new row of no bytes. -/
theorem OwnB.empty (w : World) (B : Nat) (hB : B ≤ w.heap.size) : OwnB B (w.alloc (.cells #[] 5)) w.heap.size 0 [] :=
  ⟨World.ownsRow_made w #[] 0 hB (by unfold maxLen; omega) rfl, by simp⟩

/-- 'append(row, b...)': row nil or a row of its own, b whatever. -/
theorem RowB.append {w : World} {v x : Value} {bs cs : List Int} (h : RowB w v bs) (hx : IsB w x cs) (hlen : bs.length + cs.length ≤ 1099511627776) (ty : TypeId) :
    ∃ v' w', (Builtin.append_ #[28, 28] ty #[v, x]).run Try.prog w = .ok v' w' ∧ RowB w' v' (bs ++ cs) ∧ Kept (own v) w w' ∧ Newly w (own v) (own v') ∧ (v' = .slice none 0 0 → v = .slice none 0 0 ∧ cs = []) := by
  obtain ⟨i0, hi, hz0, hz1, hz2⟩ := info_parts Try.infoU8
  obtain ⟨ad, c, rfl, h1, h2, h3, h4⟩ := hx
  cases ad with
  | none =>
    obtain ⟨rfl, rfl⟩ := h2 rfl
    have hrun := run_append_owned_none (P := Try.prog) (w := w) 0 28 ty 5 i0 1 Try.underlying28 hi _ _ _ h.1
    exact ⟨v, w, hrun, by simpa using h, Kept.refl _ _, Newly.refl _ _, fun e => ⟨e, rfl⟩⟩
  | some ad =>
    obtain ⟨v', w', hr, ho, hg, hn, hat⟩ := run_append_own_at (P := Try.prog) w 0 28 ty 5 i0 (.int .u8 0) 1 1 Try.underlying28 hi hz0 hz1 hz2 rfl (by decide) v bs.length _ h.1 ad cs.length c (cs.map (Value.int .u8)) (by simp) (cells_news (h3 ad rfl)) (ints_oneCell _ _) (by unfold maxLen; omega) (by omega) (Nat.zero_le _)
    refine ⟨v', w', hr, ⟨by simpa using ho, ?_⟩, Kept.of_grown hg, ?_, fun e => ?_⟩
    · intro y hy
      rcases List.mem_append.1 hy with hy | hy
      · exact h.2 y hy
      · exact h4 y hy
    · intro y hy
      rcases hat with e | e
      · exact .inl (by simpa [own, e] using hy)
      · simp [own, e] at hy
        subst hy
        exact .inr (Nat.le_refl _)
    · obtain ⟨e1, e2⟩ := hn.1 e
      exact ⟨e1, List.eq_nil_of_length_eq_zero e2⟩

/-! ### Files -/

/-- A file in memory: its name, its block, the two slices, and what they hold. -/
structure Fl where
  name : List UInt8
  blk : Nat
  vn : Value
  vs : Value
  now : List Int
  syn : List Int

/-- The blocks of a file. -/
def foot (f : Fl) : List Nat := f.blk :: (own f.vn ++ own f.vs)

structure FileAt (w : World) (f : Fl) : Prop where
  cells : w.heap[f.blk]? = some (.cells #[f.vn, f.vs] 77 (0, 0))
  rnow : RowB w f.vn f.now
  rsyn : RowB w f.vs f.syn
  apart : (foot f).Nodup

theorem FileAt.lt {w : World} {f : Fl} (h : FileAt w f) : ∀ x ∈ foot f, x < w.heap.size := by
  intro x hx
  simp only [foot, List.mem_cons, List.mem_append] at hx
  rcases hx with rfl | hx | hx
  · exact (Array.getElem?_eq_some_iff.1 h.cells).1
  · exact h.rnow.lt x hx
  · exact h.rsyn.lt x hx

theorem FileAt.kept {fp : List Nat} {w w' : World} {f : Fl} (h : FileAt w f) (hk : Kept fp w w') (hf : ∀ x ∈ foot f, x ∉ fp) : FileAt w' f :=
  ⟨(hk.block _ (h.lt _ (by simp [foot])) (hf _ (by simp [foot]))).trans h.cells, h.rnow.kept hk (fun x hx => hf x (by simp only [foot, List.mem_cons, List.mem_append]; exact .inr (.inl hx))), h.rsyn.kept hk (fun x hx => hf x (by simp only [foot, List.mem_cons, List.mem_append]; exact .inr (.inr hx))), h.apart⟩

/-- A block of cells, read and marked. -/
theorem cell_of_heap {w : World} {b : Nat} {cs : Array Value} {t : TypeId} {m : Nat × Nat} (h : w.heap[b]? = some (.cells cs t m)) (o : Nat) : w.cell? ⟨b, o, none⟩ = cs[o]? := by simp [World.cell?, h]
theorem frozen_of_heap {w : World} {b : Nat} {cs : Array Value} {t : TypeId} (h : w.heap[b]? = some (.cells cs t (0, 0))) (o : Nat) : w.frozen? ⟨b, o, none⟩ = false := by simp [World.frozen?, h]
theorem heap_setCell {w : World} {b : Nat} {cs : Array Value} {t : TypeId} {m : Nat × Nat} (h : w.heap[b]? = some (.cells cs t m)) (o : Nat) (v : Value) : (w.setCell ⟨b, o, none⟩ v).heap[b]? = some (.cells (cs.setIfInBounds o v) t m) := by
  simp [World.setCell, Array.getElem?_modify, h]

/-! ### Disks -/

/-- How a pointer to a file reads: as its block's number. -/
def ptrE (v : Value) : Option (DataW Unit × List MemPlace) :=
  match v with
  | .pointer none => some (.nil, [])
  | .pointer (some a) => if a = ⟨a.block, 0, none⟩ then some (.lit (.int .i64 a.block), []) else none
  | _ => none

theorem ptrE_none : ptrE (.pointer none) = some (.nil, []) := rfl
theorem ptrE_some (b : Nat) : ptrE (.pointer (some ⟨b, 0, none⟩)) = some (.lit (.int .i64 b), []) := by simp [ptrE]

theorem ptrE_inv_nil {v : Value} {ps : List MemPlace} (h : ptrE v = some (.nil, ps)) : v = .pointer none := by
  unfold ptrE at h
  split at h
  · rfl
  · split at h <;> simp at h
  · simp at h

theorem ptrE_inv {v : Value} {b : Nat} {ps : List MemPlace} (h : ptrE v = some (.lit (.int .i64 b), ps)) : v = .pointer (some ⟨b, 0, none⟩) := by
  unfold ptrE at h
  split at h
  · simp at h
  · split at h
    · rename_i a e
      simp at h
      rw [e]
      congr 3
      omega
    · simp at h
  · simp at h

/-- The file of a name. -/
def look (fs : List Fl) (n : List UInt8) : Option Fl := fs.find? (fun f => f.name == n)

/-- The datum D is the map of these files' names to their blocks. -/
structure MapIs (D : DataW Unit) (fs : List Fl) : Prop where
  at_ : ∀ n, D.atKey (.string n) .nil = match look fs n with | some f => .lit (.int .i64 f.blk) | none => .nil
  has : ∀ n, Maps.has D (.string n) = (look fs n).isSome
  size : Maps.size D = fs.length

/-- The slice v, nil or a row of its own, holds these truths. -/
def RowK (w : World) (v : Value) (ks : List Bool) : Prop := w.ownsRow 0 4 1 v ks.length (ks.map Value.bool)

theorem RowK.kept {fp : List Nat} {w w' : World} {v : Value} {ks : List Bool} (h : RowK w v ks) (hk : Kept fp w w') (hf : ∀ x ∈ own v, x ∉ fp) : RowK w' v ks := ownsRow_kept h hk hf
theorem RowK.lt {w : World} {v : Value} {ks : List Bool} (h : RowK w v ks) : ∀ x ∈ own v, x < w.heap.size := fun x hx => (World.ownsRow.lt h x (by simpa [own] using hx)).2

/-- What a disk has beside its files. -/
structure Ds where
  room : Int
  used : Int
  ops : Int
  down : Bool
  left : Int
  keep : List Bool

/-- The disk's own block. -/
def diskCells (bm : Nat) (kv : Value) (s : Ds) : Array Value := #[.map (some bm), .int .i64 s.room, .int .i64 s.used, .int .i64 s.ops, .bool s.down, .int .i64 s.left, kv]

/-- The blocks of a disk. -/
def feet (p bm : Nat) (kv : Value) (fs : List Fl) : List Nat := p :: bm :: (own kv ++ fs.flatMap foot)

structure DiskAt (w : World) (p bm : Nat) (kv : Value) (fs : List Fl) (s : Ds) : Prop where
  cells : w.heap[p]? = some (.cells (diskCells bm kv s) 72 (0, 0))
  map : ∃ D, w.ownsMap Try.prog 9 ptrE bm fs.length D ∧ MapIs D fs
  files : ∀ f ∈ fs, FileAt w f
  keep : RowK w kv s.keep
  apart : (feet p bm kv fs).Nodup
  sorted : fs.Pairwise (fun f g => f.name < g.name)

end Go.Proofs.Ytahhokhhgamelaa

namespace Go.Proofs.Ytahhokhhgamelaa
open Go.RowKit Go.Maps

theorem i64_small (x : Int) (h0 : -9223372036854775808 ≤ x) (h1 : x ≤ 9223372036854775807) : IntKind.i64.wrap x = x := by
  rw [IntKind.wrap_i64]
  omega

/-- How many sectors so many bytes need. -/
def sec (n : Nat) : Int := ((n + 15) / 16 : Nat)

theorem sec_eq (n : Nat) : sec n = ((n : Int) + 15) / 16 := by unfold sec; omega

theorem sectors_any (n : Nat) (h : n ≤ 1099511627776) (w : World) : Calls Try.prog 59 #[.int .i64 n] w fun e w' => e = .returned (.int .i64 (sec n)) ∧ w' = w := by
  rw [sec_eq]
  go_enter Try.func59, Try.ntmps59
  go_wp2
  go_ret
  refine ⟨?_, rfl⟩
  have e : (n : Int) + 16 - 1 = n + 15 := by omega
  rw [← e]
  rfl

/-- May a name be? -/
def mayB (s : List UInt8) : Bool := decide (1 ≤ s.length) && decide (s.length ≤ 24)

theorem mayBe_any (s : ByteArray) (hs : s.size ≤ maxLen) (w : World) : Calls Try.prog 46 #[.string s] w fun e w' => e = .returned (.bool (mayB s.data.toList)) ∧ w' = w := by
  unfold maxLen at hs
  have hm : mayB s.data.toList = (decide (1 ≤ s.size) && decide (s.size ≤ 24)) := by simp [mayB]
  rw [hm]
  clear hm
  by_cases h1 : 1 ≤ s.size
  · by_cases h2 : s.size ≤ 24
    · go_enter Try.func46, Try.ntmps46
      go_wp2
      go_ret
      simp [h1, h2]
      omega
    · go_enter Try.func46, Try.ntmps46
      go_wp2
      go_ret
      simp [h1, h2]
      omega
  · go_enter Try.func46, Try.ntmps46
    go_wp2
    go_ret
    simp

theorem Try.addInt64 {a : Addr} {x y s : Int} {w : World} (hc : w.cell? a = some (.int .i64 x)) (hz : w.frozen? a = false) (hs : IntKind.i64.wrap (x + y) = s) :
    (callFunc 70 #[.pointer (some a), .int .i64 y]).run Try.prog w = .ok (.value (.int .i64 s)) (w.setCell a (.int .i64 s)) :=
  run_call_add Try.func70 (by kernel_rfl) (by kernel_rfl) (by kernel_rfl) .i64 (by kernel_rfl) hc hz (by rw [← hs]; rfl)

theorem Try.loadInt64 {a : Addr} {x : Int} {w : World} (hc : w.cell? a = some (.int .i64 x)) :
    (callFunc 69 #[.pointer (some a)]).run Try.prog w = .ok (.value (.int .i64 x)) w :=
  run_call_load Try.func69 (by kernel_rfl) (by kernel_rfl) (by kernel_rfl) .i64 (by kernel_rfl) hc

theorem add_any (b o : Nat) (x y s : Int) (w : World) (hc : w.cell? ⟨b, o, none⟩ = some (.int .i64 x)) (hz : w.frozen? ⟨b, o, none⟩ = false) (hs : IntKind.i64.wrap (x + y) = s) :
    Calls Try.prog 63 #[.pointer (some ⟨b, o, none⟩), .int .i64 y] w fun e w' => e = .returned (.int .i64 s) ∧ w' = w.setCell ⟨b, o, none⟩ (.int .i64 s) := by
  have hr := Try.addInt64 hc hz hs
  clear hs
  go_enter Try.func63, Try.ntmps63
  go_wp2
  go_ret
  exact ⟨rfl, rfl⟩

theorem load_any (b o : Nat) (x : Int) (w : World) (hc : w.cell? ⟨b, o, none⟩ = some (.int .i64 x)) :
    Calls Try.prog 61 #[.pointer (some ⟨b, o, none⟩)] w fun e w' => e = .returned (.int .i64 x) ∧ w' = w := by
  have hr := Try.loadInt64 hc -- 69
  go_enter Try.func61, Try.ntmps61
  go_wp2
  go_ret
  exact ⟨rfl, rfl⟩

section
variable {w : World} {p bm : Nat} {kv : Value} {fs : List Fl} {s : Ds}

theorem down_any (h : DiskAt w p bm kv fs s) : Calls Try.prog 40 #[.pointer (some ⟨p, 0, none⟩)] w fun e w' => e = .returned (.bool s.down) ∧ w' = w := by
  have c4 := cell_of_heap h.cells 4
  simp [diskCells] at c4
  clear h
  go_enter Try.func40, Try.ntmps40
  go_wp2
  go_ret
  exact ⟨rfl, rfl⟩

theorem used_any (h : DiskAt w p bm kv fs s) : Calls Try.prog 42 #[.pointer (some ⟨p, 0, none⟩)] w fun e w' => e = .returned (.int .i64 s.used) ∧ w' = w := by
  have c4 := cell_of_heap h.cells 2
  simp [diskCells] at c4
  clear h
  go_enter Try.func42, Try.ntmps42
  go_wp2
  go_ret
  exact ⟨rfl, rfl⟩

theorem room_any (h : DiskAt w p bm kv fs s) : Calls Try.prog 44 #[.pointer (some ⟨p, 0, none⟩)] w fun e w' => e = .returned (.int .i64 s.room) ∧ w' = w := by
  have c4 := cell_of_heap h.cells 1
  simp [diskCells] at c4
  clear h
  go_enter Try.func44, Try.ntmps44
  go_wp2
  go_ret
  exact ⟨rfl, rfl⟩

theorem ops_any (h : DiskAt w p bm kv fs s) : Calls Try.prog 41 #[.pointer (some ⟨p, 0, none⟩)] w fun e w' => e = .returned (.int .i64 s.ops) ∧ w' = w := by
  have c4 := cell_of_heap h.cells 3
  simp [diskCells] at c4
  clear h
  go_enter Try.func41, Try.ntmps41
  go_wp2_with (go_at_call 61; refine (load_any _ _ s.ops _ ?_).mono ?_; (first | exact c4 | simpa using c4); rintro e w' ⟨rfl, rfl⟩)
  go_ret
  exact ⟨rfl, rfl⟩
end

/-- bytes.Equal. -/
theorem bytesEqual_any (a b : Value) (xs ys : List Int) (w : World) (ha : IsB w a xs) (hb : IsB w b ys) :
    Calls Try.prog 74 #[a, b] w fun e w' => e = .returned (.bool (decide (xs = ys))) ∧ w' = w := by
  have c1 := conv_isB ha
  have c2 := conv_isB hb
  have hx := ha.bytes
  have hy := hb.bytes
  obtain ⟨a1, cp1, rfl, _⟩ := ha.form
  obtain ⟨a2, cp2, rfl, _⟩ := hb.form
  clear ha hb
  by_cases e : xs = ys
  · subst e
    go_enter Try.func74, Try.ntmps74
    go_wp2
    go_ret
    simp
  · have hne : (strOfNums xs).toList ≠ (strOfNums ys).toList := fun h => e (strOfNums_inj hx hy (by
      rw [ByteArray.toList_eq, ByteArray.toList_eq] at h
      generalize strOfNums xs = a at h
      generalize strOfNums ys = b at h
      cases a
      cases b
      simp at h
      rw [h]))
    have HE : Hid (¬ xs = ys) := e
    clear e
    go_enter Try.func74, Try.ntmps74
    go_wp2
    go_ret
    simp [HE.out, hne]

end Go.Proofs.Ytahhokhhgamelaa
