/-
  Rows of bytes in memory: what a slice of bytes holds, what a slice of bytes of the call's own holds, and the walk's laws on appending to it. A lemma file: no statement of the seat is proved here.
-/
import Derived.Test.YtbhjdcoehgajcaaRows
import Derived.WalkKit
import Derived.WalkSpells
import Derived.WalkLawsBesides
import Derived.Laws.BytesArg
import Derived.Laws.AppendOwnNone
namespace Go.Proofs.Ytbhjdcoehgajcaa
open Go.RowKit

theorem Try.infoU8 : (Try.prog.info? 5).map (fun i => (i.zero, i.size, i.bytes)) = some (some (.int .u8 0), 1, 1) := by kernel_rfl

theorem hide {p : Prop} (h : p) : Hid p := h

/-- The slice value v holds the bytes bs. -/
def IsB (w : World) (v : Value) (bs : List Int) : Prop :=
  ∃ (a : Option Addr) (cap : Nat), v = .slice a bs.length cap ∧ bs.length ≤ cap ∧ (a = none → bs = [] ∧ cap = 0) ∧
    (∀ x, a = some x → ∀ j, j < bs.length → w.cell? (x.add j) = some (.int .u8 (bs[j]?.getD 0))) ∧ ∀ z ∈ bs, 0 ≤ z ∧ z ≤ 255

theorem cells_kept {w w1 : World} {x : Addr} {bs : List Int} (hg : ∀ k, k < w.heap.size → w1.heap[k]? = w.heap[k]?) (hc : ∀ j, j < bs.length → w.cell? (x.add j) = some (.int .u8 (bs[j]?.getD 0))) :
    ∀ j, j < bs.length → w1.cell? (x.add j) = some (.int .u8 (bs[j]?.getD 0)) := by
  intro j hj
  have h := hc j hj
  have hlt := World.block_lt_of_cell? w _ h
  rw [World.cell?_of_block (w := w) (hg _ hlt)]
  exact h

theorem cells_news {w : World} {x : Addr} {bs : List Int} (hc : ∀ j, j < bs.length → w.cell? (x.add j) = some (.int .u8 (bs[j]?.getD 0))) :
    ∀ j u, (bs.map (Value.int .u8))[j]? = some u → w.cell? (x.add j) = some u := by
  intro j u hu
  have hj : j < bs.length := by simpa using (List.getElem?_eq_some_iff.1 hu).1
  rw [hc j hj]
  simp [hj] at hu
  simp [hj, hu]

theorem IsB.below {w w' : World} {v : Value} {bs : List Int} (h : IsB w v bs) (hb : Below w.heap.size w w') : IsB w' v bs := by
  obtain ⟨a, cap, rfl, h1, h2, h3, h4⟩ := h
  exact ⟨a, cap, rfl, h1, h2, fun x hx => cells_kept (fun k hk => hb.block k hk) (h3 x hx), h4⟩

theorem IsB.nil (w : World) : IsB w (.slice none 0 0) [] := ⟨none, 0, rfl, Nat.le_refl _, fun _ => ⟨rfl, rfl⟩, by simp, by simp⟩

theorem IsB.bytes {w : World} {v : Value} {bs : List Int} (h : IsB w v bs) : ∀ z ∈ bs, 0 ≤ z ∧ z ≤ 255 := by
  obtain ⟨a, cap, rfl, h1, h2, h3, h4⟩ := h
  exact h4

/-- A slice that is not empty leads to memory. -/
theorem IsB.opened {w : World} {v : Value} {bs : List Int} (h : IsB w v bs) (h0 : 0 < bs.length) :
    ∃ b off cap, v = .slice (some ⟨b, off, none⟩) bs.length cap ∧ bs.length ≤ cap ∧ ∀ j, j < bs.length → w.cell? ⟨b, off + j, none⟩ = some (.int .u8 (bs[j]?.getD 0)) := by
  obtain ⟨a, cap, rfl, h1, h2, h3, h4⟩ := h
  cases a with
  | none => simp [(h2 rfl).1] at h0
  | some x =>
    obtain ⟨b, off, spot⟩ := x
    have hc := h3 _ rfl 0 h0
    have hspot : spot = none := by simpa [Addr.add] using World.cell?_spot hc
    subst hspot
    refine ⟨b, off, cap, rfl, h1, fun j hj => ?_⟩
    have := h3 _ rfl j hj
    rw [Addr.add_lit] at this
    exact this

/-- A slice's form. -/
theorem IsB.form {w : World} {v : Value} {bs : List Int} (h : IsB w v bs) : ∃ a cap, v = .slice a bs.length cap ∧ bs.length ≤ cap := by
  obtain ⟨a, cap, rfl, h1, _⟩ := h
  exact ⟨a, cap, rfl, h1⟩

/-- A slice's front. -/
theorem IsB.take {w : World} {a : Option Addr} {len cap : Nat} {bs : List Int} (h : IsB w (.slice a len cap) bs) (k : Nat) (hk : k ≤ len) : IsB w (.slice a k cap) (bs.take k) := by
  obtain ⟨a', cap', he, h1, h2, h3, h4⟩ := h
  simp only [Value.slice.injEq] at he
  obtain ⟨rfl, rfl, rfl⟩ := he
  have hl : (bs.take k).length = k := by simp; omega
  refine ⟨a, cap, by rw [hl], by rw [hl]; omega, fun e => ?_, fun x hx j hj => ?_, fun z hz => h4 z (List.mem_of_mem_take hz)⟩
  · obtain ⟨rfl, rfl⟩ := h2 e
    simp
  · rw [hl] at hj
    rw [h3 x hx j (by omega), List.getElem?_take_of_lt hj]

/-- A slice's middle. -/
theorem IsB.mid {w : World} {b off len cap : Nat} {bs : List Int} (h : IsB w (.slice (some ⟨b, off, none⟩) len cap) bs) (p s : Nat) (hp : p + s ≤ len) : IsB w (.slice (some ⟨b, off + p, none⟩) s (cap - p)) ((bs.drop p).take s) := by
  obtain ⟨a', cap', he, h1, h2, h3, h4⟩ := h
  simp only [Value.slice.injEq] at he
  obtain ⟨rfl, rfl, rfl⟩ := he
  have hl : ((bs.drop p).take s).length = s := by simp; omega
  refine ⟨_, _, by rw [hl], by rw [hl]; omega, by simp, fun x hx j hj => ?_, fun z hz => h4 z (List.mem_of_mem_drop (List.mem_of_mem_take hz))⟩
  simp only [Option.some.injEq] at hx
  subst hx
  rw [hl] at hj
  have := h3 _ rfl (p + j) (by omega)
  rw [Addr.add_lit] at this
  rw [Addr.add_lit, Nat.add_assoc, this, List.getElem?_take_of_lt hj, List.getElem?_drop]

/-- The slice at the head of block g, of the call's own blocks from B on, holds the bytes bs. -/
def OwnB (B : Nat) (w : World) (g cap : Nat) (bs : List Int) : Prop :=
  w.ownsRow B 5 1 (.slice (some ⟨g, 0, none⟩) bs.length cap) bs.length (bs.map (Value.int .u8)) ∧ ∀ z ∈ bs, 0 ≤ z ∧ z ≤ 255

theorem OwnB.base {B : Nat} {w : World} {g cap : Nat} {bs : List Int} (h : OwnB B w g cap bs) : B ≤ g ∧ g < w.heap.size := h.1.lt g rfl

theorem OwnB.isB {B : Nat} {w : World} {g cap : Nat} {bs : List Int} (h : OwnB B w g cap bs) : IsB w (.slice (some ⟨g, 0, none⟩) bs.length cap) bs := by
  obtain ⟨⟨h1, h2⟩, h3⟩ := h
  rcases h2 with ⟨h, _⟩ | ⟨g', cap', cur, he, hg, hh, hn, hm, hs, ht⟩
  · simp at h
  · simp only [Value.slice.injEq, Option.some.injEq, Addr.mk.injEq, and_true, true_and] at he
    obtain ⟨rfl, rfl⟩ := he
    refine ⟨_, cap, rfl, hn, by simp, fun x hx j hj => ?_, h3⟩
    simp only [Option.some.injEq] at hx
    subst hx
    have e1 : (cur.toList.take bs.length)[j]? = (bs.map (Value.int .u8))[j]? := by rw [← ht]; simp
    rw [List.getElem?_take_of_lt hj] at e1
    simp [hj] at e1
    rw [Addr.add_lit]
    simp [World.cell?, hh, hj, e1]

theorem OwnB.len_le {B : Nat} {w : World} {g cap : Nat} {bs : List Int} (h : OwnB B w g cap bs) : bs.length ≤ cap := by
  obtain ⟨a, c, he, h1⟩ := h.isB.form
  simp only [Value.slice.injEq, true_and] at he
  omega

theorem OwnB.alloc {B : Nat} {w : World} {g cap : Nat} {bs : List Int} (h : OwnB B w g cap bs) (o : Obj) : OwnB B (w.alloc o) g cap bs := ⟨h.1.alloc o, h.2⟩

/-- What is owned stays, where all that was there stays. -/
theorem OwnB.below {B : Nat} {w w' : World} {g cap : Nat} {bs : List Int} (h : OwnB B w g cap bs) (hb : Below w.heap.size w w') : OwnB B w' g cap bs := by
  have hlt := h.base
  obtain ⟨⟨h1, h2⟩, h3⟩ := h
  refine ⟨⟨h1, ?_⟩, h3⟩
  rcases h2 with ⟨h, _⟩ | ⟨g', cap', cur, he, hg, hh, r⟩
  · simp at h
  · have hg' : g' = g := by simp at he; omega
    subst hg'
    exact .inr ⟨g', cap', cur, he, hg, by rw [hb.block _ hlt.2]; exact hh, r⟩

theorem OwnB.mono {B B' : Nat} {w : World} {g cap : Nat} {bs : List Int} (h : OwnB B w g cap bs) (hB : B' ≤ B) : OwnB B' w g cap bs := by
  obtain ⟨⟨h1, h2⟩, h3⟩ := h
  refine ⟨⟨h1, ?_⟩, h3⟩
  rcases h2 with h | ⟨g', cap', cur, he, hg, r⟩
  · exact .inl h
  · exact .inr ⟨g', cap', cur, he, by omega, r⟩

section
variable {ops : Array Oper} {rest : List Oper} {o : Oper} {a : Act} {Q : Exit → Act → World → Prop}

/-- 'row = append(row, z)', row of the call's own: z has just been laid in a new block. -/
theorem wp_push (w : World) (hgd : o.guard = none) (s x : Operand) (ho : o.op = .call { callee := .builtin .append, args := #[s, x], argTypes := #[28, 28] })
    (B g cap : Nat) (bs : List Int) (z : Int) (hs : a.eval s = .slice (some ⟨g, 0, none⟩) bs.length cap) (hown : OwnB B w g cap bs) (hx : a.eval x = .slice (some ⟨w.heap.size, 0, none⟩) 1 1)
    (hz : 0 ≤ z ∧ z ≤ 255) (hlen : bs.length + 1 ≤ 140737488355328) (hB : B ≤ w.heap.size)
    (h : ∀ g' cap' w', OwnB B w' g' cap' (bs ++ [z]) → Below B w w' → wpList Try.prog ops Q rest (a.put o.dst (.slice (some ⟨g', 0, none⟩) (bs.length + 1) cap')) w') :
    wpList Try.prog ops Q (o :: rest) a (w.alloc (.cells #[.int .u8 z] 5)) := by
  obtain ⟨i0, hi, hz0, hz1, hz2⟩ := info_parts Try.infoU8
  have hb := hown.base
  refine wpList_append_own _ hgd s x 28 ho B 5 i0 (.int .u8 0) 1 1 Try.underlying28 hi hz0 hz1 hz2 rfl (by decide) _ bs.length _ hs (hown.1.alloc _) ⟨w.heap.size, 0, none⟩ 1 1 [.int .u8 z] hx rfl (cell_one_new _ _ _) (by simp [Value.oneCell']) (by unfold maxLen; omega) (by omega) (by simp; omega) ?_
  intro v' w' hown' hgrow _
  have hsh : ∃ g' cap', v' = .slice (some ⟨g', 0, none⟩) (bs.length + 1) cap' := by
    rcases hown'.2 with ⟨_, h0⟩ | ⟨g', cap', _, rfl, _⟩
    · omega
    · exact ⟨g', cap', rfl⟩
  obtain ⟨g', cap', rfl⟩ := hsh
  refine h g' cap' w' ⟨?_, ?_⟩ ?_
  · simpa using hown'
  · intro y hy
    rcases List.mem_append.1 hy with hy | hy
    · exact hown.2 y hy
    · simp at hy
      subst hy
      exact hz
  · exact ((Below.refl _ _).alloc hB _).grown hgrow (by simp; omega) (by intro k hk; simp [Value.ownBlock] at hk; omega)

/-- 'append(row, b...)', row of the call's own, b whatever. -/
theorem wp_appendB (w : World) (hgd : o.guard = none) (s x : Operand) (ho : o.op = .call { callee := .builtin .append, args := #[s, x], argTypes := #[28, 28] })
    (B g cap : Nat) (bs cs : List Int) (v : Value) (hs : a.eval s = .slice (some ⟨g, 0, none⟩) bs.length cap) (hown : OwnB B w g cap bs) (hx : a.eval x = v) (hv : IsB w v cs)
    (hlen : bs.length + cs.length ≤ 140737488355328) (hB : B ≤ w.heap.size)
    (h : ∀ g' cap' w', OwnB B w' g' cap' (bs ++ cs) → Below B w w' → wpList Try.prog ops Q rest (a.put o.dst (.slice (some ⟨g', 0, none⟩) (bs.length + cs.length) cap')) w') :
    wpList Try.prog ops Q (o :: rest) a w := by
  obtain ⟨i0, hi, hz0, hz1, hz2⟩ := info_parts Try.infoU8
  have hb := hown.base
  obtain ⟨ad, c, rfl, h1, h2, h3, h4⟩ := hv
  cases ad with
  | none =>
    obtain ⟨rfl, rfl⟩ := h2 rfl
    refine wpList_append_own_none hgd s x 28 ho B 5 i0 1 Try.underlying28 hi _ _ _ hs hown.1 hx ?_
    have := h g cap w (by simpa using hown) (Below.refl _ _)
    simpa using this
  | some ad =>
    refine wpList_append_own _ hgd s x 28 ho B 5 i0 (.int .u8 0) 1 1 Try.underlying28 hi hz0 hz1 hz2 rfl (by decide) _ bs.length _ hs hown.1 ad cs.length c (cs.map (Value.int .u8)) hx (by simp) (cells_news (h3 ad rfl)) (ints_oneCell _ _) (by unfold maxLen; omega) (by omega) (by omega) ?_
    intro v' w' hown' hgrow hnil
    have hsh : ∃ g' cap', v' = .slice (some ⟨g', 0, none⟩) (bs.length + cs.length) cap' := by
      rcases hown'.2 with ⟨h0, _⟩ | ⟨g', cap', _, rfl, _⟩
      · simp [h0] at hnil
      · exact ⟨g', cap', rfl⟩
    obtain ⟨g', cap', rfl⟩ := hsh
    refine h g' cap' w' ⟨?_, ?_⟩ ?_
    · simpa using hown'
    · intro y hy
      rcases List.mem_append.1 hy with hy | hy
      · exact hown.2 y hy
      · exact h4 y hy
    · exact (Below.refl _ _).grown hgrow (by omega) (by intro k hk; simp [Value.ownBlock] at hk; omega)
end

/-- The string of bytes. -/
theorem conv_isB {w : World} {v : Value} {bs : List Int} (h : IsB w v bs) : (convert 28 9 v).run Try.prog w = .ok (.string (strOfNums bs)) w := by
  obtain ⟨a, cap, rfl, h1, h2, h3, h4⟩ := h
  cases a with
  | none =>
    obtain ⟨rfl, rfl⟩ := h2 rfl
    exact run_convert_bytes_nil w 28 5 Try.underlying28 Try.underlying5 _ _ 9 Try.underlying9
  | some x =>
    by_cases h0 : bs.length = 0
    · obtain rfl : bs = [] := List.eq_nil_of_length_eq_zero h0
      show (convert 28 9 (.slice (some x) 0 cap)).run Try.prog w = _
      rw [run_convert_bytes_string w 28 9 5 _ _ _ Try.underlying28 Try.underlying5 Try.underlying9, run_bytesToString w x 0 cap [] (by simpa using run_loadCells_list (P := Try.prog) w x [] (by simp))]
      rfl
    · obtain ⟨b, off, spot⟩ := x
      have hc := h3 _ rfl 0 (by omega)
      have hspot : spot = none := by simpa [Addr.add] using World.cell?_spot hc
      subst hspot
      refine run_convert_bytes_arg w 28 5 Try.underlying28 Try.underlying5 b off bs.length cap bs rfl (fun i hi => ?_) 9 Try.underlying9
      have := h3 _ rfl i hi
      rw [Addr.add_lit] at this
      simpa [List.getD] using this

/-- Two rows of bytes are the same string just if they are the same. -/
theorem strOfNums_inj {xs ys : List Int} (ha : ∀ z ∈ xs, 0 ≤ z ∧ z ≤ 255) (hb : ∀ z ∈ ys, 0 ≤ z ∧ z ≤ 255) (h : strOfNums xs = strOfNums ys) : xs = ys := by
  have h1 : xs.map (fun n => UInt8.ofNat n.toNat) = ys.map (fun n => UInt8.ofNat n.toNat) := by
    have := congrArg (fun s : ByteArray => s.data.toList) h
    simpa [strOfNums] using this
  induction xs generalizing ys with
  | nil => cases ys with
    | nil => rfl
    | cons b ys => simp at h1
  | cons a xs ih => cases ys with
    | nil => simp at h1
    | cons b ys =>
      simp only [List.map_cons, List.cons.injEq] at h1
      have ha0 := ha a (by simp)
      have hb0 := hb b (by simp)
      have e : a = b := by
        have h2 := congrArg UInt8.toNat h1.1
        simp at h2
        omega
      subst e
      have := ih (fun z hz => ha z (by simp [hz])) (fun z hz => hb z (by simp [hz])) (by simp [strOfNums, h1.2]) h1.2
      rw [this]

end Go.Proofs.Ytbhjdcoehgajcaa
