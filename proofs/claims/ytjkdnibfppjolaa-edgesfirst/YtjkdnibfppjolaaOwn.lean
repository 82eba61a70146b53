/-
  Rows of bytes of the call's own: made, stored into, appended to. A lemma file: no statement of the seat is proved here.
-/
import Derived.Deep.RegionHeldLaw
import Derived.Deep.RegionLaw
import Derived.Test.YtjkdnibfppjolaaGet
import Derived.Test.YtjkdnibfppjolaaRight
namespace Go.Proofs.Ytjkdnibfppjolaa
open Go.RowKit

/-- A new block of bytes. -/
theorem IsB.new (w : World) (bs : List Int) (m : Nat × Nat) (h : ∀ z ∈ bs, 0 ≤ z ∧ z ≤ 255) : IsB (w.alloc (.cells (bs.map (Value.int .u8)).toArray 5 m)) (.slice (some ⟨w.heap.size, 0, none⟩) bs.length bs.length) bs := by
  refine ⟨_, _, rfl, Nat.le_refl _, by simp, fun x hx j hj => ?_, h⟩
  simp only [Option.some.injEq] at hx
  subst hx
  rw [Addr.add_lit]
  rw [World.cell?_alloc_mark]
  simp [hj]

/-- A new row of no bytes. -/
theorem OwnB.empty (w : World) (B : Nat) (hB : B ≤ w.heap.size) : OwnB B (w.alloc (.cells #[] 5)) w.heap.size 0 [] :=
  ⟨World.ownsRow_made w #[] 0 hB (by unfold maxLen; omega) rfl, by simp⟩

theorem OwnB.cellAt {B : Nat} {w : World} {g cap : Nat} {bs : List Int} (h : OwnB B w g cap bs) (j : Nat) (hj : j < bs.length) : w.cell? ⟨g, j, none⟩ = some (.int .u8 (bs[j]?.getD 0)) := by
  obtain ⟨a, c, he, _, _, h3, _⟩ := h.isB
  simp only [Value.slice.injEq] at he
  obtain ⟨rfl, _, rfl⟩ := he
  have := h3 _ rfl j hj
  rw [Addr.add_lit] at this
  simpa using this

theorem OwnB.frozenAt {B : Nat} {w : World} {g cap : Nat} {bs : List Int} (h : OwnB B w g cap bs) (j : Nat) : w.frozen? ⟨g, j, none⟩ = false := by
  obtain ⟨⟨h1, h2⟩, h3⟩ := h
  rcases h2 with ⟨h, _⟩ | ⟨g', cap', cur, he, hg, hh, _⟩
  · simp at h
  · have e : g' = g := by simp at he; omega
    subst e
    simp [World.frozen?, hh]

theorem OwnB.stored {B : Nat} {w : World} {g cap : Nat} {bs : List Int} (h : OwnB B w g cap bs) (j : Nat) (z : Int) (hz : 0 ≤ z ∧ z ≤ 255) : OwnB B (w.setCell ⟨g, j, none⟩ (.int .u8 z)) g cap (bs.set j z) := by
  refine ⟨?_, fun y hy => ?_⟩
  · have := (h.1.stored j (.int .u8 z)).1
    rw [← List.map_set] at this
    simpa using this
  · rcases List.mem_or_eq_of_mem_set hy with hy | rfl
    · exact h.2 y hy
    · exact hz

theorem i64_and65535 (n : Int) : bits .and .i64 n 65535 = n % 65536 := by
  have hm : (BitVec.ofInt 64 65535).toNat = 2 ^ 16 - 1 := by decide
  have key : (BitVec.ofInt 64 n &&& BitVec.ofInt 64 65535).toNat = (n % ((2 ^ 64 : Nat) : Int)).toNat % 2 ^ 16 := by
    rw [BitVec.toNat_and, BitVec.toNat_ofInt, hm, Nat.and_two_pow_sub_one_eq_mod]
  show IntKind.i64.wrap ((BitVec.ofInt 64 n &&& BitVec.ofInt 64 65535).toNat : Nat) = n % 65536
  rw [key, IntKind.wrap_i64]
  omega

theorem i64_small (x : Int) (h0 : -9223372036854775808 ≤ x) (h1 : x ≤ 9223372036854775807) : IntKind.i64.wrap x = x := by
  rw [IntKind.wrap_i64]
  omega

/-- Strings that are not the same, in the walk's own form. -/
theorem str_ne {a b : ByteArray} (h : ¬ a = b) : (a.toList == b.toList) = false := by
  rw [beq_eq_false_iff_ne]
  intro e
  rw [ByteArray.toList_eq, ByteArray.toList_eq] at e
  apply h
  cases a
  cases b
  simp at e
  rw [e]

theorem valB_append (m : Int) (xs : List Int) (t : Int) : valB m (xs ++ [t]) = valB m xs + m ^ xs.length * t := by
  induction xs with
  | nil => simp [valB]
  | cons x xs ih =>
    rw [List.cons_append, valB, ih, valB, List.length_cons, Int.mul_add, Int.pow_succ, ← Int.mul_assoc, Int.mul_comm m (m ^ xs.length)]
    omega

/-- The number of the bytes of a number. -/
theorem valB_putB (k : Nat) (n : Int) : valB 256 (putB k n) = n % 256 ^ k := by
  induction k generalizing n with
  | zero => simp [putB, valB]
  | succ k ih =>
    rw [putB, valB, ih, Int.pow_succ, Int.mul_comm (256 ^ k) 256]
    have h : (0 : Int) < 256 ^ k := Int.pow_pos (by omega)
    generalize (256 : Int) ^ k = M at h
    have e1 := Int.emod_add_mul_ediv (n / 256) M
    have e2 := Int.emod_add_mul_ediv n 256
    have h1 := Int.emod_nonneg (n / 256) (by omega : M ≠ 0)
    have h2 := Int.emod_lt_of_pos (n / 256) h
    have e3 : n = (n % 256 + 256 * (n / 256 % M)) + 256 * M * (n / 256 / M) := by
      rw [Int.mul_assoc]
      generalize M * (n / 256 / M) = X at e1 ⊢
      omega
    have e4 : (n % 256 + 256 * (n / 256 % M)) % (256 * M) = n % 256 + 256 * (n / 256 % M) := Int.emod_eq_of_lt (by omega) (by
      have : 256 * (n / 256 % M + 1) ≤ 256 * M := Int.mul_le_mul_of_nonneg_left (by omega) (by omega)
      omega)
    conv => rhs; rw [e3, Int.add_mul_emod_self_left, e4]

/-- 'append(row, b...)' as a step of a region that draws its order: row of the call's own, b whatever. -/
theorem step_appendB {ops : Array Oper} {o : Oper} {a : Act} {K : Act → World → Prop} {Q : Exit → Act → World → Prop} {E : Prop} (w : World) (hgd : o.guard = none) (s x : Operand)
    (ho : o.op = .call { callee := .builtin .append, args := #[s, x], argTypes := #[27, 27] })
    (B g cap : Nat) (bs cs : List Int) (v : Value) (hs : a.eval s = .slice (some ⟨g, 0, none⟩) bs.length cap) (hown : OwnB B w g cap bs) (hx : a.eval x = v) (hv : IsB w v cs)
    (hlen : bs.length + cs.length ≤ 140737488355328) (hB : B ≤ w.heap.size)
    (h : ∀ g' cap' w', OwnB B w' g' cap' (bs ++ cs) → Below B w w' → K (a.put o.dst (.slice (some ⟨g', 0, none⟩) (bs.length + cs.length) cap')) w') :
    if Region.wanted o (yielded ops a.tmps) = true then Oper.wp Try.prog o a w K Q else E := by
  have hw : Region.wanted o (yielded ops a.tmps) = true := by simp [Region.wanted, hgd]
  rw [if_pos hw]
  obtain ⟨i0, hi, hz0, hz1, hz2⟩ := info_parts Try.infoU8
  have hb := hown.base
  obtain ⟨ad, c, rfl, h1, h2, h3, h4⟩ := hv
  cases ad with
  | none =>
    obtain ⟨rfl, rfl⟩ := h2 rfl
    have hrun := run_append_owned_none (P := Try.prog) (w := w) B 27 o.type 5 i0 1 Try.underlying27 hi _ _ _ hown.1
    unfold Oper.wp
    simp only [List.length_nil] at hx
    simp [execOp, ho, resolve, invoke, builtin, hs, hx, hrun, Result.andThen]
    have hk := h g cap w (by simpa using hown) (Below.refl _ _)
    simp only [List.length_nil, Nat.add_zero] at hk
    exact hk
  | some ad =>
    refine wp_append_own w s x 27 ho B 5 i0 (.int .u8 0) 1 1 Try.underlying27 hi hz0 hz1 hz2 rfl (by decide) _ bs.length _ hs hown.1 ad cs.length c (cs.map (Value.int .u8)) hx (by simp) (cells_news (h3 ad rfl)) (ints_oneCell _ _) (by unfold maxLen; omega) (by omega) (by omega) ?_
    intro v' w' hown' hgrow hnil
    have hsh : ∃ g' cap', v' = .slice (some ⟨g', 0, none⟩) (bs.length + cs.length) cap' := by
      rcases hown'.2 with ⟨h0, _⟩ | ⟨g', cap', _, rfl, _⟩
      · simp [h0] at hnil
      · exact ⟨g', cap', rfl⟩
    obtain ⟨g', cap', rfl⟩ := hsh
    refine h g' cap' w' ⟨?_, ?_⟩ ?_
    · simpa using hown'
    · intro y hy
      rcases List.mem_append.1 hy with hy | hy
      · exact hown.2 y hy
      · exact h4 y hy
    · exact (Below.refl _ _).grown hgrow (by omega) (by intro k hk; simp [Value.ownBlock] at hk; omega)

/-- 'append(row, b...)' as a step of a region that draws its order: row of the call's own, b whatever; other blocks stay. -/
theorem step_appendO {ops : Array Oper} {o : Oper} {a : Act} {K : Act → World → Prop} {Q : Exit → Act → World → Prop} {E : Prop} (w : World) (hgd : o.guard = none) (s x : Operand)
    (ho : o.op = .call { callee := .builtin .append, args := #[s, x], argTypes := #[27, 27] })
    (B g cap : Nat) (bs cs : List Int) (v : Value) (hs : a.eval s = .slice (some ⟨g, 0, none⟩) bs.length cap) (hown : OwnB B w g cap bs) (hx : a.eval x = v) (hv : IsB w v cs)
    (hlen : bs.length + cs.length ≤ 140737488355328) (hB : B ≤ w.heap.size)
    (h : ∀ g' cap' w', OwnB B w' g' cap' (bs ++ cs) → Below B w w' → (∀ k, k < w.heap.size → k ≠ g → w'.heap[k]? = w.heap[k]?) → K (a.put o.dst (.slice (some ⟨g', 0, none⟩) (bs.length + cs.length) cap')) w') :
    if Region.wanted o (yielded ops a.tmps) = true then Oper.wp Try.prog o a w K Q else E := by
  have hw : Region.wanted o (yielded ops a.tmps) = true := by simp [Region.wanted, hgd]
  rw [if_pos hw]
  obtain ⟨i0, hi, hz0, hz1, hz2⟩ := info_parts Try.infoU8
  have hb := hown.base
  obtain ⟨ad, c, rfl, h1, h2, h3, h4⟩ := hv
  cases ad with
  | none =>
    obtain ⟨rfl, rfl⟩ := h2 rfl
    have hrun := run_append_owned_none (P := Try.prog) (w := w) B 27 o.type 5 i0 1 Try.underlying27 hi _ _ _ hown.1
    unfold Oper.wp
    simp only [List.length_nil] at hx
    simp [execOp, ho, resolve, invoke, builtin, hs, hx, hrun, Result.andThen]
    have hk := h g cap w (by simpa using hown) (Below.refl _ _) (fun _ _ _ => rfl)
    simp only [List.length_nil, Nat.add_zero] at hk
    exact hk
  | some ad =>
    refine wp_append_own w s x 27 ho B 5 i0 (.int .u8 0) 1 1 Try.underlying27 hi hz0 hz1 hz2 rfl (by decide) _ bs.length _ hs hown.1 ad cs.length c (cs.map (Value.int .u8)) hx (by simp) (cells_news (h3 ad rfl)) (ints_oneCell _ _) (by unfold maxLen; omega) (by omega) (by omega) ?_
    intro v' w' hown' hgrow hnil
    have hsh : ∃ g' cap', v' = .slice (some ⟨g', 0, none⟩) (bs.length + cs.length) cap' := by
      rcases hown'.2 with ⟨h0, _⟩ | ⟨g', cap', _, rfl, _⟩
      · simp [h0] at hnil
      · exact ⟨g', cap', rfl⟩
    obtain ⟨g', cap', rfl⟩ := hsh
    refine h g' cap' w' ⟨?_, ?_⟩ ?_ ?_
    · simpa using hown'
    · intro y hy
      rcases List.mem_append.1 hy with hy | hy
      · exact hown.2 y hy
      · exact h4 y hy
    · exact (Below.refl _ _).grown hgrow (by omega) (by intro k hk; simp [Value.ownBlock] at hk; omega)
    · exact fun k hk hne => hgrow.block k hk (by simp [Value.ownBlock]; exact hne)

end Go.Proofs.Ytjkdnibfppjolaa
