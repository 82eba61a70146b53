/-
  Appending, as steps of statements whose order is open. A lemma file: no statement of the seat is proved here.
-/
import Derived.Deep.RegionHeld
import Derived.Deep.RegionHeldLaw
import Derived.Test.YtjnmggbkclnbkaaBSame
namespace Go.Proofs.Ytjnmggbkclnbkaa
open Go.RowKit Go.Maps

theorem undrew_below {w w' : World} (b : Below w.drew.heap.size w.drew w') : Below w.heap.size w w' := ⟨b.os, b.tape, b.output, b.size, b.block⟩

section
variable {ops : Array Oper} {o : Oper} {a : Act} {K : Act → World → Prop} {Q : Exit → Act → World → Prop} {E : Prop}

/-- 'append([]byte{}, b...)': the new row has just been made. -/
theorem step_copyB (w : World) (hgd : o.guard = none) (s x : Operand) (ho : o.op = .call { callee := .builtin .append, args := #[s, x], argTypes := #[25, 25] })
    (cs : List Int) (v : Value) (hs : a.eval s = .slice (some ⟨w.heap.size, 0, none⟩) 0 0) (hx : a.eval x = v) (hv : IsB w v cs) (hlen : cs.length ≤ 1099511627776)
    (h : ∀ g' cap' w', OwnB w.heap.size w' g' cap' cs → Below w.heap.size w w' → K (a.put o.dst (.slice (some ⟨g', 0, none⟩) cs.length cap')) w') :
    if Region.wanted o (yielded ops a.tmps) = true then Oper.wp Try.prog o a (w.alloc (.cells #[] 5)) K Q else E := by
  have hw : Region.wanted o (yielded ops a.tmps) = true := by simp [Region.wanted, hgd]
  rw [if_pos hw]
  obtain ⟨i0, hi, hz0, hz1, hz2⟩ := info_parts Try.infoU8
  have hown := OwnB.empty w w.heap.size (Nat.le_refl _)
  have hv' := hv.below ((Below.refl _ w).alloc (Nat.le_refl _) (.cells #[] 5))
  obtain ⟨ad, c, rfl, h1, h2, h3, h4⟩ := hv'
  cases ad with
  | none =>
    obtain ⟨rfl, rfl⟩ := h2 rfl
    unfold Oper.wp
    simp only [List.length_nil] at hx
    simp [execOp, ho, resolve, invoke, builtin, hs, hx, Result.andThen]
    have hk := h w.heap.size 0 _ hown ((Below.refl _ w).alloc (Nat.le_refl _) _)
    exact hk
  | some ad =>
    refine wp_append_own _ s x 25 ho w.heap.size 5 i0 (.int .u8 0) 1 1 Try.underlying25 hi hz0 hz1 hz2 rfl (by decide) _ 0 _ hs hown.1 ad cs.length c (cs.map (Value.int .u8)) hx (by simp) (cells_news (h3 ad rfl)) (ints_oneCell _ _) (by unfold maxLen; omega) (by omega) (by simp) ?_
    intro v' w' hown' hgrow hnil
    have hsh : ∃ g' cap', v' = .slice (some ⟨g', 0, none⟩) cs.length cap' := by
      rcases hown'.2 with ⟨h0, _⟩ | ⟨g', cap', _, rfl, _⟩
      · simp [h0] at hnil
      · exact ⟨g', cap', by simp⟩
    obtain ⟨g', cap', rfl⟩ := hsh
    refine h g' cap' w' ⟨?_, h4⟩ ?_
    · simpa using hown'
    · exact ((Below.refl _ w).alloc (Nat.le_refl _) _).grown hgrow (by simp) (by intro k hk; simp [Value.ownBlock] at hk; omega)

/-- 'append(row, text)': the text's slice has just been laid in a new block. -/
theorem step_pushT (w : World) (hgd : o.guard = none) (s x : Operand) (ho : o.op = .call { callee := .builtin .append, args := #[s, x], argTypes := #[22, 22] })
    (v u : Value) (bss : List (List Int)) (bs : List Int) (hs : a.eval s = v) (hrow : RowT w v bss) (hx : a.eval x = .slice (some ⟨w.heap.size, 0, none⟩) 1 1) (hu : IsB w u bs) (hd : bs ≠ [] → ∀ x ∈ own u, x ∉ own v) (hlen : bss.length + 1 ≤ 1099511627776)
    (h : ∀ v' w', RowT w' v' (bss ++ [bs]) → Kept (own v) w w' → Newly w (own v) (own v') → K (a.put o.dst v') w') :
    if Region.wanted o (yielded ops a.tmps) = true then Oper.wp Try.prog o a (w.alloc (.cells #[u] 25)) K Q else E := by
  have hw : Region.wanted o (yielded ops a.tmps) = true := by simp [Region.wanted, hgd]
  rw [if_pos hw]
  obtain ⟨v', w', hr, h2, h3, h4⟩ := hrow.push hu hd hlen o.type
  unfold Oper.wp execOp
  simp only [ho, resolve, invoke, builtin, Sem.run_bind, Sem.run_pure, Result.andThen_ok, List.map_toArray, List.map_cons, List.map_nil, hs, hx, hr]
  exact h v' w' h2 h3 h4
end

/-- min, of a length and a number. -/
theorem min_len (n k : Nat) (K : Int) (hK : K = (k : Int)) : ∀ (ts : Array TypeId) (t : TypeId) (w : World), (Builtin.min_ ts t #[.int .i64 (n : Int), .int .i64 K]).run Try.prog w = .ok (.int .i64 ((min n k : Nat) : Int)) w := fun ts t w => by
  rw [run_min_int2, hK]
  congr 2
  split <;> omega

end Go.Proofs.Ytjnmggbkclnbkaa
