/-
  What the document's cut wants. A lemma file: no statement of the seat is proved here.
-/
import Derived.Test.YtokodmeabchmjaaLRef3
import Derived.Deep.RegionHeldLaw
import Derived.Deep.RegionHeld
import Derived.Deep.Slices
namespace Go.Proofs.Ytokodmeabchmjaa
open Go.RowKit Go.Maps Go.Sort

theorem RowV.form {w : World} {t : TypeId} {v : Value} {xs : List Value} (h : RowV w t v xs) : ∃ a c, v = .slice a xs.length c := by
  rcases h.2 with ⟨e, h0⟩ | ⟨g, c, cur, e, _⟩
  · exact ⟨none, 0, by rw [e, h0]⟩
  · exact ⟨_, c, e⟩
theorem IsV.kept {w w' : World} {fp : List Nat} {v : Value} {xs : List Value} (h : IsV w v xs) (hk : Kept fp w w') (hf : ∀ x ∈ own v, x ∉ fp) : IsV w' v xs := by
  obtain ⟨a, c, rfl, h1, h2, h3⟩ := h
  refine ⟨a, c, rfl, h1, fun x hx j u hu => hk.cell (h2 x hx j u hu) ?_, h3⟩
  have e : (x.add j).block = x.block := by unfold Addr.add; split <;> rfl
  rw [e]
  exact hf x.block (by rw [hx]; simp [own, Value.ownBlock])

/-- Up to here only new blocks were written. -/
theorem kept_new {w W0 w3 : World} {v v3 : Value} (q : Kept [] w W0) (hn : Newly w [] (own v)) (k : Kept (own v) W0 w3) (n : Newly W0 (own v) (own v3)) : Kept [] w w3 ∧ Newly w [] (own v3) :=
  ⟨q.trans k hn, fun x hx => by
    rcases n x hx with h | h
    · exact hn x h
    · exact .inr (Nat.le_trans q.size h)⟩

theorem slice_fromS (g L cap a : Nat) (ha : a ≤ L) (W : World) :
    (Instr.slice 35 (.slice (some ⟨g, 0, none⟩) L cap) (some (.int .i64 (a : Int))) none none).run Try.prog W = .ok (.slice (if cap = a then some ⟨g, 0, none⟩ else some ((⟨g, 0, none⟩ : Addr).add (a * 1))) (L - a) (cap - a)) W := by
  obtain ⟨i0, hi, hz0, hz1, hz2⟩ := info_parts Try.infoStr
  simp [Instr.slice, Instr.sliceBounds, Instr.sliceBound, asIntOf, run_underlying Try.underlying35, sizeOf, typeInfo, hi, hz1, ha]
theorem slice_fromI (g L cap a : Nat) (ha : a ≤ L) (W : World) :
    (Instr.slice 37 (.slice (some ⟨g, 0, none⟩) L cap) (some (.int .i64 (a : Int))) none none).run Try.prog W = .ok (.slice (if cap = a then some ⟨g, 0, none⟩ else some ((⟨g, 0, none⟩ : Addr).add (a * 1))) (L - a) (cap - a)) W := by
  obtain ⟨i0, hi, hz0, hz1, hz2⟩ := info_parts Try.infoInt
  simp [Instr.slice, Instr.sliceBounds, Instr.sliceBound, asIntOf, run_underlying Try.underlying37, sizeOf, typeInfo, hi, hz1, ha]

end Go.Proofs.Ytokodmeabchmjaa
