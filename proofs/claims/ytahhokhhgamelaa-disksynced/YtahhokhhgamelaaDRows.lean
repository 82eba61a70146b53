/-
  Rows of slices of bytes that came in. A lemma file: no statement of the seat is proved here.
-/
import Derived.Deep.Slices
import Derived.ProofKit
import Derived.OpenShut
import Derived.Test.YtahhokhhgamelaaDTexts
namespace Go.Proofs.Ytahhokhhgamelaa
open Go.RowKit Go.Maps Go.Sort Go.Shelf Go.ChangeShapes Go.WideShapes Go.ChangeAt

/-- The slice v holds slices of these bytes. -/
def IsBB (w : World) (v : Value) (bss : List (List Int)) : Prop :=
  ∃ (a : Option Addr) (cap : Nat), v = .slice a bss.length cap ∧ bss.length ≤ cap ∧ (a = none → bss = [] ∧ cap = 0) ∧
    ∀ x, a = some x → ∀ j, j < bss.length → ∃ u, w.cell? (x.add j) = some u ∧ IsB w u (bss[j]?.getD [])

theorem IsBB.nil (w : World) : IsBB w (.slice none 0 0) [] := ⟨none, 0, rfl, Nat.le_refl _, fun _ => ⟨rfl, rfl⟩, by simp⟩

theorem IsBB.below {w w' : World} {v : Value} {bss : List (List Int)} (h : IsBB w v bss) (hb : Below w.heap.size w w') : IsBB w' v bss := by
  obtain ⟨a, cap, rfl, h1, h2, h3⟩ := h
  refine ⟨a, cap, rfl, h1, h2, fun x hx j hj => ?_⟩
  obtain ⟨u, hu, hi⟩ := h3 x hx j hj
  exact ⟨u, (World.cell?_of_block (w := w) (hb.block _ (World.block_lt_of_cell? w _ hu))).trans hu, hi.below hb⟩

theorem open_byterows {H : Type} {enc : TypeId × Value → H} {W : World} {held : Bool} {fuel : Nat} {cs : List Value} {x : DataW H × List MemPlace} (h : DataW.trod enc Try.prog W 0 (fun _ => true) held fuel 55 cs = some x) :
    (cs = [.slice none 0 0]) ∨ ∃ (a : Addr) (len cap : Nat) (bss : List (List Int)), cs = [.slice (some a) len cap] ∧ bss.length = len ∧ len ≤ cap ∧ cap ≤ maxLen ∧ IsBB W (.slice (some a) len cap) bss := by
  rcases Go.Deep.open_slice1 Try.underlying55 (by kernel_rfl) h with ⟨h0, _⟩ | ⟨a, len, cap, m, n, V, D, Pl, rfl, hb, hl, hm, hmm, rfl, hx⟩
  · exact .inl h0
  · right
    simp only [if_true] at hmm
    subst hmm
    have key : ∀ i, i < len → ∃ b, IsB W (V i) b := fun i hi => by
      rcases open_ints Try.underlying28 Try.underlying5 (by kernel_rfl) (hx i (by omega)).2 with ⟨hcs, _⟩ | ⟨y, l, c, zs, hcs, _, hl2, hm2, hz, _, hcell, hwz⟩
      · simp only [List.cons.injEq, and_true] at hcs
        rw [hcs]
        exact ⟨[], IsB.nil W⟩
      · simp only [List.cons.injEq, and_true] at hcs
        rw [hcs]
        simp only [if_true] at hz
        have e : (zs.take l).length = l := by simp; omega
        refine ⟨zs.take l, some y, c, by rw [e], by rw [e]; exact hl2, by simp, fun q hq j hj => ?_, fun z hz => bounds_u8 (hwz z (List.mem_of_mem_take hz))⟩
        simp only [Option.some.injEq] at hq
        subst hq
        rw [e] at hj
        rw [hcell j (by omega), List.getElem?_take_of_lt hj]
        rfl
    obtain ⟨f, hf⟩ : ∃ f : Nat → List Int, ∀ i, i < len → IsB W (V i) (f i) := ⟨fun i => if hi : i < len then Classical.choose (key i hi) else [], fun i hi => by simp only [hi, dif_pos]; exact Classical.choose_spec (key i hi)⟩
    refine ⟨a, len, m, (List.range len).map f, rfl, by simp, hl, hm, some a, m, by simp, by simp; exact hl, by simp, fun q hq j hj => ?_⟩
    simp only [Option.some.injEq] at hq
    subst hq
    simp at hj
    refine ⟨V j, (hx j (by omega)).1, ?_⟩
    simp [hj]
    exact hf j hj

end Go.Proofs.Ytahhokhhgamelaa
