/-
  Rows of steps that came in. A lemma file: no statement of the seat is proved here.
-/
import Derived.Deep.SlicePairs
import Derived.ProofKit
import Derived.OpenShut
import Derived.Test.YtokodmeabchmjaaLRef4
namespace Go.Proofs.Ytokodmeabchmjaa
open Go.RowKit Go.Maps Go.Sort Go.ChangeShapes Go.WideShapes Go.ChangeAt

/-- The slice v holds these steps: what is done, and with which key. -/
def IsP (w : World) (v : Value) (ps : List (Int × ByteArray)) : Prop :=
  ∃ (a : Option Addr) (cap : Nat), v = .slice a ps.length cap ∧ (a = none → ps = []) ∧
    (∀ x, a = some x → ∀ j (h : j < ps.length), w.cell? (x.add (j * 2)) = some (.int .i64 ps[j].1) ∧ w.cell? (x.add (j * 2 + 1)) = some (.string ps[j].2)) ∧
    ∀ p ∈ ps, (Lit.int .i64 p.1).wf = true ∧ p.2.size ≤ maxLen

theorem IsP.below {w w' : World} {v : Value} {ps : List (Int × ByteArray)} (h : IsP w v ps) (hb : Below w.heap.size w w') : IsP w' v ps := by
  obtain ⟨a, cap, rfl, h1, h2, h3⟩ := h
  refine ⟨a, cap, rfl, h1, fun x hx j hj => ?_, h3⟩
  obtain ⟨u1, u2⟩ := h2 x hx j hj
  exact ⟨(World.cell?_of_block (w := w) (hb.block _ (World.block_lt_of_cell? w _ u1))).trans u1, (World.cell?_of_block (w := w) (hb.block _ (World.block_lt_of_cell? w _ u2))).trans u2⟩

theorem stepsIn {H : Type} {enc : TypeId × Value → H} {W : World} {base : Nat} {spare : Nat → Bool} {held : Bool} {fuel : Nat} {cs : List Value} {x : DataW H × List MemPlace}
    (h : DataW.trod enc Try.prog W base spare held fuel 22 cs = some x) : ∃ a len cap ps, cs = [.slice a len cap] ∧ IsP W (.slice a len cap) ps ∧ ps.length = len ∧ len ≤ maxLen := by
  rcases Go.Deep.open_slice_pairs Try.underlying22 Try.underlying29 (by kernel_rfl) rfl rfl (by kernel_rfl) (by kernel_rfl) h with ⟨rfl, _⟩ | ⟨a, len, cap, m, n, V0, V1, D0, D1, P0, P1, rfl, hb, hl, hm, hmm, _, hx⟩
  · exact ⟨none, 0, 0, [], rfl, ⟨none, 0, rfl, fun _ => rfl, by simp, by simp⟩, rfl, by unfold maxLen; omega⟩
  · have hlm : len ≤ m := by rw [hmm]; split <;> omega
    obtain ⟨E, hE⟩ := Go.Deep.choose_lt (α := Int × ByteArray) (n := len) (p := fun i e => W.cell? (a.add (i * 2)) = some (.int .i64 e.1) ∧ W.cell? (a.add (i * 2 + 1)) = some (.string e.2) ∧ (Lit.int .i64 e.1).wf = true ∧ e.2.size ≤ maxLen) (fun i hi => by
      obtain ⟨h1, h2, h3, h4⟩ := hx i (by omega)
      obtain ⟨z, e0, _, wz⟩ := DataW.trod_int Try.underlying3 h3
      obtain ⟨s, e1, _, ws⟩ := DataW.trod_string Try.underlying9 h4
      simp only [List.cons.injEq, and_true] at e0 e1
      rw [e0] at h1
      rw [e1] at h2
      exact ⟨(z, s), h1, h2, wz, ws⟩)
    have hlen : ((List.range len).map E).length = len := by simp
    refine ⟨some a, len, cap, (List.range len).map E, rfl, ⟨some a, cap, by rw [hlen], by simp, fun x hx j hj => ?_, fun e he => ?_⟩, hlen, by omega⟩
    · simp only [Option.some.injEq] at hx
      subst hx
      simp at hj
      simp only [List.getElem_map, List.getElem_range]
      exact ⟨(hE j hj).1, (hE j hj).2.1⟩
    · simp only [List.mem_map, List.mem_range] at he
      obtain ⟨i, hi, rfl⟩ := he
      exact (hE i hi).2.2

theorem delA_at {l : List (ByteArray × Nat)} (hn : (l.map Prod.fst).Nodup) {k : Nat} (hk : k < l.length) : delA l l[k].1 = l.eraseIdx k := by
  obtain ⟨ds, x, rs, e, hd⟩ : ∃ ds x rs, l = ds ++ x :: rs ∧ ds.length = k := ⟨l.take k, l[k], l.drop (k + 1), by simp, by simp; omega⟩
  subst e
  have e1 : (ds ++ x :: rs)[k] = x := by subst hd; simp
  rw [e1]
  have hd2 : ∀ m : List (ByteArray × Nat), (∀ y ∈ m, y.1 ≠ x.1) → m.filter (fun y => !decide (y.1 = x.1)) = m := fun m hm => List.filter_eq_self.2 fun y hy => by simpa using hm y hy
  rw [List.map_append, List.map_cons, List.nodup_append, List.nodup_cons] at hn
  unfold delA
  rw [List.filter_append, List.filter_cons, hd2 ds (fun y hy e => hn.2.2 _ (List.mem_map.2 ⟨y, hy, rfl⟩) _ (List.mem_cons_self ..) e), hd2 rs (fun y hy e => hn.2.1.1 (List.mem_map.2 ⟨y, hy, e⟩))]
  subst hd
  simp [List.eraseIdx_append_of_length_le]

/-- The document's cache, by its blocks. -/
def RefK (w : World) (fp : List Nat) (r : Nat) (fr : Int) (l : List (ByteArray × Nat)) : Prop := ∃ lv pv, RefL w r lv pv fr l ∧ fp = lfeet r lv pv
def RefO (w w' : World) (fp : List Nat) (r : Nat) (fr : Int) (l : List (ByteArray × Nat)) : Prop := ∃ fp', RefK w' fp' r fr l ∧ Kept fp w w' ∧ Newly w fp fp'

section
variable {w w' : World} {fp : List Nat} {r : Nat} {lv pv : Value} {fr : Int} {l : List (ByteArray × Nat)}

theorem RefK.kept {fp2 : List Nat} (h : RefK w fp r fr l) (hk : Kept fp2 w w') (hf : ∀ x ∈ fp, x ∉ fp2) : RefK w' fp r fr l := by
  obtain ⟨lv, pv, h1, rfl⟩ := h
  exact ⟨lv, pv, h1.kept hk hf, rfl⟩
theorem RefK.lt (h : RefK w fp r fr l) : ∀ x ∈ fp, x < w.heap.size := by
  obtain ⟨lv, pv, h1, rfl⟩ := h
  exact h1.low

end

end Go.Proofs.Ytokodmeabchmjaa
