/-
  slices.AppendSeq, slices.Collect of numbers, against whatever iterator. A lemma file: no statement of the seat is proved here.
-/
import Derived.Test.YtokodmeabchmjaaLIterI
import Derived.Test.YtokodmeabchmjaaLIterS
namespace Go.Proofs.Ytokodmeabchmjaa
open Go.RowKit Go.Shelf Go.Maps

attribute [local go_sem] Oper.semAt_some

theorem Try.infoU64 : (Try.prog.info? 56).map (fun i => (i.zero, i.size, i.bytes)) = some (some (.int .u64 0), 1, 8) := by kernel_rfl

abbrev encU (x : Nat) : Value := .int .u64 x

/-- Between two rounds: the box, and what is in it. -/
structure ApI (w : World) (pre : List Nat) (W : World) : Prop where
  box : ∃ v, W.heap[w.heap.size]? = some (.cells #[v] 70 (0, 0)) ∧ W.ownsRow w.heap.size 56 1 v pre.length (pre.map encU) ∧ v.ownBlock ≠ some w.heap.size
  below : Below w.heap.size w W

theorem ownsRow_cells {W : World} {base : Nat} {e : TypeId} {size n : Nat} {v : Value} {xs : List Value} (h : W.ownsRow base e size v n xs) {j : Nat} {o : Obj} (hj : v.ownBlock = some j) (ho : W.heap[j]? = some o) : o.isCells = true := by
  rcases h.2 with ⟨rfl, _⟩ | ⟨g, cap, cur, rfl, hb, hgg, _⟩
  · simp [Value.ownBlock] at hj
  · simp [Value.ownBlock] at hj
    subst hj
    rw [hgg] at ho
    cases ho
    rfl

theorem ownsRow_form {W : World} {base : Nat} {e : TypeId} {n : Nat} {v : Value} {xs : List Value} (h : W.ownsRow base e 1 v n xs) (hn : 0 < n) : ∃ g cap cur, v = .slice (some ⟨g, 0, none⟩) n cap ∧ W.heap[g]? = some (.cells cur e (0, 0)) := by
  rcases h.2 with ⟨_, h0⟩ | ⟨g, cap, cur, rfl, hb, hgg, _⟩
  · omega
  · exact ⟨g, cap, cur, rfl, hgg⟩

theorem ApI.own (w : World) (B : Nat) (hB : w.heap.size ≤ B) : OwnFrom B (ApI w) := fun pre W W' row h hg hr => by
  obtain ⟨v, h1, h2, h3⟩ := h.box
  have hne : ∀ {j : Nat} {o : Obj}, W.heap[j]? = some o → o.isCells = true → some j ≠ row := fun hj hc e => by
    obtain ⟨_, o, ho, hf⟩ := hr _ e.symm
    rw [hj] at ho
    cases ho
    rw [hc] at hf
    cases hf
  refine ⟨⟨v, (hg.block _ (Array.getElem?_eq_some_iff.1 h1).1 (hne h1 rfl)).trans h1, h2.kept hg ?_, h3⟩, h.below.grown hg h.below.size (fun k e => Nat.le_trans hB (hr k e).1)⟩
  rcases h2.2 with ⟨rfl, _⟩ | ⟨g, cap, cur, rfl, hb, hgg, _⟩
  · exact .inl rfl
  · exact .inr (by simpa [Value.ownBlock] using hne hgg rfl)

set_option maxRecDepth 100000 in
set_option maxHeartbeats 2000000 in
theorem appendSeq_in (n : Nat) (hn : 2 ≤ n) (g : Nat) (lb : Array Value) (eg : ∀ args w, (callFunc g args).run Try.prog w = .ok (.enter g args) w)
    (S : List Nat → Prop) (N : Nat) (hN : N ≤ 1000000) (w : World) (hseq : SeqStopsK Fence.wide (n - 1) Try.prog g lb (fun x : Nat => #[Value.int .u64 x]) KeepsWalks S (fun _ => True) N w) :
    CallsIn Fence.wide n Try.prog 62 #[.slice none 0 0, .func (.func g) #[] lb] w fun e w' => ∃ v ss, e = .returned v ∧ S ss ∧ w'.ownsRow w.heap.size 56 1 v ss.length (ss.map encU) ∧ Below w.heap.size w w' := by
  obtain ⟨i0, hi, hz0, hz1, hz2⟩ := info_parts Try.infoU64
  have hro : Fence.wide.round = none := rfl
  have hn1 : 1 ≤ n := by omega
  refine callsIn_of_wp_marks Try.func62 rfl trivial ?_ hro
  simp only [Try.ntmps62, List.size_toArray, List.length_cons, List.length_nil, Nat.reduceAdd, Nat.reduceSub, Array.replicate_succ, Array.replicate_zero, List.push_toArray, List.append_toArray, List.nil_append, List.cons_append]
  gi_wp2
  have b0 : Below w.heap.size w (w.alloc (.cells #[.slice none 0 0] 70)) := (Below.refl _ w).alloc (Nat.le_refl _) _
  refine wpIn_rangeFunc_ownG hro hn1 (gf := g) (lb := lb) rfl trivial eg hseq (fun h k => h.trans k) (fun W l o o' _ h _ hk => KeepsWalks.putObj _ h hk) b0 (fun _ => rfl)
    (ApI w) (fun _ _ _ => False) (ApI.own w _ (by simp)) (fun _ _ _ _ _ hs _ _ => hs)
    ⟨⟨.slice none 0 0, heap_alloc_new w _, World.ownsRow_nil _ _ _ _, by simp [Value.ownBlock]⟩, b0⟩
    ?a1 ?assign ?body ?done ?stop
  case assign =>
    intro l x W K hK
    gi_wp2
    exact hK
  case body =>
    intro l pre x W hI hlen
    obtain ⟨v, h1, h2, h3⟩ := hI.box
    have hb := hI.below
    have hc := cell_of_heap h1 0
    simp at hc
    have hf := frozen_of_heap h1 0
    have hW := hb.size
    have hlt := (Array.getElem?_eq_some_iff.1 h1).1
    have q1 : pre.length + 1 ≤ maxLen := by unfold maxLen; omega
    have q2 : (pre.length + 1) * 8 ≤ 140737488355328 := by omega
    have q3 : w.heap.size ≤ (W.alloc (.cells #[.int .u64 x] 56)).heap.size := by simp; omega
    have q4 : ∀ u ∈ [Value.int .u64 x], u.oneCell' = true := by simp [Value.oneCell']
    have hr := h2.alloc (.cells #[.int .u64 x] 56)
    have h1a : (W.alloc (.cells #[.int .u64 x] 56)).heap[w.heap.size]? = some (.cells #[v] 70 (0, 0)) := (Below.heap_alloc _ _ _ hlt).trans h1
    gi_wp2_with (gi_at_builtin; refine wpListIn_append_own _ rfl _ _ 70 rfl w.heap.size 56 i0 (.int .u64 0) 1 8 Try.underlying70 hi hz0 hz1 hz2 rfl (Nat.lt_succ_self 0) v pre.length _ rfl hr ⟨W.heap.size, 0, none⟩ 1 1 [.int .u64 x] rfl rfl (cell_one_new _ _ _) q4 q1 q2 q3 ?_; intro v' w3 hown' hg3 hnil3; have h13 : w3.heap[w.heap.size]? = some (.cells #[v] 70 (0, 0)) := (hg3.block _ (Array.getElem?_eq_some_iff.1 h1a).1 (Ne.symm h3)).trans h1a; have hc3 := cell_of_heap h13 0; have hf3 := frozen_of_heap h13 0; simp at hc3; obtain ⟨g', cap', cur', hv', hgb⟩ := ownsRow_form hown' (Nat.succ_pos _); subst hv'; go_frame)
    have ho : KeepsOthers W (w3.setCell ⟨w.heap.size, 0, none⟩ (.slice (some ⟨g', 0, none⟩) (pre.length + 1) cap')) := ((KeepsOthers.alloc W _).trans (KeepsOthers.of_grownBy hg3 (fun j o hj ho => ownsRow_cells hr hj ho))).trans (KeepsOthers.setCell _ _ _)
    have hgne : g' ≠ w.heap.size := fun e => by
      rw [e, h13] at hgb
      simp at hgb
    have hk3 : Kept [w.heap.size] w3 (w3.setCell ⟨w.heap.size, 0, none⟩ (.slice (some ⟨g', 0, none⟩) (pre.length + 1) cap')) := (Kept.refl _ w3).setCell (p := ⟨w.heap.size, 0, none⟩) (.inl (by simp)) _
    refine ⟨ho.from _, ho.walks, ⟨⟨_, by simpa using heap_setCell h13 0 (.slice (some ⟨g', 0, none⟩) (pre.length + 1) cap'), ?_, by simpa [Value.ownBlock] using hgne⟩, ?_⟩⟩
    · have := ownsRow_kept hown' hk3 (by simpa [own, Value.ownBlock] using hgne)
      simpa using this
    · exact (((hb.alloc hb.size _).grown hg3 q3 (fun k e => (hr.lt k e).1))).setCell (p := ⟨w.heap.size, 0, none⟩) (Nat.le_refl _) _
  case done =>
    intro D ys W hD hS hI hK
    obtain ⟨v, h1, h2, h3⟩ := hI.box
    have hb := hI.below
    have hc := cell_of_heap h1 0
    simp at hc
    gi_wp2
    refine ⟨by simp, .inl ⟨_, _, rfl, run_takeDeferred hK, ?_⟩⟩
    refine ⟨_, results_tmp rfl _ _ _, v, ys, rfl, hS, h2.kept (grownBy_putObj' W D _) ?_, hb.grown (grownBy_putObj' W D _) hb.size (fun k e => by cases e; simp at hD; omega)⟩
    rcases h2.2 with ⟨rfl, _⟩ | ⟨g, cap, cur, rfl, _, hgg, _⟩
    · exact .inl rfl
    · refine .inr ?_
      simp only [Value.ownBlock]
      intro e
      cases e
      rw [hK] at hgg
      cases hgg
  case stop =>
    rintro D c pre W _ _ h _
    exact h.elim

set_option maxHeartbeats 1000000 in
theorem collect_in (n : Nat) (hn : 3 ≤ n) (g : Nat) (lb : Array Value) (eg : ∀ args w, (callFunc g args).run Try.prog w = .ok (.enter g args) w)
    (S : List Nat → Prop) (N : Nat) (hN : N ≤ 1000000) (w : World) (hseq : SeqStopsK Fence.wide (n - 1 - 1) Try.prog g lb (fun x : Nat => #[Value.int .u64 x]) KeepsWalks S (fun _ => True) N w) :
    CallsIn Fence.wide n Try.prog 56 #[.func (.func g) #[] lb] w fun e w' => ∃ v ss, e = .returned v ∧ S ss ∧ w'.ownsRow w.heap.size 56 1 v ss.length (ss.map encU) ∧ Below w.heap.size w w' := by
  have hro : Fence.wide.round = none := rfl
  have hn1 : 1 ≤ n := by omega
  have hfA : Fence.wide.fn 62 := trivial
  have HA := hide (appendSeq_in (n - 1) (by omega) g lb eg S N hN w hseq)
  clear hseq
  refine callsIn_of_wp Try.func56 rfl trivial ?_ hro
  simp only [Try.ntmps56, List.size_toArray, List.length_cons, List.length_nil, Nat.reduceAdd, Nat.reduceSub, Array.replicate_succ, Array.replicate_zero, List.push_toArray, List.append_toArray, List.nil_append, List.cons_append]
  gi_wp2_with (gi_at_call 62; refine HA.out.mono ?_; rintro e w' ⟨v, ss, rfl, hS, hrow, hb⟩)
  go_ret
  exact ⟨v, ss, rfl, hS, hrow, hb⟩

end Go.Proofs.Ytokodmeabchmjaa
