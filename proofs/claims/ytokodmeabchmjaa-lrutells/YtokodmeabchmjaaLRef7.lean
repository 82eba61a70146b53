/-
  The document's cache: Use. A lemma file: no statement of the seat is proved here.
-/
import Derived.Test.YtokodmeabchmjaaLRef6
import Derived.Test.YtokodmeabchmjaaLUseS
namespace Go.Proofs.Ytokodmeabchmjaa
open Go.RowKit Go.Maps Go.Sort

theorem isV_new (w : World) (u : Value) (t : TypeId) (h : u.oneCell' = true) : IsV (w.alloc (.cells #[u] t)) (.slice (some ⟨w.heap.size, 0, none⟩) 1 1) [u] := by
  refine ⟨_, 1, rfl, by simp, fun x hx j z hz => ?_, by simpa using h⟩
  simp only [Option.some.injEq] at hx
  subst hx
  have hj : j < 1 := by simpa using (List.getElem?_eq_some_iff.1 hz).1
  have : j = 0 := by omega
  subst this
  simp at hz
  subst hz
  exact cell_of_heap (heap_alloc_new w (.cells #[u] t)) 0

section
variable {ops : Array Oper} {rest : List Oper} {o : Oper} {a : Act} {Q : Exit → Act → World → Prop}

theorem wp_pushVS (w : World) (hgd : o.guard = none) (s x : Operand) (ho : o.op = .call { callee := .builtin .append, args := #[s, x], argTypes := #[35, 35] })
    (v : Value) (xs : List Value) (z : ByteArray) (hs : a.eval s = v) (hrow : RowV w 9 v xs) (hx : a.eval x = .slice (some ⟨w.heap.size, 0, none⟩) 1 1) (hlen : xs.length + 1 ≤ 1000000)
    (h : ∀ v' w', RowV w' 9 v' (xs ++ [.string z]) → Kept (own v) w w' → Newly w (own v) (own v') → wpList Try.prog ops Q rest (a.put o.dst v') w') :
    wpList Try.prog ops Q (o :: rest) a (w.alloc (.cells #[.string z] 9)) := by
  refine wpList_plain hgd fun K hK => ?_
  have hrow2 : RowV (w.alloc (.cells #[.string z] 9)) 9 v xs := ownsRow_kept hrow ((Kept.refl [] w).alloc _) (by simp)
  obtain ⟨v', w', hr, h2, h3, h4⟩ := hrow2.appendS (isV_new w (.string z) 9 rfl) (by simpa using hlen) o.type
  unfold Oper.wp execOp
  simp only [ho, resolve, invoke, builtin, Sem.run_bind, Sem.run_pure, Result.andThen_ok, List.map_toArray, List.map_cons, List.map_nil, hs, hx, hr]
  exact hK _ _ (h v' w' h2 (((Kept.refl (own v) w).alloc _).trans h3 (Newly.refl _ _)) (fun y hy => (h4 y hy).imp id (fun q => Nat.le_trans (by simp) q)))

theorem wp_pushVI (w : World) (n0 : Nat) (hn0 : n0 = w.heap.size) (hgd : o.guard = none) (s x : Operand) (ho : o.op = .call { callee := .builtin .append, args := #[s, x], argTypes := #[37, 37] })
    (v : Value) (xs : List Value) (z : Int) (hs : a.eval s = v) (hrow : RowV w 3 v xs) (hx : a.eval x = .slice (some ⟨n0, 0, none⟩) 1 1) (hlen : xs.length + 1 ≤ 1000000)
    (h : ∀ v' w', RowV w' 3 v' (xs ++ [.int .i64 z]) → Kept (own v) w w' → Newly w (own v) (own v') → wpList Try.prog ops Q rest (a.put o.dst v') w') :
    wpList Try.prog ops Q (o :: rest) a (w.alloc (.cells #[.int .i64 z] 3)) := by
  subst hn0
  refine wpList_plain hgd fun K hK => ?_
  have hrow2 : RowV (w.alloc (.cells #[.int .i64 z] 3)) 3 v xs := ownsRow_kept hrow ((Kept.refl [] w).alloc _) (by simp)
  obtain ⟨v', w', hr, h2, h3, h4⟩ := hrow2.appendI (isV_new w (.int .i64 z) 3 rfl) (by simpa using hlen) o.type
  unfold Oper.wp execOp
  simp only [ho, resolve, invoke, builtin, Sem.run_bind, Sem.run_pure, Result.andThen_ok, List.map_toArray, List.map_cons, List.map_nil, hs, hx, hr]
  exact hK _ _ (h v' w' h2 (((Kept.refl (own v) w).alloc _).trans h3 (Newly.refl _ _)) (fun y hy => (h4 y hy).imp id (fun q => Nat.le_trans (by simp) q)))
end

section
variable {w w' : World} {fp : List Nat} {r : Nat} {lv pv : Value} {fr : Int} {l : List (ByteArray × Nat)}

theorem RefL.rows (h : RefL w r lv pv fr l) : RowV w 9 lv (l.map fun x => .string x.1) ∧ RowV w 3 pv (l.map fun x => .int .i64 x.2) := by
  constructor
  · have := h.keys
    unfold RowV
    simpa using this
  · have := h.pins
    unfold RowV
    simpa using this

theorem push_mid (h : RefL w r lv pv fr l) {w5 : World} (k5 : Kept (own lv) w w5) (v5 : Value) :
    w5.cell? ⟨r, 1, none⟩ = some lv ∧ w5.frozen? ⟨r, 1, none⟩ = false ∧ (w5.setCell ⟨r, 1, none⟩ v5).cell? ⟨r, 2, none⟩ = some pv ∧ RowV (w5.setCell ⟨r, 1, none⟩ v5) 3 pv (l.map fun x => .int .i64 x.2) := by
  have hc := k5.heap h.cells h.apartL
  have hs := heap_setCell hc 1 v5
  have ks : Kept [r] w5 (w5.setCell ⟨r, 1, none⟩ v5) := (Kept.refl _ w5).setCell (p := ⟨r, 1, none⟩) (.inl (by simp)) _
  refine ⟨by simpa using cell_of_heap hc 1, frozen_of_heap hc 1, by simpa using cell_of_heap hs 2, ?_⟩
  exact ownsRow_kept (ownsRow_kept h.rows.2 k5 (fun x hx e => h.apart x e hx)) ks (fun x hx e => h.apartP (by simp at e; exact e ▸ hx))

theorem push_mid2 (h : RefL w r lv pv fr l) {w5 w7 : World} (k5 : Kept (own lv) w w5) (v5 : Value) (k7 : Kept (own pv) (w5.setCell ⟨r, 1, none⟩ v5) w7) :
    w7.cell? ⟨r, 2, none⟩ = some pv ∧ w7.frozen? ⟨r, 2, none⟩ = false := by
  have hc := k7.heap (heap_setCell (k5.heap h.cells h.apartL) 1 v5) h.apartP
  exact ⟨by simpa using cell_of_heap hc 2, frozen_of_heap hc 2⟩

theorem push_end (h : RefL w r lv pv fr l) {w5 w7 : World} {v5 v7 : Value} {nm : ByteArray} {p : Nat} (r5 : RowV w5 9 v5 ((l.map fun x => .string x.1) ++ [.string nm])) (k5 : Kept (own lv) w w5) (n5 : Newly w (own lv) (own v5))
    (r7 : RowV w7 3 v7 ((l.map fun x => .int .i64 x.2) ++ [.int .i64 p])) (k7 : Kept (own pv) (w5.setCell ⟨r, 1, none⟩ v5) w7) (n7 : Newly (w5.setCell ⟨r, 1, none⟩ v5) (own pv) (own v7)) :
    RefO w (w7.setCell ⟨r, 2, none⟩ v7) (lfeet r lv pv) r fr (l ++ [(nm, p)]) := by
  have hr : r < w.heap.size := (Array.getElem?_eq_some_iff.1 h.cells).1
  have q5 : Kept [r] w5 (w5.setCell ⟨r, 1, none⟩ v5) := (Kept.refl _ w5).setCell (p := ⟨r, 1, none⟩) (.inl (by simp)) _
  have q7 : Kept [r] w7 (w7.setCell ⟨r, 2, none⟩ v7) := (Kept.refl _ w7).setCell (p := ⟨r, 2, none⟩) (.inl (by simp)) _
  have s5 : (w5.setCell ⟨r, 1, none⟩ v5).heap.size = w5.heap.size := by simp [World.setCell]
  have lowP : ∀ x ∈ own pv, x < w.heap.size := fun x hx => h.low x (by simp [lfeet, hx])
  have lowL : ∀ x ∈ own lv, x < w.heap.size := fun x hx => h.low x (by simp [lfeet, hx])
  have f5 : ∀ x ∈ own v5, (x ∈ own lv ∨ w.heap.size ≤ x) ∧ x < w5.heap.size := fun x hx => ⟨n5 x hx, (World.ownsRow.lt r5 x (by simpa [own] using hx)).2⟩
  have f7 : ∀ x ∈ own v7, x ∈ own pv ∨ w5.heap.size ≤ x := fun x hx => by have := n7 x hx; rwa [s5] at this
  have l5 : w.heap.size ≤ w5.heap.size := k5.size
  have ne5 : r ∉ own v5 := fun e => by
    rcases (f5 r e).1 with q | q
    · exact h.apartL q
    · omega
  have ne7 : r ∉ own v7 := fun e => by
    rcases f7 r e with q | q
    · exact h.apartP q
    · omega
  have n5p : ∀ x ∈ own v5, x ∉ own pv := fun x hx e => by
    rcases (f5 x hx).1 with q | q
    · exact h.apart x q e
    · have := lowP x e; omega
  refine ⟨lfeet r v5 v7, ⟨v5, v7, ⟨?_, ?_, ?_, ne5, ne7, ?_⟩, rfl⟩, ?_, ?_⟩
  · have := heap_setCell (k7.heap (heap_setCell (k5.heap h.cells h.apartL) 1 v5) h.apartP) 2 v7
    simpa using this
  · have e := ownsRow_kept (ownsRow_kept (ownsRow_kept r5 q5 (fun x hx e => ne5 (by simp at e; exact e ▸ hx))) k7 n5p) q7 (fun x hx e => ne5 (by simp at e; exact e ▸ hx))
    simpa using e
  · have e := ownsRow_kept r7 q7 (fun x hx e => ne7 (by simp at e; exact e ▸ hx))
    simpa using e
  · intro x hx e
    rcases f7 x e with q | q
    · exact n5p x hx q
    · have := (f5 x hx).2; omega
  · have a1 : Kept (lfeet r lv pv) w w5 := k5.mono (by intro x hx; simp [lfeet, hx])
    have a2 := a1.trans (fp' := [r]) q5 (fun x hx => .inl (by simp at hx; simp [lfeet, hx]))
    have a3 := a2.trans (fp' := own pv) k7 (fun x hx => .inl (by simp [lfeet, hx]))
    exact a3.trans (fp' := [r]) q7 (fun x hx => .inl (by simp at hx; simp [lfeet, hx]))
  · intro x hx
    simp only [lfeet, List.cons_append, List.mem_cons, List.mem_append] at hx ⊢
    rcases hx with rfl | hx | hx
    · exact .inl (.inl rfl)
    · rcases (f5 x hx).1 with q | q
      · exact .inl (.inr (.inl q))
      · exact .inr q
    · rcases f7 x hx with q | q
      · exact .inl (.inr (.inr q))
      · exact .inr (Nat.le_trans l5 q)

theorem RefO.trans {fp fp2 : List Nat} {w2 : World} {l2 : List (ByteArray × Nat)} (hk : Kept fp w w') (hn : Newly w fp fp2) (o : RefO w' w2 fp2 r fr l2) : RefO w w2 fp r fr l2 := by
  obtain ⟨fp3, o1, o2, o3⟩ := o
  exact ⟨fp3, o1, hk.trans o2 hn, hn.trans o3 hk.size⟩

set_option maxRecDepth 100000 in
set_option maxHeartbeats 4000000 in
theorem refUseC {pv' : Value} (h : RefL w r lv pv' fr l) (hf : l.length ≤ 1000) (nm : ByteArray) (hl : lookA l nm = none) (hle : (l.length : Int) < fr) :
    Calls Try.prog 14 #[.pointer (some ⟨r, 0, none⟩), .string nm] w fun e w' => e = .returned (.tuple #[.string ⟨#[]⟩, .bool false, .int .i64 0]) ∧ RefO w w' (lfeet r lv pv') r fr (l ++ [(nm, 0)]) := by
  have FD := hide (refFindL h hf nm)
  rcases placeL_look l nm with ⟨e, hl⟩ | ⟨k, hk, e, hkn, hl2⟩
  rotate_left
  · rw [hl] at hl2; cases hl2
  rw [e] at FD
  have hne : ((l.length : Int) == fr) = false := by simp; omega
  have h1 : RefL w.drew r lv pv' fr l := h.kept (fp := []) ((Kept.refl [] w).drew) (by simp)
  have HDR := hide ((Kept.refl (lfeet r lv pv') w).drew)
  obtain ⟨a, cap, hpv⟩ := h.formL
  obtain ⟨c0, c1, c2⟩ := h.cellAt
  have q0 := frozen_of_heap h1.cells 1
  obtain ⟨d0, d1, d2⟩ := h1.cellAt
  have HT := hide h1
  obtain ⟨XS, hXS⟩ : ∃ XS, XS = l.map fun x => Value.string x.1 := ⟨_, rfl⟩
  obtain ⟨YS, hYS⟩ : ∃ YS, YS = l.map fun x => Value.int .i64 x.2 := ⟨_, rfl⟩
  have HR1 := hide h1.rows.1
  rw [← hXS] at HR1
  have HL1 : Hid (XS.length + 1 ≤ 1000000) := by show _ ≤ _; rw [hXS]; simp; omega
  have HL2 : Hid (YS.length + 1 ≤ 1000000) := by show _ ≤ _; rw [hYS]; simp; omega
  have HX := hide (And.intro hXS hYS)
  subst hpv
  clear e hl h h1 hXS hYS hf hle
  go_enter Try.func14, Try.ntmps14
  go_wp2_with (go_at_call 37; refine FD.out.mono ?_; rintro e w1 ⟨rfl, rfl⟩)
  go_region
  all_goals
    have HW := hide (rfl : w1.drew = w1.drew)
    generalize w1.drew = W at HT HR1 d0 d1 d2 q0 HDR HW ⊢
    go_wp2_with first | (refine wp_pushVS _ rfl (.tmp 74) (.tmp 76) rfl (.slice a l.length cap) XS nm rfl HR1.out rfl HL1.out ?_; intro v5 w5 r5 k5 n5; obtain ⟨a5, p5, e5⟩ := r5.form; obtain ⟨m5, hm5⟩ : ∃ m, m = (XS ++ [Value.string nm]).length := ⟨_, rfl⟩; rw [← hm5] at e5; clear hm5; subst e5; have R5 := hide r5; have K5 := hide k5; have N5 := hide n5; obtain ⟨g1, g2, g3, g4⟩ := push_mid HT.out k5 (.slice a5 m5 p5); rw [← HX.out.2] at g4; have G4 := hide g4; clear r5 k5 n5 g4) | (refine wp_pushVI _ w5.heap.size (by simp [World.setCell]) rfl (.tmp 84) (.tmp 86) rfl pv' YS 0 rfl G4.out rfl HL2.out ?_; intro v7 w7 r7 k7 n7; obtain ⟨a7, p7, e7⟩ := r7.form; obtain ⟨m7, hm7⟩ : ∃ m, m = (YS ++ [Value.int .i64 0]).length := ⟨_, rfl⟩; rw [← hm7] at e7; clear hm7; subst e7; have R7 := hide r7; have K7 := hide k7; have N7 := hide n7; obtain ⟨g5, g6⟩ := push_mid2 HT.out K5.out (.slice a5 m5 p5) k7; clear r7 k7 n7)
    go_ret3
    have A := R5.out
    have B := R7.out
    rw [HX.out.1] at A
    rw [HX.out.2] at B
    refine ⟨rfl, ?_⟩
    exact RefO.trans HDR.out (Newly.refl _ _) (push_end (p := 0) HT.out A K5.out N5.out B K7.out N7.out)

set_option maxRecDepth 100000 in
set_option maxHeartbeats 4000000 in
theorem refUseA (h : RefL w r lv pv fr l) (hf : l.length ≤ 1000) (nm : ByteArray) {k : Nat} (hk : k < l.length) (e : placeL l nm = k) :
    Calls Try.prog 14 #[.pointer (some ⟨r, 0, none⟩), .string nm] w fun e w' => e = .returned (.tuple #[.string ⟨#[]⟩, .bool false, .int .i64 0]) ∧ RefO w w' (lfeet r lv pv) r fr (l.eraseIdx k ++ [(nm, l[k].2)]) := by
  have FD := hide (refFindL h hf nm)
  rw [e] at FD
  have CT := hide (cut_any h k hk hf)
  obtain ⟨a0, cap0, hpv⟩ := h.formP
  subst hpv
  obtain ⟨gp, rfl, cp, zp⟩ := h.pinAt hk
  obtain ⟨c0, c1, c2⟩ := h.cellAt
  obtain ⟨pn, hpn⟩ : ∃ pn, pn = l[k].2 := ⟨_, rfl⟩
  rw [← hpn] at cp ⊢
  obtain ⟨m, hm⟩ : ∃ m, m = l.eraseIdx k := ⟨_, rfl⟩
  have hml : m.length ≤ 1000 := by rw [hm, List.length_eraseIdx]; split <;> omega
  rw [← hm] at CT ⊢
  obtain ⟨XS, hXS⟩ : ∃ XS, XS = m.map fun x => Value.string x.1 := ⟨_, rfl⟩
  obtain ⟨YS, hYS⟩ : ∃ YS, YS = m.map fun x => Value.int .i64 x.2 := ⟨_, rfl⟩
  have HL1 : Hid (XS.length + 1 ≤ 1000000) := by show _ ≤ _; rw [hXS]; simp; omega
  have HL2 : Hid (YS.length + 1 ≤ 1000000) := by show _ ≤ _; rw [hYS]; simp; omega
  have HX := hide (And.intro hXS hYS)
  obtain ⟨n, hn⟩ : ∃ n, n = l.length := ⟨_, rfl⟩
  rw [← hn] at c2 hk hf
  have HN := hide hn
  have h0 : (0 : Int) ≤ (k : Int) := by omega
  clear e h hXS hYS hm hpn hn hml zp
  go_enter Try.func14, Try.ntmps14
  go_wp2_with first | (go_at_call 37; refine FD.out.mono ?_; rintro e w1 ⟨rfl, rfl⟩) | (go_at_call 38; refine CT.out.mono ?_; rintro e w2 ⟨rfl, lv', pv', o1, o2, o3⟩; obtain ⟨a, cap, hlv⟩ := o1.formL; subst hlv; obtain ⟨c0', c1', c2'⟩ := o1.cellAt; have HT := hide o1; have HR1 := hide o1.rows.1; rw [← HX.out.1] at HR1; have HK := hide (And.intro o2 o3); clear o1 o2 o3) | (refine wp_pushVS _ rfl (.tmp 74) (.tmp 76) rfl (.slice a m.length cap) XS nm rfl HR1.out rfl HL1.out ?_; intro v5 w5 r5 k5 n5; obtain ⟨a5, p5, e5⟩ := r5.form; obtain ⟨m5, hm5⟩ : ∃ m, m = (XS ++ [Value.string nm]).length := ⟨_, rfl⟩; rw [← hm5] at e5; clear hm5; subst e5; have R5 := hide r5; have K5 := hide k5; have N5 := hide n5; obtain ⟨g1, g2, g3, g4⟩ := push_mid HT.out k5 (.slice a5 m5 p5); rw [← HX.out.2] at g4; have G4 := hide g4; clear r5 k5 n5 g4) | (refine wp_pushVI _ w5.heap.size (by simp [World.setCell]) rfl (.tmp 84) (.tmp 86) rfl pv' YS (pn : Int) rfl G4.out rfl HL2.out ?_; intro v7 w7 r7 k7 n7; obtain ⟨a7, p7, e7⟩ := r7.form; obtain ⟨m7, hm7⟩ : ∃ m, m = (YS ++ [Value.int .i64 (pn : Int)]).length := ⟨_, rfl⟩; rw [← hm7] at e7; clear hm7; subst e7; have R7 := hide r7; have K7 := hide k7; have N7 := hide n7; obtain ⟨g5, g6⟩ := push_mid2 HT.out K5.out (.slice a5 m5 p5) k7; clear r7 k7 n7)
  go_ret3
  have A := R5.out
  have B := R7.out
  rw [HX.out.1] at A
  rw [HX.out.2] at B
  refine ⟨rfl, ?_⟩
  exact RefO.trans (HK.out.1.mono (by simp [lfeet])) (fun x hx => by rcases HK.out.2 x hx with q | q; exact .inl (by simp [lfeet, q]); exact .inr q) (push_end (p := pn) HT.out A K5.out N5.out B K7.out N7.out)

end
end Go.Proofs.Ytokodmeabchmjaa
