/-
  The document's Put. A lemma file: no statement of the seat is proved here.
-/
import Derived.Test.YtbppjbdcgcmjiaaHPure
import Derived.Deep.Cut
namespace Go.Proofs.Ytbppjbdcgcmjiaa
open Go.RowKit

theorem put_step (l : List Rc) (y : Rc) (j : Nat) (hj : j < l.length) : (l.take (j + 1) ++ y :: l.drop (j + 1)).set (j + 1) l[j]! = l.take j ++ l[j]! :: l.drop j := by
  rw [getElem!_pos l j hj]
  have h1 : (l.take (j + 1)).length = j + 1 := by simp; omega
  rw [List.set_append_right _ _ (by omega), h1, Nat.sub_self, List.set_cons_zero]
  rw [← List.take_append_getElem hj, List.append_assoc, List.drop_eq_getElem_cons hj]
  simp

theorem put_end (l : List Rc) (x y : Rc) (k : Nat) (hk : k ≤ l.length) : (l.take k ++ y :: l.drop k).set k x = l.take k ++ x :: l.drop k := by
  have h1 : (l.take k).length = k := by simp; omega
  rw [List.set_append_right _ _ (by omega), h1, Nat.sub_self, List.set_cons_zero]

theorem put_at (l : List Rc) (y : Rc) (j k : Nat) (hj : j < k) (hk : k ≤ l.length) : (l.take k ++ y :: l.drop k)[j]! = l[j]! := by
  rw [getElem!_pos _ j (by simp; omega), getElem!_pos l j (by omega), List.getElem_append_left (by simp; omega), List.getElem_take]

theorem put_len (l : List Rc) (y : Rc) (k : Nat) : (l.take k ++ y :: l.drop k).length = l.length + 1 := by simp; omega

theorem put_ins {l : List Rc} (h : Rises l) (x : Rc) (k : Nat) (hk : k ≤ l.length) (h1 : ∀ z ∈ l.drop k, ltR x z = true) (h2 : k = 0 ∨ ltR x l[k - 1]! = false) : l.take k ++ x :: l.drop k = insR x l := by
  refine Rises.unique ?_ (insR_rises x h) ?_
  · unfold Rises at h ⊢
    have hs := h
    rw [← List.take_append_drop k l, List.pairwise_append] at hs
    obtain ⟨ha, hb, hc⟩ := hs
    rw [List.pairwise_append]
    have hx : ∀ a ∈ l.take k, ltR x a = false := by
      intro a ha'
      rcases h2 with rfl | h2
      · simp at ha'
      · obtain ⟨i, hi, rfl⟩ := List.getElem_of_mem ha'
        simp at hi
        have hk1 : k - 1 < l.length := by omega
        rw [getElem!_pos l (k - 1) hk1] at h2
        rw [List.getElem_take]
        rcases Nat.lt_or_ge i (k - 1) with hlt | hge
        · have := List.pairwise_iff_getElem.1 h i (k - 1) (by omega) hk1 hlt
          exact nlt_trans this h2
        · have e : i = k - 1 := by omega
          subst e
          exact h2
    refine ⟨ha, List.pairwise_cons.2 ⟨fun z hz => nlt_of_lt (h1 z hz), hb⟩, fun a ha' b hb' => ?_⟩
    rcases List.mem_cons.1 hb' with rfl | hb'
    · exact hx a ha'
    · exact hc a ha' b hb'
  · refine List.perm_middle.trans ?_
    rw [List.take_append_drop]
    exact (insR_perm x l).symm

/-- A slice of one record that has just been laid. -/
theorem isR_one (w : World) (x1 x2 : Int) (hx : okR (x1, x2)) : IsR (w.alloc (.cells #[.int .u64 x1, .int .u64 x2] 44)) (.slice (some ⟨w.heap.size, 0, none⟩) 1 1) [(x1, x2)] := by
  refine ⟨_, 1, rfl, Nat.le_refl _, by simp, fun x hx j u hu => ?_, by simpa using hx⟩
  simp only [Option.some.injEq] at hx
  subst hx
  rw [Addr.add_lit, Nat.zero_add, cell_of_heap (heap_alloc_new w _)]
  match j, hu with
  | 0, hu => simpa [flatR, encR] using hu
  | 1, hu => simpa [flatR, encR] using hu
  | j + 2, hu => simp [flatR, encR] at hu

theorem RowR.alloc {w : World} {v : Value} {l : List Rc} (h : RowR w v l) (o : Obj) : RowR (w.alloc o) v l := h.kept ((Kept.refl [] _).alloc o) (fun _ _ => by simp)
theorem IsR.kept {fp : List Nat} {w w' : World} {v : Value} {l : List Rc} (h : IsR w v l) (hk : Kept fp w w') (hf : ∀ x ∈ own v, x ∉ fp) : IsR w' v l := by
  obtain ⟨a, cap, rfl, h1, h2, h3, h4⟩ := h
  refine ⟨a, cap, rfl, h1, h2, fun x hx j u hu => ?_, h4⟩
  subst hx
  refine hk.cell (h3 x rfl j u hu) ?_
  have hb : (x.add j).block = x.block := by unfold Addr.add; split <;> rfl
  rw [hb]
  exact hf x.block (by simp [own, Value.ownBlock])
theorem IsR.alloc {w : World} {v : Value} {l : List Rc} (h : IsR w v l) (o : Obj) : IsR (w.alloc o) v l := h.kept ((Kept.refl [] _).alloc o) (fun _ _ => by simp)
theorem rowR_empty (w : World) : RowR (w.alloc (.cells #[] 44)) (.slice (some ⟨w.heap.size, 0, none⟩) 0 0) [] :=
  ⟨World.ownsRow_made w #[] 0 (Nat.zero_le _) (by unfold maxLen; omega) rfl, by simp⟩

theorem Kept.undrew {fp : List Nat} {a b : World} (h : Kept fp a.drew b) : Kept fp a b := ⟨h.os, h.tape, h.output, h.size, h.block⟩

/-- All that was there stays, the box too, and the row's blocks are new. -/
structure PutSt (w W : World) (fp : List Nat) (x1 x2 : Int) : Prop where
  kept : Kept [] w W
  box : W.heap[w.heap.size]? = some (.cells #[.int .u64 x1, .int .u64 x2] 44 (0, 0))
  new : ∀ b ∈ fp, w.heap.size < b

theorem PutSt.next {w W w4 : World} {fp fp' : List Nat} {x1 x2 : Int} (h : PutSt w W fp x1 x2) (k : Kept fp W w4) (n : Newly W fp fp') : PutSt w w4 fp' x1 x2 := by
  have hW : w.heap.size < W.heap.size := (Array.getElem?_eq_some_iff.1 h.box).1
  refine ⟨h.kept.trans k (fun x hx => .inr (Nat.le_of_lt (h.new x hx))), k.heap h.box (fun e => Nat.lt_irrefl _ (h.new _ e)), fun b hb => ?_⟩
  rcases n b hb with h1 | h1
  · exact h.new b h1
  · omega
theorem PutSt.alloc {w W : World} {fp : List Nat} {x1 x2 : Int} (h : PutSt w W fp x1 x2) (o : Obj) : PutSt w (W.alloc o) fp x1 x2 :=
  ⟨h.kept.alloc o, ((Kept.refl [] W).alloc o).heap h.box (by simp), h.new⟩
theorem PutSt.cell1 {w W : World} {fp : List Nat} {x1 x2 : Int} (h : PutSt w W fp x1 x2) : W.cell? ⟨w.heap.size, 0, none⟩ = some (.int .u64 x1) := cell_of_heap h.box 0
theorem PutSt.cell2 {w W : World} {fp : List Nat} {x1 x2 : Int} (h : PutSt w W fp x1 x2) : W.cell? ⟨w.heap.size, 1, none⟩ = some (.int .u64 x2) := cell_of_heap h.box 1

set_option maxRecDepth 100000 in
set_option maxHeartbeats 1000000 in
theorem refPut_any {w : World} {v : Value} {l : List Rc} (h : IsR w v l) (hr : Rises l) (hmax : l.length ≤ 100000) (x1 x2 : Int) (hx : okR (x1, x2)) :
    Calls Try.prog 28 #[v, .agg #[.int .u64 x1, .int .u64 x2]] w fun e w' => ∃ v', e = .returned v' ∧ RowR w' v' (insR (x1, x2) l) ∧ Below w.heap.size w w' ∧ ∀ b ∈ own v', w.heap.size ≤ b := by
  have P0 : PutSt w (w.alloc (.cells #[.int .u64 x1, .int .u64 x2] 44)) [] x1 x2 := ⟨(Kept.refl _ _).alloc _, heap_alloc_new _ _, by simp⟩
  have I0 := h.alloc (.cells #[.int .u64 x1, .int .u64 x2] 44)
  have RA := rowR_empty (w.alloc (.cells #[.int .u64 x1, .int .u64 x2] 44))
  have RC := rowR_empty ((w.alloc (.cells #[.int .u64 x1, .int .u64 x2] 44)).alloc (.cells #[.int .u64 x1, .int .u64 x2] 44))
  have CB := isR_one ((w.alloc (.cells #[.int .u64 x1, .int .u64 x2] 44)).alloc (.cells #[] 44)) x1 x2 hx
  have CC := isR_one (w.alloc (.cells #[.int .u64 x1, .int .u64 x2] 44)) x1 x2 hx
  simp only [World.size_alloc] at RA RC CB CC
  have PA : PutSt w ((w.alloc (.cells #[.int .u64 x1, .int .u64 x2] 44)).alloc (.cells #[] 44)) (own (.slice (some ⟨w.heap.size + 1, 0, none⟩) 0 0)) x1 x2 := ⟨(P0.alloc _).kept, (P0.alloc _).box, by simp [own, Value.ownBlock]⟩
  have PC : PutSt w (((w.alloc (.cells #[.int .u64 x1, .int .u64 x2] 44)).alloc (.cells #[.int .u64 x1, .int .u64 x2] 44)).alloc (.cells #[] 44)) (own (.slice (some ⟨w.heap.size + 1 + 1, 0, none⟩) 0 0)) x1 x2 := ⟨((P0.alloc _).alloc _).kept, ((P0.alloc _).alloc _).box, by simp [own, Value.ownBlock]; omega⟩
  have FA := hide (And.intro RA (And.intro (I0.alloc (.cells #[] 44)) PA))
  have FB := hide (And.intro (RA.alloc (.cells #[.int .u64 x1, .int .u64 x2] 44)) (And.intro ((I0.alloc (.cells #[] 44)).alloc (.cells #[.int .u64 x1, .int .u64 x2] 44)) (And.intro (PA.alloc (.cells #[.int .u64 x1, .int .u64 x2] 44)) CB)))
  have FC := hide (And.intro RC (And.intro ((I0.alloc (.cells #[.int .u64 x1, .int .u64 x2] 44)).alloc (.cells #[] 44)) (And.intro PC (CC.alloc (.cells #[] 44)))))
  have hlen1 : Hid (([] : List Rc).length + l.length ≤ 1099511627776) := by show _ ≤ _; simp; omega
  have hlen2 : Hid (([] ++ l).length + [(x1, x2)].length ≤ 1099511627776) := by show _ ≤ _; simp; omega
  have HAB : Hid (∀ x ∈ own (Value.slice (some ⟨w.heap.size + 1 + 1, 0, none⟩) 1 1), x ∉ own (Value.slice (some ⟨w.heap.size + 1, 0, none⟩) 0 0)) := by intro x hx; simp [own, Value.ownBlock] at hx ⊢; omega
  have HAC : Hid (∀ x ∈ own (Value.slice (some ⟨w.heap.size + 1, 0, none⟩) 1 1), x ∉ own (Value.slice (some ⟨w.heap.size + 1 + 1, 0, none⟩) 0 0)) := by intro x hx; simp [own, Value.ownBlock] at hx ⊢; omega
  have c1 := P0.cell1
  have c2 := P0.cell2
  have c1a := PA.cell1
  have c2a := PA.cell2
  have HX := hide (And.intro hx (And.intro hr hmax))
  clear P0 I0 RA RC CB CC PA PC h
  go_enter Try.func28, Try.ntmps28
  go_wp2
  go_cut [5] from 7 (fun s5 wx => ∃ g4 cap4, s5 = .slice (some ⟨g4, 0, none⟩) (l.length + 1) cap4 ∧ Hid (RowR wx (.slice (some ⟨g4, 0, none⟩) (l.length + 1) cap4) (l ++ [(x1, x2)])) ∧ Hid (PutSt w wx (own (.slice (some ⟨g4, 0, none⟩) (l.length + 1) cap4)) x1 x2))
  case first =>
    go_region_law (first
      | (refine step_appendR _ ?_ (.tmp 7) (.tmp 8) ?_ (.slice (some ⟨w.heap.size + 1, 0, none⟩) 0 0) v [] l ?_ ?_ ?_ ?_ ?_ ?_; rfl; rfl; rfl; exact FA.out.1; rfl; exact FA.out.2.1; exact hlen1.out; intro v3 w3 r3 k3 n3; have p3 := FA.out.2.2.next k3.undrew n3; have c3 := p3.cell1; have d3 := p3.cell2; have R3 := hide r3; have P3 := hide p3; have I3 := hide True.intro; clear r3 k3 n3 p3)
      | (refine step_appendR _ ?_ (.tmp 7) (.tmp 8) ?_ (.slice (some ⟨w.heap.size + 1, 0, none⟩) 0 0) v [] l ?_ ?_ ?_ ?_ ?_ ?_; rfl; rfl; rfl; exact FB.out.1; rfl; exact FB.out.2.1; exact hlen1.out; intro v3 w3 r3 k3 n3; have p3 := FB.out.2.2.1.next k3.undrew n3; have c3 := p3.cell1; have d3 := p3.cell2; have R3 := hide r3; have P3 := hide p3; have I3 := hide (FB.out.2.2.2.kept k3.undrew HAB.out); clear r3 k3 n3 p3)
      | (refine step_appendR _ ?_ (.tmp 7) (.tmp 8) ?_ (.slice (some ⟨w.heap.size + 1 + 1, 0, none⟩) 0 0) v [] l ?_ ?_ ?_ ?_ ?_ ?_; rfl; rfl; rfl; exact FC.out.1; rfl; exact FC.out.2.1; exact hlen1.out; intro v3 w3 r3 k3 n3; have p3 := FC.out.2.2.1.next k3.undrew n3; have c3 := p3.cell1; have d3 := p3.cell2; have R3 := hide r3; have P3 := hide p3; have I3 := hide (FC.out.2.2.2.kept k3.undrew HAC.out); clear r3 k3 n3 p3)
      | (refine step_appendR _ ?_ (.tmp 9) (.tmp 11) ?_ v3 (.slice (some ⟨w3.heap.size, 0, none⟩) 1 1) ([] ++ l) [(x1, x2)] ?_ ?_ ?_ ?_ ?_ ?_; rfl; rfl; rfl; exact R3.out.alloc _; rfl; exact isR_one w3 x1 x2 HX.out.1; exact hlen2.out; intro v4 w4 r4 k4 n4; have p4 := (P3.out.alloc _).next k4 n4; have R4 := hide r4; have P4 := hide p4; clear r4 k4 n4 p4)
      | (refine step_appendR _ ?_ (.tmp 9) (.tmp 11) ?_ v3 (.slice (some ⟨w.heap.size + 1 + 1, 0, none⟩) 1 1) ([] ++ l) [(x1, x2)] ?_ ?_ ?_ ?_ ?_ ?_; rfl; rfl; rfl; exact R3.out; rfl; exact I3.out; exact hlen2.out; intro v4 w4 r4 k4 n4; have p4 := P3.out.next k4 n4; have R4 := hide r4; have P4 := hide p4; clear r4 k4 n4 p4)
      | (refine step_appendR _ ?_ (.tmp 9) (.tmp 11) ?_ v3 (.slice (some ⟨w.heap.size + 1, 0, none⟩) 1 1) ([] ++ l) [(x1, x2)] ?_ ?_ ?_ ?_ ?_ ?_; rfl; rfl; rfl; exact R3.out; rfl; exact I3.out; exact hlen2.out; intro v4 w4 r4 k4 n4; have p4 := P3.out.next k4 n4; have R4 := hide r4; have P4 := hide p4; clear r4 k4 n4 p4))
    all_goals
      go_wp2
      go_meet
      case rel =>
        have r4 := R4.out
        have p4 := P4.out
        rw [List.nil_append] at r4
        obtain ⟨g4, cap4, e4, q4⟩ := r4.blk (by simp)
        rw [List.length_append, List.length_singleton] at e4
        subst e4
        exact ⟨g4, cap4, rfl, r4, p4⟩
  case rest =>
    obtain ⟨g4, cap4, rfl, HR4, HP4⟩ := hcut
    have hw : IntKind.i64.wrap ((l.length : Int) + 1 - 1) = (l.length : Int) := by rw [i64_small _ (by omega) (by omega)]; omega
    clear FA FB FC HAB HAC c1 c2 c1a c2a hx hr hlen1 hlen2
    go_wp2
    go_loopw [6] (fun vk wr => ∃ (k : Nat) (y : Rc), vk = .int .i64 k ∧ k ≤ l.length ∧ Hid (RowR wr (.slice (some ⟨g4, 0, none⟩) (l.length + 1) cap4) (l.take k ++ y :: l.drop k)) ∧ Hid (∀ z ∈ l.drop k, ltR (x1, x2) z = true) ∧ Hid (PutSt w wr (own (.slice (some ⟨g4, 0, none⟩) (l.length + 1) cap4)) x1 x2)) (fun vk _ => numOf vk)
    case atStart => exact ⟨l.length, (x1, x2), by first | rfl | go_num, Nat.le_refl _, by rw [List.take_length, List.drop_length]; exact HR4, by simp [Hid], HP4⟩
    case round =>
      obtain ⟨k, y, rfl, hk, RR, HZ, PP⟩ := hrel
      have hkl : k < l.length + 1 := by omega
      by_cases h0 : k = 0
      · subst h0
        have c1 := PP.out.cell1
        have c2 := PP.out.cell2
        obtain ⟨s1, s2⟩ := RR.out.cell2 0 (by rw [put_len]; omega)
        have z1 := RR.out.frozenAt 0
        have z2 := RR.out.frozenAt 1
        simp only [Nat.zero_mul, Nat.zero_add] at s1 s2
        have RQ := RR
        have PQ := PP
        go_wp2
        go_quiet (fail)
        go_wp2
        refine bodyPost_ret (v := .slice (some ⟨g4, 0, none⟩) (l.length + 1) cap4) (by simp [results, Try.results28, go_sem]) rfl ⟨_, rfl, ?_, ?_, ?_⟩
        · have q := (RQ.out.kept ((Kept.refl [] wr).drewN nq) (fun _ _ => by simp)).stored 0 (by rw [put_len]; omega) (x1, x2) HX.out.1
          rw [put_end l _ _ _ (by omega), put_ins HX.out.2.1 (x1, x2) 0 (by omega) HZ.out (.inl rfl)] at q
          simpa using q
        · have k5 := PQ.out.kept.trans (fp' := [g4]) ((((Kept.refl [g4] _).drewN nq).setCell (p := ⟨g4, 0 * 2, none⟩) (.inl (by simp)) (.int .u64 x1)).setCell (p := ⟨g4, 0 * 2 + 1, none⟩) (.inl (by simp)) (.int .u64 x2)) (fun b hb => .inr (Nat.le_of_lt (PQ.out.new b (by simpa [own, Value.ownBlock] using hb))))
          have k6 := k5.below (Nat.le_refl _) (by simp)
          simpa using k6
        · intro b hb
          exact Nat.le_of_lt (PQ.out.new b hb)
      · obtain ⟨j, hj⟩ : ∃ j, k = j + 1 := ⟨k - 1, by omega⟩
        have hw1 : IntKind.i64.wrap ((k : Int) - 1) = (j : Int) := by rw [i64_small _ (by omega) (by omega)]; omega
        have hw2 : IntKind.i64.wrap (j : Int) = (j : Int) := i64_small _ (by omega) (by omega)
        have hjl : j < l.length + 1 := by omega
        have hk0 : (0 : Int) < (k : Int) := by omega
        have hk0' : 0 < k := by omega
        obtain ⟨u, hu⟩ : ∃ u, u = l[j]! := ⟨_, rfl⟩
        have hcs : ∀ W, Below wr.heap.size wr W → (W.cell? ⟨w.heap.size, 0, none⟩ = some (.int .u64 x1) ∧ W.cell? ⟨w.heap.size, 1, none⟩ = some (.int .u64 x2)) ∧ W.cell? ⟨g4, j * 2, none⟩ = some (.int .u64 u.1) ∧ W.cell? ⟨g4, j * 2 + 1, none⟩ = some (.int .u64 u.2) := fun W hb => by
          have p5 := PP.out.next (w4 := W) (fp' := []) (Kept.of_below hb) (fun _ hx => by simp at hx)
          have r5 := (RR.out.kept (Kept.of_below (fp := []) hb) (fun _ _ => by simp)).cell2 j (by rw [put_len]; omega)
          rw [put_at l y j k (by omega) hk, ← hu] at r5
          exact ⟨⟨p5.cell1, p5.cell2⟩, r5⟩
        have HU := hide (And.intro hu hj)
        obtain ⟨u1, u2⟩ := u
        dsimp only at hcs
        have HCS := hide hcs
        have c0 := (hcs wr (Below.refl _ _))
        obtain ⟨⟨c1, c2⟩, d1, d2⟩ := c0
        clear hu hj hcs
        cases ht : ltR (x1, x2) (u1, u2) with
        | true =>
          have LS : Hid (∀ W, Calls Try.prog 22 #[.agg #[.int .u64 x1, .int .u64 x2], .agg #[.int .u64 u1, .int .u64 u2]] W fun e w' => e = .returned (.bool true) ∧ Below W.heap.size W w') := fun W => by have := less_any x1 x2 u1 u2 W; rw [ht] at this; exact this
          have HT := hide ht
          clear ht
          go_wp2
          go_region_held (fun W => (W.cell? ⟨w.heap.size, 0, none⟩ = some (.int .u64 x1) ∧ W.cell? ⟨w.heap.size, 1, none⟩ = some (.int .u64 x2)) ∧ W.cell? ⟨g4, j * 2, none⟩ = some (.int .u64 u1) ∧ W.cell? ⟨g4, j * 2 + 1, none⟩ = some (.int .u64 u2)) (first | exact HCS.out _ (Below.refl _ _).drew | exact HCS.out _ b2') (first | (go_at_call 22; refine (LS.out _).mono ?_; rintro e w2 ⟨rfl, b2⟩; have b2' : Below wr.heap.size wr w2 := ⟨b2.os, b2.tape, b2.output, b2.size, b2.block⟩))
          have r5 := RR.out.kept (Kept.of_below (fp := []) b2') (fun _ _ => by simp)
          have p5 := PP.out.next (w4 := w2) (fp' := own (.slice (some ⟨g4, 0, none⟩) (l.length + 1) cap4)) (Kept.of_below b2') (Newly.refl _ _)
          obtain ⟨⟨e1, e2⟩, f1, f2⟩ := HCS.out w2 b2'
          obtain ⟨s1, s2⟩ := r5.cell2 k (by rw [put_len]; omega)
          have z1 := r5.frozenAt (k * 2)
          have z2 := r5.frozenAt (k * 2 + 1)
          have RQ := hide r5
          have PQ := hide p5
          clear r5 p5 b2 b2' HCS c1 c2 d1 d2
          go_wp2
          go_roundw
          case rel =>
            have hu := HU.out
            have q := RQ.out.stored k (by rw [put_len]; omega) (u1, u2) (by rw [hu.1, ← put_at l y j k (by omega) hk]; exact RQ.out.okAt j (by rw [put_len]; omega))
            have hpk : j < l.length := by omega
            refine ⟨j, (u1, u2), by first | rfl | go_num, by omega, ?_, ?_, ?_⟩
            · show RowR _ _ _
              have e : (l.take k ++ y :: l.drop k).set k (u1, u2) = l.take j ++ (u1, u2) :: l.drop j := by
                rw [hu.1, hu.2]
                exact put_step l y j hpk
              rw [e] at q
              exact q
            · intro z hz
              rw [List.drop_eq_getElem_cons hpk] at hz
              rcases List.mem_cons.1 hz with rfl | hz
              · rw [← getElem!_pos l j hpk, ← hu.1]
                exact HT.out
              · exact HZ.out z (by rw [hu.2]; exact hz)
            · refine PQ.out.next (fp' := own (.slice (some ⟨g4, 0, none⟩) (l.length + 1) cap4)) ?_ (Newly.refl _ _)
              exact ((Kept.refl _ _).setCell (.inl (by simp [own, Value.ownBlock])) _).setCell (.inl (by simp [own, Value.ownBlock])) _
          case measure =>
            have := HU.out
            simp [numOf]
            omega
        | false =>
          have LS : Hid (∀ W, Calls Try.prog 22 #[.agg #[.int .u64 x1, .int .u64 x2], .agg #[.int .u64 u1, .int .u64 u2]] W fun e w' => e = .returned (.bool false) ∧ Below W.heap.size W w') := fun W => by have := less_any x1 x2 u1 u2 W; rw [ht] at this; exact this
          have HT := hide ht
          clear ht
          go_wp2
          go_region_held (fun W => (W.cell? ⟨w.heap.size, 0, none⟩ = some (.int .u64 x1) ∧ W.cell? ⟨w.heap.size, 1, none⟩ = some (.int .u64 x2)) ∧ W.cell? ⟨g4, j * 2, none⟩ = some (.int .u64 u1) ∧ W.cell? ⟨g4, j * 2 + 1, none⟩ = some (.int .u64 u2)) (first | exact HCS.out _ (Below.refl _ _).drew | exact HCS.out _ b2') (first | (go_at_call 22; refine (LS.out _).mono ?_; rintro e w2 ⟨rfl, b2⟩; have b2' : Below wr.heap.size wr w2 := ⟨b2.os, b2.tape, b2.output, b2.size, b2.block⟩))
          have r5 := RR.out.kept (Kept.of_below (fp := []) b2') (fun _ _ => by simp)
          have p5 := PP.out.next (w4 := w2) (fp' := own (.slice (some ⟨g4, 0, none⟩) (l.length + 1) cap4)) (Kept.of_below b2') (Newly.refl _ _)
          obtain ⟨⟨e1, e2⟩, f1, f2⟩ := HCS.out w2 b2'
          obtain ⟨s1, s2⟩ := r5.cell2 k (by rw [put_len]; omega)
          have z1 := r5.frozenAt (k * 2)
          have z2 := r5.frozenAt (k * 2 + 1)
          have RQ := hide r5
          have PQ := hide p5
          clear r5 p5 b2 b2' HCS c1 c2 d1 d2
          go_wp2
          refine bodyPost_ret (v := .slice (some ⟨g4, 0, none⟩) (l.length + 1) cap4) (by simp [results, Try.results28, go_sem]) rfl ⟨_, rfl, ?_, ?_, ?_⟩
          · have hu := HU.out
            have q := RQ.out.stored k (by rw [put_len]; omega) (x1, x2) HX.out.1
            rw [put_end l _ _ _ (by omega), put_ins HX.out.2.1 (x1, x2) k (by omega) HZ.out (.inr (by rw [show k - 1 = j by omega, ← hu.1]; exact HT.out))] at q
            exact q
          · have k5 := PQ.out.kept.trans (fp' := [g4]) (((Kept.refl [g4] _).setCell (p := ⟨g4, k * 2, none⟩) (.inl (by simp)) (.int .u64 x1)).setCell (p := ⟨g4, k * 2 + 1, none⟩) (.inl (by simp)) (.int .u64 x2)) (fun b hb => .inr (Nat.le_of_lt (PQ.out.new b (by simpa [own, Value.ownBlock] using hb))))
            exact k5.below (Nat.le_refl _) (by simp)
          · intro b hb
            exact Nat.le_of_lt (PQ.out.new b hb)

end Go.Proofs.Ytbppjbdcgcmjiaa
