/-
  Lemma texts, one behind the other: HRef, QBase, QRows, QComb. No statement of the seat is proved here.
-/
import Derived.Test.YtgpbanjammipiaaGreatDoorGAK
import Derived.Deep.Cut
import Derived.Deep.SlicePairs
import Derived.ProofKit
import Derived.OpenShut
import Derived.Deep.Slices
namespace Go.Proofs.YtgpbanjammipiaaGreatDoor
open Go.RowKit

theorem put_stepH (l : List Rc) (y : Rc) (j : Nat) (hj : j < l.length) : (l.take (j + 1) ++ y :: l.drop (j + 1)).set (j + 1) l[j]! = l.take j ++ l[j]! :: l.drop j := by
  rw [getElem!_pos l j hj]
  have h1 : (l.take (j + 1)).length = j + 1 := by simp; omega
  rw [List.set_append_right _ _ (by omega), h1, Nat.sub_self, List.set_cons_zero]
  rw [← List.take_append_getElem hj, List.append_assoc, List.drop_eq_getElem_cons hj]
  simp

theorem put_end (l : List Rc) (x y : Rc) (k : Nat) (hk : k ≤ l.length) : (l.take k ++ y :: l.drop k).set k x = l.take k ++ x :: l.drop k := by
  have h1 : (l.take k).length = k := by simp; omega
  rw [List.set_append_right _ _ (by omega), h1, Nat.sub_self, List.set_cons_zero]

theorem put_at (l : List Rc) (y : Rc) (j k : Nat) (hj : j < k) (hk : k ≤ l.length) : (l.take k ++ y :: l.drop k)[j]! = l[j]! := by
  rw [getElem!_pos _ j (by simp; omega), getElem!_pos l j (by omega), List.getElem_append_left (by simp; omega), List.getElem_take]

theorem put_len (l : List Rc) (y : Rc) (k : Nat) : (l.take k ++ y :: l.drop k).length = l.length + 1 := by simp; omega

theorem put_ins {l : List Rc} (h : Rises l) (x : Rc) (k : Nat) (hk : k ≤ l.length) (h1 : ∀ z ∈ l.drop k, ltR x z = true) (h2 : k = 0 ∨ ltR x l[k - 1]! = false) : l.take k ++ x :: l.drop k = insR x l := by
  refine Rises.unique ?_ (insR_rises x h) ?_
  · unfold Rises at h ⊢
    have hs := h
    rw [← List.take_append_drop k l, List.pairwise_append] at hs
    obtain ⟨ha, hb, hc⟩ := hs
    rw [List.pairwise_append]
    have hx : ∀ a ∈ l.take k, ltR x a = false := by
      intro a ha'
      rcases h2 with rfl | h2
      · simp at ha'
      · obtain ⟨i, hi, rfl⟩ := List.getElem_of_mem ha'
        simp at hi
        have hk1 : k - 1 < l.length := by omega
        rw [getElem!_pos l (k - 1) hk1] at h2
        rw [List.getElem_take]
        rcases Nat.lt_or_ge i (k - 1) with hlt | hge
        · have := List.pairwise_iff_getElem.1 h i (k - 1) (by omega) hk1 hlt
          exact nlt_trans this h2
        · have e : i = k - 1 := by omega
          subst e
          exact h2
    refine ⟨ha, List.pairwise_cons.2 ⟨fun z hz => nlt_of_lt (h1 z hz), hb⟩, fun a ha' b hb' => ?_⟩
    rcases List.mem_cons.1 hb' with rfl | hb'
    · exact hx a ha'
    · exact hc a ha' b hb'
  · refine List.perm_middle.trans ?_
    rw [List.take_append_drop]
    exact (insR_perm x l).symm

theorem RowR.alloc {w : World} {v : Value} {l : List Rc} (h : RowR w v l) (o : Obj) : RowR (w.alloc o) v l := h.kept ((Kept.refl [] _).alloc o) (fun _ _ => by simp)
theorem Kept.undrew {fp : List Nat} {a b : World} (h : Kept fp a.drew b) : Kept fp a b := ⟨h.os, h.tape, h.output, h.size, h.block⟩

/-- All that was there stays, the box too, and the row's blocks are new. -/
structure PutSt (w W : World) (fp : List Nat) (x1 x2 : Int) : Prop where
  kept : Kept [] w W
  box : W.heap[w.heap.size]? = some (.cells #[.int .u64 x1, .int .u64 x2] 52 (0, 0))
  new : ∀ b ∈ fp, w.heap.size < b

theorem PutSt.next {w W w4 : World} {fp fp' : List Nat} {x1 x2 : Int} (h : PutSt w W fp x1 x2) (k : Kept fp W w4) (n : Newly W fp fp') : PutSt w w4 fp' x1 x2 := by
  have hW : w.heap.size < W.heap.size := (Array.getElem?_eq_some_iff.1 h.box).1
  refine ⟨h.kept.trans k (fun x hx => .inr (Nat.le_of_lt (h.new x hx))), k.heap h.box (fun e => Nat.lt_irrefl _ (h.new _ e)), fun b hb => ?_⟩
  rcases n b hb with h1 | h1
  · exact h.new b h1
  · omega
theorem PutSt.alloc {w W : World} {fp : List Nat} {x1 x2 : Int} (h : PutSt w W fp x1 x2) (o : Obj) : PutSt w (W.alloc o) fp x1 x2 :=
  ⟨h.kept.alloc o, ((Kept.refl [] W).alloc o).heap h.box (by simp), h.new⟩
theorem PutSt.cell1 {w W : World} {fp : List Nat} {x1 x2 : Int} (h : PutSt w W fp x1 x2) : W.cell? ⟨w.heap.size, 0, none⟩ = some (.int .u64 x1) := cell_of_heap h.box 0
theorem PutSt.cell2 {w W : World} {fp : List Nat} {x1 x2 : Int} (h : PutSt w W fp x1 x2) : W.cell? ⟨w.heap.size, 1, none⟩ = some (.int .u64 x2) := cell_of_heap h.box 1

set_option maxRecDepth 100000 in
set_option maxHeartbeats 1000000 in
theorem refPut_any {w : World} {v : Value} {l : List Rc} (h : IsR w v l) (hr : Rises l) (hmax : l.length ≤ 100000) (x1 x2 : Int) (hx : okR (x1, x2)) :
    Calls Tryz.prog 68 #[v, .agg #[.int .u64 x1, .int .u64 x2]] w fun e w' => ∃ v', e = .returned v' ∧ RowR w' v' (insR (x1, x2) l) ∧ Below w.heap.size w w' ∧ ∀ b ∈ own v', w.heap.size ≤ b := by
  have P0 : PutSt w (w.alloc (.cells #[.int .u64 x1, .int .u64 x2] 52)) [] x1 x2 := ⟨(Kept.refl _ _).alloc _, heap_alloc_new _ _, by simp⟩
  have I0 := h.alloc (.cells #[.int .u64 x1, .int .u64 x2] 52)
  have RA := rowR_empty (w.alloc (.cells #[.int .u64 x1, .int .u64 x2] 52))
  have RC := rowR_empty ((w.alloc (.cells #[.int .u64 x1, .int .u64 x2] 52)).alloc (.cells #[.int .u64 x1, .int .u64 x2] 52))
  have CB := isR_one ((w.alloc (.cells #[.int .u64 x1, .int .u64 x2] 52)).alloc (.cells #[] 52)) x1 x2 hx
  have CC := isR_one (w.alloc (.cells #[.int .u64 x1, .int .u64 x2] 52)) x1 x2 hx
  simp only [World.size_alloc] at RA RC CB CC
  have PA : PutSt w ((w.alloc (.cells #[.int .u64 x1, .int .u64 x2] 52)).alloc (.cells #[] 52)) (own (.slice (some ⟨w.heap.size + 1, 0, none⟩) 0 0)) x1 x2 := ⟨(P0.alloc _).kept, (P0.alloc _).box, by simp [own, Value.ownBlock]⟩
  have PC : PutSt w (((w.alloc (.cells #[.int .u64 x1, .int .u64 x2] 52)).alloc (.cells #[.int .u64 x1, .int .u64 x2] 52)).alloc (.cells #[] 52)) (own (.slice (some ⟨w.heap.size + 1 + 1, 0, none⟩) 0 0)) x1 x2 := ⟨((P0.alloc _).alloc _).kept, ((P0.alloc _).alloc _).box, by simp [own, Value.ownBlock]; omega⟩
  have FA := hide (And.intro RA (And.intro (I0.alloc (.cells #[] 52)) PA))
  have FB := hide (And.intro (RA.alloc (.cells #[.int .u64 x1, .int .u64 x2] 52)) (And.intro ((I0.alloc (.cells #[] 52)).alloc (.cells #[.int .u64 x1, .int .u64 x2] 52)) (And.intro (PA.alloc (.cells #[.int .u64 x1, .int .u64 x2] 52)) CB)))
  have FC := hide (And.intro RC (And.intro ((I0.alloc (.cells #[.int .u64 x1, .int .u64 x2] 52)).alloc (.cells #[] 52)) (And.intro PC (CC.alloc (.cells #[] 52)))))
  have hlen1 : Hid (([] : List Rc).length + l.length ≤ 1099511627776) := by show _ ≤ _; simp; omega
  have hlen2 : Hid (([] ++ l).length + [(x1, x2)].length ≤ 1099511627776) := by show _ ≤ _; simp; omega
  have HAB : Hid (∀ x ∈ own (Value.slice (some ⟨w.heap.size + 1 + 1, 0, none⟩) 1 1), x ∉ own (Value.slice (some ⟨w.heap.size + 1, 0, none⟩) 0 0)) := by intro x hx; simp [own, Value.ownBlock] at hx ⊢; omega
  have HAC : Hid (∀ x ∈ own (Value.slice (some ⟨w.heap.size + 1, 0, none⟩) 1 1), x ∉ own (Value.slice (some ⟨w.heap.size + 1 + 1, 0, none⟩) 0 0)) := by intro x hx; simp [own, Value.ownBlock] at hx ⊢; omega
  have c1 := P0.cell1
  have c2 := P0.cell2
  have c1a := PA.cell1
  have c2a := PA.cell2
  have HX := hide (And.intro hx (And.intro hr hmax))
  clear P0 I0 RA RC CB CC PA PC h
  go_enter Tryz.func68, Tryz.ntmps68
  go_wp2
  go_cut [5] from 7 (fun s5 wx => ∃ g4 cap4, s5 = .slice (some ⟨g4, 0, none⟩) (l.length + 1) cap4 ∧ Hid (RowR wx (.slice (some ⟨g4, 0, none⟩) (l.length + 1) cap4) (l ++ [(x1, x2)])) ∧ Hid (PutSt w wx (own (.slice (some ⟨g4, 0, none⟩) (l.length + 1) cap4)) x1 x2))
  case first =>
    go_region_law (first
      | (refine step_appendRc _ ?_ (.tmp 7) (.tmp 8) ?_ (.slice (some ⟨w.heap.size + 1, 0, none⟩) 0 0) v [] l ?_ ?_ ?_ ?_ ?_ ?_; rfl; rfl; rfl; exact FA.out.1; rfl; exact FA.out.2.1; exact hlen1.out; intro v3 w3 r3 k3 n3; have p3 := FA.out.2.2.next k3.undrew n3; have c3 := p3.cell1; have d3 := p3.cell2; have R3 := hide r3; have P3 := hide p3; have I3 := hide True.intro; clear r3 k3 n3 p3)
      | (refine step_appendRc _ ?_ (.tmp 7) (.tmp 8) ?_ (.slice (some ⟨w.heap.size + 1, 0, none⟩) 0 0) v [] l ?_ ?_ ?_ ?_ ?_ ?_; rfl; rfl; rfl; exact FB.out.1; rfl; exact FB.out.2.1; exact hlen1.out; intro v3 w3 r3 k3 n3; have p3 := FB.out.2.2.1.next k3.undrew n3; have c3 := p3.cell1; have d3 := p3.cell2; have R3 := hide r3; have P3 := hide p3; have I3 := hide (FB.out.2.2.2.kept k3.undrew HAB.out); clear r3 k3 n3 p3)
      | (refine step_appendRc _ ?_ (.tmp 7) (.tmp 8) ?_ (.slice (some ⟨w.heap.size + 1 + 1, 0, none⟩) 0 0) v [] l ?_ ?_ ?_ ?_ ?_ ?_; rfl; rfl; rfl; exact FC.out.1; rfl; exact FC.out.2.1; exact hlen1.out; intro v3 w3 r3 k3 n3; have p3 := FC.out.2.2.1.next k3.undrew n3; have c3 := p3.cell1; have d3 := p3.cell2; have R3 := hide r3; have P3 := hide p3; have I3 := hide (FC.out.2.2.2.kept k3.undrew HAC.out); clear r3 k3 n3 p3)
      | (refine step_appendRc _ ?_ (.tmp 9) (.tmp 11) ?_ v3 (.slice (some ⟨w3.heap.size, 0, none⟩) 1 1) ([] ++ l) [(x1, x2)] ?_ ?_ ?_ ?_ ?_ ?_; rfl; rfl; rfl; exact R3.out.alloc _; rfl; exact isR_one w3 x1 x2 HX.out.1; exact hlen2.out; intro v4 w4 r4 k4 n4; have p4 := (P3.out.alloc _).next k4 n4; have R4 := hide r4; have P4 := hide p4; clear r4 k4 n4 p4)
      | (refine step_appendRc _ ?_ (.tmp 9) (.tmp 11) ?_ v3 (.slice (some ⟨w.heap.size + 1 + 1, 0, none⟩) 1 1) ([] ++ l) [(x1, x2)] ?_ ?_ ?_ ?_ ?_ ?_; rfl; rfl; rfl; exact R3.out; rfl; exact I3.out; exact hlen2.out; intro v4 w4 r4 k4 n4; have p4 := P3.out.next k4 n4; have R4 := hide r4; have P4 := hide p4; clear r4 k4 n4 p4)
      | (refine step_appendRc _ ?_ (.tmp 9) (.tmp 11) ?_ v3 (.slice (some ⟨w.heap.size + 1, 0, none⟩) 1 1) ([] ++ l) [(x1, x2)] ?_ ?_ ?_ ?_ ?_ ?_; rfl; rfl; rfl; exact R3.out; rfl; exact I3.out; exact hlen2.out; intro v4 w4 r4 k4 n4; have p4 := P3.out.next k4 n4; have R4 := hide r4; have P4 := hide p4; clear r4 k4 n4 p4))
    all_goals
      go_wp2
      go_meet
      case rel =>
        have r4 := R4.out
        have p4 := P4.out
        rw [List.nil_append] at r4
        obtain ⟨g4, cap4, e4, q4⟩ := r4.blk (by simp)
        rw [List.length_append, List.length_singleton] at e4
        subst e4
        exact ⟨g4, cap4, rfl, r4, p4⟩
  case rest =>
    obtain ⟨g4, cap4, rfl, HR4, HP4⟩ := hcut
    have hw : IntKind.i64.wrap ((l.length : Int) + 1 - 1) = (l.length : Int) := by rw [i64_small _ (by omega) (by omega)]; omega
    clear FA FB FC HAB HAC c1 c2 c1a c2a hx hr hlen1 hlen2
    go_wp2
    go_loopw [6] (fun vk wr => ∃ (k : Nat) (y : Rc), vk = .int .i64 k ∧ k ≤ l.length ∧ Hid (RowR wr (.slice (some ⟨g4, 0, none⟩) (l.length + 1) cap4) (l.take k ++ y :: l.drop k)) ∧ Hid (∀ z ∈ l.drop k, ltR (x1, x2) z = true) ∧ Hid (PutSt w wr (own (.slice (some ⟨g4, 0, none⟩) (l.length + 1) cap4)) x1 x2)) (fun vk _ => numOf vk)
    case atStart => exact ⟨l.length, (x1, x2), by first | rfl | go_num, Nat.le_refl _, by rw [List.take_length, List.drop_length]; exact HR4, by simp [Hid], HP4⟩
    case round =>
      obtain ⟨k, y, rfl, hk, RR, HZ, PP⟩ := hrel
      have hkl : k < l.length + 1 := by omega
      by_cases h0 : k = 0
      · subst h0
        have c1 := PP.out.cell1
        have c2 := PP.out.cell2
        obtain ⟨s1, s2⟩ := RR.out.cell2 0 (by rw [put_len]; omega)
        have z1 := RR.out.frozenAt 0
        have z2 := RR.out.frozenAt 1
        simp only [Nat.zero_mul, Nat.zero_add] at s1 s2
        have RQ := RR
        have PQ := PP
        go_wp2
        go_quiet (fail)
        go_wp2
        refine bodyPost_ret (v := .slice (some ⟨g4, 0, none⟩) (l.length + 1) cap4) (by simp [results, Tryz.results68, go_sem]) rfl ⟨_, rfl, ?_, ?_, ?_⟩
        · have q := (RQ.out.kept ((Kept.refl [] wr).drewN nq) (fun _ _ => by simp)).stored 0 (by rw [put_len]; omega) (x1, x2) HX.out.1
          rw [put_end l _ _ _ (by omega), put_ins HX.out.2.1 (x1, x2) 0 (by omega) HZ.out (.inl rfl)] at q
          simpa using q
        · have k5 := PQ.out.kept.trans (fp' := [g4]) ((((Kept.refl [g4] _).drewN nq).setCell (p := ⟨g4, 0 * 2, none⟩) (.inl (by simp)) (.int .u64 x1)).setCell (p := ⟨g4, 0 * 2 + 1, none⟩) (.inl (by simp)) (.int .u64 x2)) (fun b hb => .inr (Nat.le_of_lt (PQ.out.new b (by simpa [own, Value.ownBlock] using hb))))
          have k6 := k5.below (Nat.le_refl _) (by simp)
          simpa using k6
        · intro b hb
          exact Nat.le_of_lt (PQ.out.new b hb)
      · obtain ⟨j, hj⟩ : ∃ j, k = j + 1 := ⟨k - 1, by omega⟩
        have hw1 : IntKind.i64.wrap ((k : Int) - 1) = (j : Int) := by rw [i64_small _ (by omega) (by omega)]; omega
        have hw2 : IntKind.i64.wrap (j : Int) = (j : Int) := i64_small _ (by omega) (by omega)
        have hjl : j < l.length + 1 := by omega
        have hk0 : (0 : Int) < (k : Int) := by omega
        have hk0' : 0 < k := by omega
        obtain ⟨u, hu⟩ : ∃ u, u = l[j]! := ⟨_, rfl⟩
        have hcs : ∀ W, Below wr.heap.size wr W → (W.cell? ⟨w.heap.size, 0, none⟩ = some (.int .u64 x1) ∧ W.cell? ⟨w.heap.size, 1, none⟩ = some (.int .u64 x2)) ∧ W.cell? ⟨g4, j * 2, none⟩ = some (.int .u64 u.1) ∧ W.cell? ⟨g4, j * 2 + 1, none⟩ = some (.int .u64 u.2) := fun W hb => by
          have p5 := PP.out.next (w4 := W) (fp' := []) (Kept.of_below hb) (fun _ hx => by simp at hx)
          have r5 := (RR.out.kept (Kept.of_below (fp := []) hb) (fun _ _ => by simp)).cell2 j (by rw [put_len]; omega)
          rw [put_at l y j k (by omega) hk, ← hu] at r5
          exact ⟨⟨p5.cell1, p5.cell2⟩, r5⟩
        have HU := hide (And.intro hu hj)
        obtain ⟨u1, u2⟩ := u
        dsimp only at hcs
        have HCS := hide hcs
        have c0 := (hcs wr (Below.refl _ _))
        obtain ⟨⟨c1, c2⟩, d1, d2⟩ := c0
        clear hu hj hcs
        cases ht : ltR (x1, x2) (u1, u2) with
        | true =>
          have LS : Hid (∀ W, Calls Tryz.prog 98 #[.agg #[.int .u64 x1, .int .u64 x2], .agg #[.int .u64 u1, .int .u64 u2]] W fun e w' => e = .returned (.bool true) ∧ Below W.heap.size W w') := fun W => by have := less_any x1 x2 u1 u2 W; rw [ht] at this; exact this
          have HT := hide ht
          clear ht
          go_wp2
          go_region_held (fun W => (W.cell? ⟨w.heap.size, 0, none⟩ = some (.int .u64 x1) ∧ W.cell? ⟨w.heap.size, 1, none⟩ = some (.int .u64 x2)) ∧ W.cell? ⟨g4, j * 2, none⟩ = some (.int .u64 u1) ∧ W.cell? ⟨g4, j * 2 + 1, none⟩ = some (.int .u64 u2)) (first | exact HCS.out _ (Below.refl _ _).drew | exact HCS.out _ b2') (first | (go_at_call 98; refine (LS.out _).mono ?_; rintro e w2 ⟨rfl, b2⟩; have b2' : Below wr.heap.size wr w2 := ⟨b2.os, b2.tape, b2.output, b2.size, b2.block⟩))
          have r5 := RR.out.kept (Kept.of_below (fp := []) b2') (fun _ _ => by simp)
          have p5 := PP.out.next (w4 := w2) (fp' := own (.slice (some ⟨g4, 0, none⟩) (l.length + 1) cap4)) (Kept.of_below b2') (Newly.refl _ _)
          obtain ⟨⟨e1, e2⟩, f1, f2⟩ := HCS.out w2 b2'
          obtain ⟨s1, s2⟩ := r5.cell2 k (by rw [put_len]; omega)
          have z1 := r5.frozenAt (k * 2)
          have z2 := r5.frozenAt (k * 2 + 1)
          have RQ := hide r5
          have PQ := hide p5
          clear r5 p5 b2 b2' HCS c1 c2 d1 d2
          go_wp2
          go_roundw
          case rel =>
            have hu := HU.out
            have q := RQ.out.stored k (by rw [put_len]; omega) (u1, u2) (by rw [hu.1, ← put_at l y j k (by omega) hk]; exact RQ.out.okAt j (by rw [put_len]; omega))
            have hpk : j < l.length := by omega
            refine ⟨j, (u1, u2), by first | rfl | go_num, by omega, ?_, ?_, ?_⟩
            · show RowR _ _ _
              have e : (l.take k ++ y :: l.drop k).set k (u1, u2) = l.take j ++ (u1, u2) :: l.drop j := by
                rw [hu.1, hu.2]
                exact put_stepH l y j hpk
              rw [e] at q
              exact q
            · intro z hz
              rw [List.drop_eq_getElem_cons hpk] at hz
              rcases List.mem_cons.1 hz with rfl | hz
              · rw [← getElem!_pos l j hpk, ← hu.1]
                exact HT.out
              · exact HZ.out z (by rw [hu.2]; exact hz)
            · refine PQ.out.next (fp' := own (.slice (some ⟨g4, 0, none⟩) (l.length + 1) cap4)) ?_ (Newly.refl _ _)
              exact ((Kept.refl _ _).setCell (.inl (by simp [own, Value.ownBlock])) _).setCell (.inl (by simp [own, Value.ownBlock])) _
          case measure =>
            have := HU.out
            simp [numOf]
            omega
        | false =>
          have LS : Hid (∀ W, Calls Tryz.prog 98 #[.agg #[.int .u64 x1, .int .u64 x2], .agg #[.int .u64 u1, .int .u64 u2]] W fun e w' => e = .returned (.bool false) ∧ Below W.heap.size W w') := fun W => by have := less_any x1 x2 u1 u2 W; rw [ht] at this; exact this
          have HT := hide ht
          clear ht
          go_wp2
          go_region_held (fun W => (W.cell? ⟨w.heap.size, 0, none⟩ = some (.int .u64 x1) ∧ W.cell? ⟨w.heap.size, 1, none⟩ = some (.int .u64 x2)) ∧ W.cell? ⟨g4, j * 2, none⟩ = some (.int .u64 u1) ∧ W.cell? ⟨g4, j * 2 + 1, none⟩ = some (.int .u64 u2)) (first | exact HCS.out _ (Below.refl _ _).drew | exact HCS.out _ b2') (first | (go_at_call 98; refine (LS.out _).mono ?_; rintro e w2 ⟨rfl, b2⟩; have b2' : Below wr.heap.size wr w2 := ⟨b2.os, b2.tape, b2.output, b2.size, b2.block⟩))
          have r5 := RR.out.kept (Kept.of_below (fp := []) b2') (fun _ _ => by simp)
          have p5 := PP.out.next (w4 := w2) (fp' := own (.slice (some ⟨g4, 0, none⟩) (l.length + 1) cap4)) (Kept.of_below b2') (Newly.refl _ _)
          obtain ⟨⟨e1, e2⟩, f1, f2⟩ := HCS.out w2 b2'
          obtain ⟨s1, s2⟩ := r5.cell2 k (by rw [put_len]; omega)
          have z1 := r5.frozenAt (k * 2)
          have z2 := r5.frozenAt (k * 2 + 1)
          have RQ := hide r5
          have PQ := hide p5
          clear r5 p5 b2 b2' HCS c1 c2 d1 d2
          go_wp2
          refine bodyPost_ret (v := .slice (some ⟨g4, 0, none⟩) (l.length + 1) cap4) (by simp [results, Tryz.results68, go_sem]) rfl ⟨_, rfl, ?_, ?_, ?_⟩
          · have hu := HU.out
            have q := RQ.out.stored k (by rw [put_len]; omega) (x1, x2) HX.out.1
            rw [put_end l _ _ _ (by omega), put_ins HX.out.2.1 (x1, x2) k (by omega) HZ.out (.inr (by rw [show k - 1 = j by omega, ← hu.1]; exact HT.out))] at q
            exact q
          · have k5 := PQ.out.kept.trans (fp' := [g4]) (((Kept.refl [g4] _).setCell (p := ⟨g4, k * 2, none⟩) (.inl (by simp)) (.int .u64 x1)).setCell (p := ⟨g4, k * 2 + 1, none⟩) (.inl (by simp)) (.int .u64 x2)) (fun b hb => .inr (Nat.le_of_lt (PQ.out.new b (by simpa [own, Value.ownBlock] using hb))))
            exact k5.below (Nat.le_refl _) (by simp)
          · intro b hb
            exact Nat.le_of_lt (PQ.out.new b hb)

end Go.Proofs.YtgpbanjammipiaaGreatDoor

namespace Go.Proofs.YtgpbanjammipiaaGreatDoor
open Go.RowKit Go.ChangeShapes Go.WideShapes Go.ChangeAt
variable {w w' : World}

/-- The row without its first. -/
theorem IsR.tail {b off n cap : Nat} {x : Rc} {l : List Rc} (h : IsR w (.slice (some ⟨b, off, none⟩) n cap) (x :: l)) : IsR w (.slice (some ⟨b, off + 2, none⟩) (n - 1) (cap - 1)) l := by
  obtain ⟨a, c, e, h1, h2, h3, h4⟩ := h
  simp only [Value.slice.injEq] at e
  obtain ⟨rfl, rfl, rfl⟩ := e
  simp only [List.length_cons] at h1
  refine ⟨some ⟨b, off + 2, none⟩, cap - 1, by simp, by omega, by simp, fun y hy j u hu => ?_, fun e he => h4 e (by simp [he])⟩
  simp only [Option.some.injEq] at hy
  subst hy
  have := h3 _ rfl (2 + j) u (by rw [flatR_cons, List.getElem?_append_right (by rw [encR_length]; omega), encR_length, Nat.add_sub_cancel_left]; exact hu)
  rw [Addr.add_lit] at this ⊢
  rw [← this, Nat.add_assoc]

theorem min100 (len : Nat) : ∃ m : Nat, m = min len 100 ∧ (∀ (ts : Array TypeId) (t : TypeId) (w : World), (Builtin.min_ ts t #[.int .i64 (len : Int), .int .i64 100]).run Tryz.prog w = .ok (.int .i64 (m : Int)) w) := by
  refine ⟨min len 100, rfl, fun ts t w => ?_⟩
  rw [run_min_int2]
  congr 2
  split <;> omega

theorem sortR_snoc (out l : List Rc) (i : Nat) (hi : i < l.length) : insR l[i]! (sortR out (l.take i)) = sortR out (l.take (i + 1)) := by
  rw [getElem!_pos l i hi, ← List.take_append_getElem hi, sortR_append]
  rfl

theorem sortR_length (out l : List Rc) : (sortR out l).length = out.length + l.length := by
  have := (sortR_perm out l).length_eq
  rw [List.length_append] at this
  exact this

theorem insR_zero {S : List Rc} (h : Rises S) (hok : ∀ e ∈ S, okR e) : insR (0, 0) S = (0, 0) :: S := by
  refine Rises.unique (insR_rises _ h) (List.pairwise_cons.2 ⟨fun y hy => ?_, h⟩) (insR_perm _ _)
  have := hok y hy
  rw [Bool.eq_false_iff, Ne, ltR_iff]
  unfold okR at this
  simp only
  omega

theorem sortR_last {l : List Rc} (hok : ∀ e ∈ l, okR e) : sortR [(18446744073709551615, 18446744073709551615)] l = sortR [] l ++ [(18446744073709551615, 18446744073709551615)] := by
  refine Rises.unique (sortR_rises (by simp [Rises]) l) ?_ ?_
  · unfold Rises
    rw [List.pairwise_append]
    refine ⟨sortR_rises (by simp [Rises]) l, by simp, fun a ha b hb => ?_⟩
    simp at hb
    subst hb
    have := hok a (by have := (sortR_perm [] l).subset ha; simpa using this)
    rw [Bool.eq_false_iff, Ne, ltR_iff]
    unfold okR at this
    simp only
    omega
  · refine (sortR_perm _ _).trans ?_
    refine List.Perm.trans ?_ ((sortR_perm [] l).append_right _).symm
    simp only [List.nil_append, List.singleton_append]
    exact (List.perm_append_singleton _ _).symm

theorem sortR_rev (l : List Rc) : sortR [] l.reverse = sortR [] l := by
  refine Rises.unique (sortR_rises (by simp [Rises]) _) (sortR_rises (by simp [Rises]) _) ?_
  refine (sortR_perm _ _).trans ((List.Perm.trans ?_ (sortR_perm _ _).symm))
  simp only [List.nil_append]
  exact List.reverse_perm l

theorem rev_at (l : List Rc) (n i k : Nat) (hn : n ≤ l.length) (hk : k + i + 1 = n) : l[k]! = ((l.take n).reverse)[i]! := by
  rw [getElem!_pos l k (by omega), getElem!_pos _ i (by simp; omega), List.getElem_reverse, List.getElem_take]
  congr 1
  simp
  omega

theorem rises_at {l : List Rc} (h : Rises l) (i j : Nat) (hij : i < j) (hj : j < l.length) : ltR l[j]! l[i]! = false := by
  rw [getElem!_pos l j hj, getElem!_pos l i (by omega)]
  exact List.pairwise_iff_getElem.1 h i j (by omega) hj hij

theorem IsK.read {w0 w : World} {a : Option Addr} {n cap : Nat} {l : List Bool} (h : IsK w0 (.slice a n cap) l) (hb : Below w0.heap.size w0 w) (j : Nat) (hj : j < l.length) :
    ∃ b off, a = some ⟨b, off, none⟩ ∧ w.cell? ⟨b, off + j, none⟩ = some (.bool (l[j]?.getD false)) := by
  obtain ⟨a', cap', e, h1, h2, h3⟩ := h.below hb
  simp only [Value.slice.injEq] at e
  obtain ⟨rfl, rfl, rfl⟩ := e
  cases a with
  | none => rw [(h2 rfl).1] at hj; simp at hj
  | some x =>
    obtain ⟨b, off, spot⟩ := x
    have hc := h3 _ rfl 0 (by omega)
    have hspot : spot = none := by simpa [Addr.add] using World.cell?_spot hc
    subst hspot
    have := h3 _ rfl j hj
    rw [Addr.add_lit] at this
    exact ⟨b, off, rfl, this⟩

set_option maxRecDepth 100000 in
set_option maxHeartbeats 2000000 in
theorem refSort_any {w : World} {v : Value} {l : List Rc} (h : IsR w v l) (hmax : l.length ≤ 100000) :
    Calls Tryz.prog 37 #[v] w fun e w' => ∃ v', e = .returned v' ∧ RowR w' v' (sortR [] l) ∧ Below w.heap.size w w' := by
  obtain ⟨a, cap, rfl, hcap⟩ := h.form
  have HI := hide h
  have R0 := hide (rowR_empty w)
  have B0 : Hid (Below w.heap.size w (w.alloc (.cells #[] 52))) := (Below.refl _ w).alloc (Nat.le_refl _) _
  clear h
  go_enter Tryz.func37, Tryz.ntmps37
  go_wp2
  go_loopw [3, 4] (fun vo vi wr => ∃ i : Nat, vi = .int .i64 i ∧ i ≤ l.length ∧ Hid (RowR wr vo (sortR [] (l.take i))) ∧ Hid (Below w.heap.size w wr)) (fun _ vi _ => l.length + 1 - numOf vi)
  case atStart => exact ⟨0, by first | rfl | go_num, Nat.zero_le _, R0.out, B0.out⟩
  case round =>
    obtain ⟨i, rfl, hi, HR, HB⟩ := hrel
    have hw1 : IntKind.i64.wrap ((i : Int) + 1) = (i : Int) + 1 := i64_small _ (by omega) (by omega)
    by_cases hil : i < l.length
    · obtain ⟨b, off, rfl, d1, d2⟩ := HI.out.read HB.out i hil
      obtain ⟨x, hx⟩ : ∃ x, x = l[i]! := ⟨_, rfl⟩
      rw [← hx] at d1 d2
      have hox : okR x := by rw [hx]; exact HI.out.okAt i hil
      have HX := hide (And.intro hx hox)
      clear hx hox
      obtain ⟨x1, x2⟩ := x
      simp only at d1 d2
      go_wp2_with fail
      refine (refPut_any HR.out.isR (sortR_rises (by simp [Rises]) _) (by rw [sortR_length]; simp; omega) x1 x2 HX.out.2).mono ?_
      rintro e w3 ⟨v3, rfl, r3, b3, n3⟩
      have R3 := hide r3
      have B3 := hide b3
      clear r3 b3 n3
      go_wp2
      go_roundw
      case rel =>
        refine ⟨i + 1, by go_num, by omega, ?_, below_then HB.out B3.out⟩
        have := R3.out
        rw [HX.out.1, sortR_snoc _ _ _ hil] at this
        exact this
      case measure => simp [numOf]; omega
    · obtain rfl : i = l.length := by omega
      go_wp2
      go_ret
      refine ⟨_, rfl, ?_, HB.out⟩
      have := HR.out
      rw [List.take_length] at this
      exact this

theorem insR_head {x : Rc} {S : List Rc} (h : Rises (x :: S)) : insR x S = x :: S :=
  Rises.unique (insR_rises _ (List.pairwise_cons.1 h).2) h (insR_perm _ _)

end Go.Proofs.YtgpbanjammipiaaGreatDoor

namespace Go.Proofs.YtgpbanjammipiaaGreatDoor
open Go.RowKit Go.Maps Go.ChangeShapes Go.WideShapes Go.ChangeAt

theorem IsR.nil (w : World) : IsR w (.slice none 0 0) [] := ⟨none, 0, rfl, Nat.le_refl _, fun _ => ⟨rfl, rfl⟩, by simp, by simp⟩
theorem IsR.lt {w : World} {v : Value} {l : List Rc} (h : IsR w v l) (hne : l ≠ []) : ∀ x ∈ own v, x < w.heap.size := h.low (List.length_pos_iff.2 hne)
/-- The slice v holds slices of these bytes. -/
def IsRR (w : World) (v : Value) (bss : List (List Rc)) : Prop :=
  ∃ (a : Option Addr) (cap : Nat), v = .slice a bss.length cap ∧ bss.length ≤ cap ∧ (a = none → bss = [] ∧ cap = 0) ∧
    ∀ x, a = some x → ∀ j, j < bss.length → ∃ u, w.cell? (x.add j) = some u ∧ IsR w u (bss[j]?.getD [])

theorem IsRR.nil (w : World) : IsRR w (.slice none 0 0) [] := ⟨none, 0, rfl, Nat.le_refl _, fun _ => ⟨rfl, rfl⟩, by simp⟩

theorem IsRR.below {w w' : World} {v : Value} {bss : List (List Rc)} (h : IsRR w v bss) (hb : Below w.heap.size w w') : IsRR w' v bss := by
  obtain ⟨a, cap, rfl, h1, h2, h3⟩ := h
  refine ⟨a, cap, rfl, h1, h2, fun x hx j hj => ?_⟩
  obtain ⟨u, hu, hi⟩ := h3 x hx j hj
  exact ⟨u, (World.cell?_of_block (w := w) (hb.block _ (World.block_lt_of_cell? w _ hu))).trans hu, hi.below hb⟩

theorem IsRR.form {w : World} {v : Value} {bss : List (List Rc)} (h : IsRR w v bss) : ∃ a cap, v = .slice a bss.length cap ∧ bss.length ≤ cap := by
  obtain ⟨a, cap, rfl, h1, _⟩ := h
  exact ⟨a, cap, rfl, h1⟩

/-- A slice that is not empty leads to memory. -/
theorem IsRR.opened {w : World} {v : Value} {bss : List (List Rc)} (h : IsRR w v bss) (h0 : 0 < bss.length) :
    ∃ b off cap, v = .slice (some ⟨b, off, none⟩) bss.length cap ∧ bss.length ≤ cap ∧ ∀ j, j < bss.length → ∃ a c, w.cell? ⟨b, off + j, none⟩ = some (.slice a (bss[j]?.getD []).length c) ∧ IsR w (.slice a (bss[j]?.getD []).length c) (bss[j]?.getD []) := by
  obtain ⟨a, cap, rfl, h1, h2, h3⟩ := h
  cases a with
  | none => simp [(h2 rfl).1] at h0
  | some x =>
    obtain ⟨b, off, spot⟩ := x
    obtain ⟨u, hc, _⟩ := h3 _ rfl 0 h0
    have hspot : spot = none := by simpa [Addr.add] using World.cell?_spot hc
    subst hspot
    refine ⟨b, off, cap, rfl, h1, fun j hj => ?_⟩
    obtain ⟨u, hu, hi⟩ := h3 _ rfl j hj
    rw [Addr.add_lit] at hu
    obtain ⟨a, c, rfl, _⟩ := hi.form
    exact ⟨a, c, hu, hi⟩

theorem Tryz.infoRecs : (Tryz.prog.info? 22).map (fun i => (i.zero, i.size, i.bytes)) = some (some (.slice none 0 0), 1, 24) := by kernel_rfl

/-- The slice v, nil or a row of its own, holds slices of these bytes. -/
def RowTr (w : World) (v : Value) (bss : List (List Rc)) : Prop :=
  ∃ us : List Value, w.ownsRow 0 22 1 v us.length us ∧ us.length = bss.length ∧ ∀ (j : Nat) u, us[j]? = some u → IsR w u (bss[j]?.getD []) ∧ (bss[j]?.getD [] ≠ [] → ∀ x ∈ own u, x ∉ own v)

theorem RowTr.nil (w : World) : RowTr w (.slice none 0 0) [] := ⟨[], World.ownsRow_nil w 0 _ _, rfl, by simp⟩

/-- A new row of no slices. -/
theorem RowTr.empty (w : World) : RowTr (w.alloc (.cells #[] 22)) (.slice (some ⟨w.heap.size, 0, none⟩) 0 0) [] :=
  ⟨[], World.ownsRow_made w #[] 0 (Nat.zero_le _) (by unfold maxLen; omega) rfl, rfl, by simp⟩

theorem RowTr.form {w : World} {v : Value} {bss : List (List Rc)} (h : RowTr w v bss) : (v = .slice none 0 0 ∧ bss = []) ∨ ∃ g cap, v = .slice (some ⟨g, 0, none⟩) bss.length cap := by
  obtain ⟨us, ⟨h1, h2⟩, hl, h3⟩ := h
  rcases h2 with ⟨rfl, h⟩ | ⟨g, cap, cur, rfl, hb, hgg, rest⟩
  · exact .inl ⟨rfl, List.eq_nil_of_length_eq_zero (by omega)⟩
  · exact .inr ⟨g, cap, by rw [hl]⟩

theorem RowTr.slice {w : World} {v : Value} {bss : List (List Rc)} (h : RowTr w v bss) : ∃ a cap, v = .slice a bss.length cap := by
  rcases h.form with ⟨rfl, rfl⟩ | ⟨g, cap, rfl⟩
  · exact ⟨_, _, rfl⟩
  · exact ⟨_, _, rfl⟩

theorem RowTr.lt {w : World} {v : Value} {bss : List (List Rc)} (h : RowTr w v bss) : ∀ x ∈ own v, x < w.heap.size := by
  obtain ⟨us, h1, _⟩ := h
  exact fun x hx => (h1.lt x (by simpa [own] using hx)).2

theorem RowTr.isBB {w : World} {v : Value} {bss : List (List Rc)} (h : RowTr w v bss) : IsRR w v bss := by
  obtain ⟨us, hr, hl, h3⟩ := h
  rcases hr.2 with ⟨rfl, h⟩ | ⟨g, cap, cur, rfl, hb, hgg, hn, hm, hs, ht⟩
  · obtain rfl : bss = [] := List.eq_nil_of_length_eq_zero (by omega)
    exact IsRR.nil w
  · refine ⟨some ⟨g, 0, none⟩, cap, by rw [hl], by omega, by simp, fun x hx j hj => ?_⟩
    simp only [Option.some.injEq] at hx
    subst hx
    have hju : j < us.length := by omega
    have hu := List.getElem?_eq_getElem hju
    exact ⟨us[j], World.ownsRow.cells hr (g := g) rfl j _ hu, (h3 j _ hu).1⟩

theorem RowTr.kept {fp : List Nat} {w w' : World} {v : Value} {bss : List (List Rc)} (h : RowTr w v bss) (hk : Kept fp w w') (hv : ∀ x ∈ own v, x ∉ fp) (ht : ∀ x < w.heap.size, x ∈ fp → x ∈ own v) : RowTr w' v bss := by
  obtain ⟨us, hr, hl, h3⟩ := h
  refine ⟨us, ownsRow_kept hr hk hv, hl, fun j u hu => ⟨(h3 j u hu).1.keptN hk fun hne x hx hxf => ?_, (h3 j u hu).2⟩⟩
  exact (h3 j u hu).2 hne x hx (ht x ((h3 j u hu).1.lt hne x hx) hxf)

theorem RowTr.below {w w' : World} {v : Value} {bss : List (List Rc)} (h : RowTr w v bss) (hb : Below w.heap.size w w') : RowTr w' v bss :=
  h.kept (Kept.of_below (fp := []) hb) (by simp) (by simp)

/-- 'append(row, text)': the text's slice has just been laid in a new block. -/
theorem RowTr.push {w : World} {v u : Value} {bss : List (List Rc)} {bs : List Rc} (h : RowTr w v bss) (hu : IsR w u bs) (hd : bs ≠ [] → ∀ x ∈ own u, x ∉ own v) (hlen : bss.length + 1 ≤ 1099511627776) (ty : TypeId) :
    ∃ v' w', (Builtin.append_ #[66, 66] ty #[v, .slice (some ⟨w.heap.size, 0, none⟩) 1 1]).run Tryz.prog (w.alloc (.cells #[u] 22)) = .ok v' w' ∧ RowTr w' v' (bss ++ [bs]) ∧ Kept (own v) w w' ∧ Newly w (own v) (own v') := by
  obtain ⟨i0, hi, hz0, hz1, hz2⟩ := info_parts Tryz.infoRecs
  have hvl := h.lt
  have h' := h.below ((Below.refl _ w).alloc (Nat.le_refl _) (.cells #[u] 22))
  have hu' := hu.below ((Below.refl _ w).alloc (Nat.le_refl _) (.cells #[u] 22))
  obtain ⟨us, hr, hl, h3⟩ := h'
  obtain ⟨ua, uc, rfl, _⟩ := hu.form
  obtain ⟨v', w', hrun, ho, hg, hn, hat⟩ := run_append_own_at (P := Tryz.prog) (w.alloc (.cells #[.slice ua bs.length uc] 22)) 0 66 ty 22 i0 (.slice none 0 0) 1 24 Tryz.underlying66 hi hz0 hz1 hz2 rfl (by decide) v us.length _ hr ⟨w.heap.size, 0, none⟩ 1 1 [.slice ua bs.length uc] rfl (cell_one_new _ _ _) (by simp [Value.oneCell']) (by unfold maxLen; omega) (by omega) (Nat.zero_le _)
  have hk : Kept (own v) (w.alloc (.cells #[.slice ua bs.length uc] 22)) w' := Kept.of_grown hg
  have hnew : Newly w (own v) (own v') := by
    intro y hy
    rcases hat with e | e
    · exact .inl (by simpa [own, e] using hy)
    · simp [own, e] at hy
      subst hy
      exact .inr (by omega)
  have hkk : Kept (own v) w w' := ((Kept.refl (own v) w).alloc _).trans hk (Newly.refl _ _)
  refine ⟨v', w', hrun, ⟨us ++ [.slice ua bs.length uc], by simpa using ho, by simp [hl], fun j y hy => ?_⟩, hkk, hnew⟩
  have old : ∀ (cs : List Rc) (y : Value), IsR w y cs → (cs ≠ [] → ∀ x ∈ own y, x ∉ own v) → IsR w' y cs ∧ (cs ≠ [] → ∀ x ∈ own y, x ∉ own v') := fun cs y hy hd => ⟨hy.keptN hkk hd, fun hne x hx hx' => by
    rcases hnew x hx' with h1 | h1
    · exact hd hne x hx h1
    · have := hy.lt hne x hx
      omega⟩
  by_cases hj : j < us.length
  · rw [List.getElem?_append_left hj] at hy
    rw [List.getElem?_append_left (by omega)]
    have hy1 := (h3 j y hy)
    refine ⟨hy1.1.keptN hk hy1.2, fun hne x hx hx' => ?_⟩
    rcases hat with e | e
    · exact hy1.2 hne x hx (by simpa [own, e] using hx')
    · simp [own, e] at hx'
      have := hy1.1.lt hne x hx
      simp at this
      omega
  · have hj2 : j = us.length := by
      have := (List.getElem?_eq_some_iff.1 hy).1
      simp at this
      omega
    subst hj2
    simp at hy
    subst hy
    rw [List.getElem?_append_right (by omega), hl, Nat.sub_self]
    exact old bs _ hu (fun hne => hd hne)

/-- A slot of the row is written. -/
theorem RowTr.stored {w : World} {g cap : Nat} {bss : List (List Rc)} (h : RowTr w (.slice (some ⟨g, 0, none⟩) bss.length cap) bss) (j : Nat) (hj : j < bss.length) (u : Value) (bs : List Rc) (hu : IsR w u bs) (hd : bs ≠ [] → ∀ x ∈ own u, x ≠ g) :
    RowTr (w.setCell ⟨g, j, none⟩ u) (.slice (some ⟨g, 0, none⟩) bss.length cap) (bss.set j bs) := by
  obtain ⟨us, hr, hl, h3⟩ := h
  have hk : Kept [g] w (w.setCell ⟨g, j, none⟩ u) := (Kept.refl _ _).setCell (.inl (by simp)) _
  rw [hl] at hr
  have hs := (World.ownsRow.stored hr j u).1
  refine ⟨us.set j u, by simpa [hl] using hs, by simp [hl], fun i y hy => ?_⟩
  have hi : i < us.length := by simpa using (List.getElem?_eq_some_iff.1 hy).1
  by_cases e : i = j
  · subst e
    rw [List.getElem?_set_self hi] at hy
    simp only [Option.some.injEq] at hy
    subst hy
    rw [List.getElem?_set_self (by omega)]
    exact ⟨hu.keptN hk (fun hne x hx => by simpa using hd hne x hx), fun hne x hx => by simpa [Value.ownBlock] using Ne.symm (hd hne x hx)⟩
  · rw [List.getElem?_set_ne (by omega)] at hy
    rw [List.getElem?_set_ne (by omega)]
    have h4 := h3 i y hy
    exact ⟨h4.1.keptN hk (fun hne x hx => by simpa [own, Value.ownBlock, eq_comm] using h4.2 hne x hx), h4.2⟩

section
variable {ops : Array Oper} {rest : List Oper} {o : Oper} {a : Act} {Q : Exit → Act → World → Prop}

theorem wp_pushT (w : World) (hgd : o.guard = none) (s x : Operand) (ho : o.op = .call { callee := .builtin .append, args := #[s, x], argTypes := #[66, 66] })
    (v u : Value) (bss : List (List Rc)) (bs : List Rc) (hs : a.eval s = v) (hrow : RowTr w v bss) (hx : a.eval x = .slice (some ⟨w.heap.size, 0, none⟩) 1 1) (hu : IsR w u bs) (hd : bs ≠ [] → ∀ x ∈ own u, x ∉ own v) (hlen : bss.length + 1 ≤ 1099511627776)
    (h : ∀ v' w', RowTr w' v' (bss ++ [bs]) → Kept (own v) w w' → Newly w (own v) (own v') → wpList Tryz.prog ops Q rest (a.put o.dst v') w') :
    wpList Tryz.prog ops Q (o :: rest) a (w.alloc (.cells #[u] 22)) := by
  refine wpList_plain hgd fun K hK => ?_
  obtain ⟨v', w', hr, h2, h3, h4⟩ := hrow.push hu hd hlen o.type
  unfold Oper.wp execOp
  simp only [ho, resolve, invoke, builtin, Sem.run_bind, Sem.run_pure, Result.andThen_ok, List.map_toArray, List.map_cons, List.map_nil, hs, hx, hr]
  exact hK _ _ (h v' w' h2 h3 h4)
end

theorem IsRR.values {w : World} {u : Value} {css : List (List Rc)} (h : IsRR w u css) :
    (u = .slice none 0 0 ∧ css = []) ∨ ∃ (a : Addr) (cap : Nat) (us : List Value), u = .slice (some a) css.length cap ∧ us.length = css.length ∧ (∀ (j : Nat) y, us[j]? = some y → w.cell? (a.add j) = some y ∧ IsR w y (css[j]?.getD [])) := by
  obtain ⟨a, cap, rfl, h1, h2, h3⟩ := h
  cases a with
  | none =>
    obtain ⟨rfl, rfl⟩ := h2 rfl
    exact .inl ⟨rfl, rfl⟩
  | some a =>
    right
    have key := h3 a rfl
    obtain ⟨f, hf⟩ : ∃ f : Nat → Value, ∀ i, i < css.length → w.cell? (a.add i) = some (f i) ∧ IsR w (f i) (css[i]?.getD []) := ⟨fun i => if hi : i < css.length then Classical.choose (key i hi) else undef, fun i hi => by simp only [hi, dif_pos]; exact Classical.choose_spec (key i hi)⟩
    refine ⟨a, cap, (List.range css.length).map f, rfl, by simp, fun j y hy => ?_⟩
    have hj : j < css.length := by simpa using (List.getElem?_eq_some_iff.1 hy).1
    simp [hj] at hy
    subst hy
    exact hf j hj

/-- 'append(row, texts...)': the texts were there when the row was made. -/
theorem RowTr.appendAll {w0 w : World} {v u : Value} {bss css : List (List Rc)} (h : RowTr w v bss) (hu : IsRR w0 u css) (hb : Below w0.heap.size w0 w) (hv : ∀ x ∈ own v, w0.heap.size ≤ x) (hlen : bss.length + css.length ≤ 1099511627776) (ty : TypeId) :
    ∃ v' w', (Builtin.append_ #[66, 66] ty #[v, u]).run Tryz.prog w = .ok v' w' ∧ RowTr w' v' (bss ++ css) ∧ Kept (own v) w w' ∧ Newly w (own v) (own v') := by
  obtain ⟨i0, hi, hz0, hz1, hz2⟩ := info_parts Tryz.infoRecs
  rcases hu.values with ⟨rfl, rfl⟩ | ⟨a, cap, news, rfl, hnl, hn⟩
  · obtain ⟨us, hr, hl, h3⟩ := h
    have hrun := run_append_owned_none (P := Tryz.prog) (w := w) 0 66 ty 22 i0 1 Tryz.underlying66 hi _ _ _ hr
    exact ⟨v, w, hrun, ⟨us, hr, by simpa using hl, by simpa using h3⟩, Kept.refl _ _, Newly.refl _ _⟩
  · obtain ⟨us, hr, hl, h3⟩ := h
    have cellw : ∀ (j : Nat) y, news[j]? = some y → w.cell? (a.add j) = some y := fun j y hy => (World.cell?_of_block (w := w0) (hb.block _ (World.block_lt_of_cell? w0 _ (hn j y hy).1))).trans (hn j y hy).1
    obtain ⟨v', w', hrun, ho, hg, hnil, hat⟩ := run_append_own_at (P := Tryz.prog) w 0 66 ty 22 i0 (.slice none 0 0) 1 24 Tryz.underlying66 hi hz0 hz1 hz2 rfl (by decide) v us.length _ hr a css.length cap news (by simpa using hnl) cellw (fun y hy => by
      obtain ⟨j, hj⟩ := List.getElem?_of_mem hy
      obtain ⟨a', c', rfl, _⟩ := (hn j y hj).2.form
      rfl) (by unfold maxLen; omega) (by omega) (Nat.zero_le _)
    have hk : Kept (own v) w w' := Kept.of_grown hg
    have hnew : Newly w (own v) (own v') := by
      intro y hy
      rcases hat with e | e
      · exact .inl (by simpa [own, e] using hy)
      · simp [own, e] at hy
        subst hy
        exact .inr (Nat.le_refl _)
    refine ⟨v', w', hrun, ⟨us ++ news, by simpa [hnl] using ho, by simp [hl, hnl], fun j y hy => ?_⟩, hk, hnew⟩
    have old : ∀ (cs : List Rc) (y : Value), IsR w y cs → (cs ≠ [] → ∀ x ∈ own y, x ∉ own v) → IsR w' y cs ∧ (cs ≠ [] → ∀ x ∈ own y, x ∉ own v') := fun cs y hy hd => ⟨hy.keptN hk hd, fun hne x hx hx' => by
      rcases hnew x hx' with h1 | h1
      · exact hd hne x hx h1
      · have := hy.lt hne x hx
        omega⟩
    by_cases hj : j < us.length
    · rw [List.getElem?_append_left hj] at hy
      rw [List.getElem?_append_left (by omega)]
      exact old _ y (h3 j y hy).1 (h3 j y hy).2
    · rw [List.getElem?_append_right (by omega)] at hy
      rw [List.getElem?_append_right (by omega), ← hl]
      have h4 := (hn _ y hy).2
      refine old _ y (h4.below hb) fun hne x hx hxv => ?_
      have h5 := h4.lt hne x hx
      have h6 := hv x hxv
      omega

theorem wp_appendT {ops : Array Oper} {rest : List Oper} {o : Oper} {a : Act} {Q : Exit → Act → World → Prop} (w0 w : World) (hgd : o.guard = none) (s x : Operand) (ho : o.op = .call { callee := .builtin .append, args := #[s, x], argTypes := #[66, 66] })
    (v u : Value) (bss css : List (List Rc)) (hs : a.eval s = v) (hrow : RowTr w v bss) (hx : a.eval x = u) (hu : IsRR w0 u css) (hb : Below w0.heap.size w0 w) (hv : ∀ x ∈ own v, w0.heap.size ≤ x) (hlen : bss.length + css.length ≤ 1099511627776)
    (h : ∀ v' w', RowTr w' v' (bss ++ css) → Kept (own v) w w' → Newly w (own v) (own v') → wpList Tryz.prog ops Q rest (a.put o.dst v') w') :
    wpList Tryz.prog ops Q (o :: rest) a w := by
  refine wpList_plain hgd fun K hK => ?_
  obtain ⟨v', w', hr, h2, h3, h4⟩ := hrow.appendAll hu hb hv hlen o.type
  unfold Oper.wp execOp
  simp only [ho, resolve, invoke, builtin, Sem.run_bind, Sem.run_pure, Result.andThen_ok, List.map_toArray, List.map_cons, List.map_nil, hs, hx, hr]
  exact hK _ _ (h v' w' h2 h3 h4)

theorem own_len (a : Option Addr) (n m c c' : Nat) : own (.slice a n c) = own (.slice a m c') := by cases a <;> rfl

/-- A slot of the row. -/
theorem RowTr.at {w : World} {g cap : Nat} {bss : List (List Rc)} (h : RowTr w (.slice (some ⟨g, 0, none⟩) bss.length cap) bss) (k : Nat) (hk : k < bss.length) :
    bss.length ≤ cap ∧ w.frozen? ⟨g, k, none⟩ = false ∧ ∃ a c, w.cell? ⟨g, k, none⟩ = some (.slice a (bss[k]?.getD []).length c) ∧ IsR w (.slice a (bss[k]?.getD []).length c) (bss[k]?.getD []) ∧ (bss[k]?.getD [] ≠ [] → ∀ x ∈ own (.slice a (bss[k]?.getD []).length c), x ≠ g) := by
  obtain ⟨us, hr, hl, h3⟩ := h
  rw [hl] at hr
  have hf := World.ownsRow.frozenAt hr k
  have hc : bss.length ≤ cap := by
    rcases hr.2 with ⟨h', _⟩ | ⟨g', cap', cur, h', _, _, hn, _⟩
    · simp at h'
    · simp at h'
      omega
  have hku : k < us.length := by omega
  have hu := List.getElem?_eq_getElem hku
  have hcell := World.ownsRow.cells hr (g := g) rfl k _ hu
  rw [Addr.add_lit, Nat.zero_add] at hcell
  obtain ⟨hi, hd⟩ := h3 k _ hu
  obtain ⟨a, c, he, _⟩ := hi.form
  rw [he] at hcell hi hd
  exact ⟨hc, hf, a, c, hcell, hi, fun hne x hx => by simpa [own, Value.ownBlock, eq_comm] using hd hne x hx⟩

/-- The row's front. -/
theorem RowTr.take {w : World} {a : Option Addr} {n cap : Nat} {bss : List (List Rc)} (h : RowTr w (.slice a n cap) bss) (m : Nat) (hm : m ≤ bss.length) : RowTr w (.slice a m cap) (bss.take m) := by
  obtain ⟨us, hr, hl, h3⟩ := h
  refine ⟨us.take m, ⟨by simp, ?_⟩, by simp; omega, fun j u hu => ?_⟩
  · have e : (us.take m).length = m := by simp; omega
    rw [e]
    rcases hr.2 with ⟨h', h0⟩ | ⟨g', cap', cur, h', hb, hg, hn, hcm, hs, ht⟩
    · simp only [Value.slice.injEq] at h'
      obtain ⟨rfl, rfl, rfl⟩ := h'
      obtain rfl : m = 0 := by omega
      exact .inl ⟨rfl, rfl⟩
    · simp only [Value.slice.injEq] at h'
      obtain ⟨rfl, rfl, rfl⟩ := h'
      refine .inr ⟨g', cap, cur, rfl, hb, hg, by omega, hcm, hs, ?_⟩
      rw [← ht, List.take_take]
      congr 1
      omega
  · have hj : j < m := by
      have := (List.getElem?_eq_some_iff.1 hu).1
      simp at this
      omega
    rw [List.getElem?_take_of_lt hj] at hu ⊢
    rw [own_len a m n cap cap]
    exact h3 j u hu

end Go.Proofs.YtgpbanjammipiaaGreatDoor

namespace Go.Proofs.YtgpbanjammipiaaGreatDoor
open Go.RowKit

/-- The value of two records of one key. -/
def combV (how a b : Int) : Int := if how = 1 then (if a + b < 18446744073709551616 then a + b else 18446744073709551615) else (if a ≤ b then a else b)

theorem u64_small (x : Int) (h0 : 0 ≤ x) (h1 : x < 18446744073709551616) : IntKind.u64.wrap x = x := by
  rw [IntKind.wrap_u64]
  omega

theorem combV_ok (how a b : Int) (ha : 0 ≤ a ∧ a < 18446744073709551616) (hb : 0 ≤ b ∧ b < 18446744073709551616) : 0 ≤ combV how a b ∧ combV how a b < 18446744073709551616 := by
  unfold combV
  split <;> split <;> omega

theorem minU (a b : Int) (ts : Array TypeId) (t : TypeId) (w : World) : (Builtin.min_ ts t #[.int .u64 a, .int .u64 b]).run Tryz.prog w = .ok (.int .u64 (if a ≤ b then a else b)) w := by
  rw [run_min_int2]
  congr 2
  split <;> split <;> omega

set_option maxRecDepth 100000 in
set_option maxHeartbeats 1000000 in
theorem combine_any (how a b : Int) (ha : 0 ≤ a ∧ a < 18446744073709551616) (hb : 0 ≤ b ∧ b < 18446744073709551616) (w : World) :
    Calls Tryz.prog 79 #[.int .i64 how, .int .u64 a, .int .u64 b] w fun e w' => e = .returned (.int .u64 (combV how a b)) ∧ w' = w := by
  have hw1 : IntKind.u64.wrap (18446744073709551615 - a) = 18446744073709551615 - a := u64_small _ (by omega) (by omega)
  by_cases hh : how = 1
  · subst hh
    by_cases hs : a + b < 18446744073709551616
    · have HV : Hid (combV 1 a b = a + b) := by show _ = _; simp [combV, hs]
      have hw2 : IntKind.u64.wrap (a + b) = a + b := u64_small _ (by omega) hs
      have hlt : ¬ (18446744073709551615 - a < b) := by omega
      go_enter Tryz.func79, Tryz.ntmps79
      go_wp2
      go_ret
      exact ⟨by rw [HV.out]; rfl, rfl⟩
    · have HV : Hid (combV 1 a b = 18446744073709551615) := by show _ = _; simp [combV, hs]
      have hlt : 18446744073709551615 - a < b := by omega
      go_enter Tryz.func79, Tryz.ntmps79
      go_wp2
      go_ret
      exact ⟨by rw [HV.out]; rfl, rfl⟩
  · have HV : Hid (combV how a b = if a ≤ b then a else b) := by show _ = _; simp [combV, hh]
    have hm := minU a b
    generalize (if a ≤ b then a else b) = m at hm HV
    go_enter Tryz.func79, Tryz.ntmps79
    go_wp2
    go_ret
    exact ⟨by rw [HV.out]; rfl, rfl⟩

set_option maxRecDepth 100000 in
set_option maxHeartbeats 1000000 in
theorem refCombine_any (how a b : Int) (ha : 0 ≤ a ∧ a < 18446744073709551616) (hb : 0 ≤ b ∧ b < 18446744073709551616) (w : World) :
    Calls Tryz.prog 38 #[.int .i64 how, .int .u64 a, .int .u64 b] w fun e w' => e = .returned (.int .u64 (combV how a b)) ∧ w' = w := by
  by_cases hh : how = 1
  · subst hh
    by_cases hs : a + b < 18446744073709551616
    · have HV : Hid (combV 1 a b = a + b) := by show _ = _; simp [combV, hs]
      have hw2 : IntKind.u64.wrap (a + b) = a + b := u64_small _ (by omega) hs
      have hlt : ¬ (a + b < a) := by omega
      go_enter Tryz.func38, Tryz.ntmps38
      go_wp2
      go_ret
      exact ⟨by rw [HV.out]; rfl, rfl⟩
    · have HV : Hid (combV 1 a b = 18446744073709551615) := by show _ = _; simp [combV, hs]
      have hw2 : IntKind.u64.wrap (a + b) = a + b - 18446744073709551616 := by rw [IntKind.wrap_u64]; omega
      have hlt : a + b - 18446744073709551616 < a := by omega
      go_enter Tryz.func38, Tryz.ntmps38
      go_wp2
      go_ret
      exact ⟨by rw [HV.out]; rfl, rfl⟩
  · have HV : Hid (combV how a b = if a ≤ b then a else b) := by show _ = _; simp [combV, hh]
    have hm := minU a b
    generalize (if a ≤ b then a else b) = m at hm HV
    go_enter Tryz.func38, Tryz.ntmps38
    go_wp2
    go_ret
    exact ⟨by rw [HV.out]; rfl, rfl⟩

/-- Is how one of the three? -/
def mayH (how : Int) : Bool := how == 0 || how == 1 || how == 2

set_option maxRecDepth 100000 in
theorem known_any (how : Int) (w : World) : Calls Tryz.prog 49 #[.int .i64 how] w fun e w' => e = .returned (.bool (mayH how)) ∧ w' = w := by
  go_enter Tryz.func49, Tryz.ntmps49
  go_wp2
  all_goals
    go_ret
    exact ⟨by first | rfl | (subst_vars; rfl), rfl⟩

end Go.Proofs.YtgpbanjammipiaaGreatDoor
