/-
  runs.merge, runs.Merge. A lemma file: no statement of the seat is proved here.
-/
import Derived.Deep.LoopGhost
import Derived.Test.YtbppjbdcgcmjiaaQNext
namespace Go.Proofs.Ytbppjbdcgcmjiaa
open Go.RowKit

theorem RowX.lowbx {bx : Nat → Prop} {w : World} {v : Value} {ls : List (List Rc)} (h : RowX bx w v ls) : RowX (fun x => w.heap.size ≤ x) w v ls := by
  obtain ⟨us, hr, hl, h3⟩ := h
  exact ⟨us, hr, hl, fun j u hu => ⟨(h3 j u hu).1, fun hne x hx => ⟨((h3 j u hu).2 hne x hx).1, Nat.not_le.2 ((h3 j u hu).1.lt hne x hx)⟩⟩⟩

theorem RowX.len {bx : Nat → Prop} {w : World} {a : Option Addr} {n cap : Nat} {ls : List (List Rc)} (h : RowX bx w (.slice a n cap) ls) : n = ls.length := by
  rcases h.form with ⟨e, rfl⟩ | ⟨g, c, e, _⟩
  · simp only [Value.slice.injEq] at e
    exact e.2.1
  · simp only [Value.slice.injEq] at e
    exact e.2.1

theorem flat_le {ls : List (List Rc)} {m : Nat} (h : ls.flatten.length ≤ m) : ∀ l ∈ ls, l.length ≤ m := by
  induction ls with
  | nil => simp
  | cons x ls ih =>
    intro l hl
    simp only [List.flatten_cons, List.length_append] at h
    rcases List.mem_cons.1 hl with rfl | hl
    · omega
    · exact ih (by omega) l hl

theorem flat_can_le (how : Int) (rows : List (List Rc)) : (rows.map (canR how)).flatten.length ≤ rows.flatten.length := by
  induction rows with
  | nil => simp
  | cons l rows ih =>
    have := canR_le how l
    simp only [List.map_cons, List.flatten_cons, List.length_append]
    omega

theorem Mrg.left {rows ls : List (List Rc)} {j : Nat} {S : List G.Rc} {P : List Rc} (h : Mrg rows j ls S P) : P.length + S.length + ls.flatten.length ≤ rows.flatten.length := by
  have := h.perm.length_eq
  simp only [List.length_append, List.length_map] at this
  omega

/-- A merge's state with its list, and the box of what was popped. -/
structure MgL (w0 w : World) (p rb g cap n : Nat) (ls : List (List Rc)) (S : List G.Rc) (fp : List Nat) (how : Int) (P : List Rc) (lv : Value) (b : Nat) (h : G.Rc) : Prop where
  st : MgSt w0 w p rb g cap n ls S fp
  list : RowR w lv (foldR how P)
  new : ∀ x ∈ own lv, w0.heap.size ≤ x
  apart : ∀ x ∈ own lv, x ∉ fp ∧ x ≠ rb ∧ x ≠ b
  box : w.heap[b]? = some (.cells #[.int .u64 h.1, .int .u64 h.2.1, .int .i64 h.2.2] 61 (0, 0))
  bn : w0.heap.size ≤ b
  bfp : b ∉ fp
  brb : b ≠ rb

section
variable {w0 w w' : World} {p rb g cap n : Nat} {ls : List (List Rc)} {S : List G.Rc} {fp : List Nat} {how : Int} {P : List Rc} {lv : Value} {b : Nat} {h : G.Rc}

theorem MgL.moved (H : MgL w0 w p rb g cap n ls S fp how P lv b h) {ls' : List (List Rc)} {S' : List G.Rc} {fp' : List Nat} (hs : MgSt w0 w' p rb g cap n ls' S' fp') (hk : Kept (g :: fp) w w') (hn : Newly w fp fp') : MgL w0 w' p rb g cap n ls' S' fp' how P lv b h := by
  have ho := H.st.old
  refine ⟨hs, H.list.kept hk (fun x hx hx' => ?_), H.new, fun x hx => ⟨fun hx' => ?_, (H.apart x hx).2⟩, hk.heap H.box (fun hx' => ?_), H.bn, fun hx' => ?_, H.brb⟩
  · rcases List.mem_cons.1 hx' with rfl | h1
    · have := H.new _ hx
      omega
    · exact (H.apart x hx).1 h1
  · rcases hn x hx' with h1 | h1
    · exact (H.apart x hx).1 h1
    · have := H.list.low x hx
      omega
  · rcases List.mem_cons.1 hx' with rfl | h1
    · have := H.bn
      omega
    · exact H.bfp h1
  · have := (Array.getElem?_eq_some_iff.1 H.box).1
    rcases hn b hx' with h1 | h1
    · exact H.bfp h1
    · omega

theorem MgL.added (H : MgL w0 w p rb g cap n ls S fp how P lv b h) {lv' : Value} {P' : List Rc} (hr : RowR w' lv' (foldR how P')) (hk : Kept (own lv) w w') (hn : Newly w (own lv) (own lv')) : MgL w0 w' p rb g cap n ls S fp how P' lv' b h := by
  have h0 := H.st.kept.size
  refine ⟨H.st.stay hk H.new (fun x hx hx' => (H.apart x hx').1 hx) (fun hx' => (H.apart rb hx').2.1 rfl), hr, fun x hx => ?_, fun x hx => ?_, hk.heap H.box (fun hx' => (H.apart b hx').2.2 rfl), H.bn, H.bfp, H.brb⟩
  · rcases hn x hx with h1 | h1
    · exact H.new x h1
    · omega
  · rcases hn x hx with h1 | h1
    · exact H.apart x h1
    · refine ⟨fun hx' => ?_, ?_, ?_⟩
      · have := H.st.heap.low x hx'
        omega
      · have := (Array.getElem?_eq_some_iff.1 H.st.box).1
        omega
      · have := (Array.getElem?_eq_some_iff.1 H.box).1
        omega

theorem MgL.stay (H : MgL w0 w p rb g cap n ls S fp how P lv b h) (hk : Kept [] w w') : MgL w0 w' p rb g cap n ls S fp how P lv b h :=
  H.moved (H.st.stay hk (by simp) (by simp) (by simp)) (hk.mono (by simp)) (Newly.refl _ _)

/-- A new box. -/
theorem MgL.newbox (H : MgL w0 w p rb g cap n ls S fp how P lv b h) (k : G.Rc) : MgL w0 (w.alloc (.cells #[.int .u64 k.1, .int .u64 k.2.1, .int .i64 k.2.2] 61)) p rb g cap n ls S fp how P lv w.heap.size k := by
  have H' := H.stay ((Kept.refl [] w).alloc (.cells #[.int .u64 k.1, .int .u64 k.2.1, .int .i64 k.2.2] 61))
  refine ⟨H'.st, H'.list, H'.new, fun x hx => ⟨(H.apart x hx).1, (H.apart x hx).2.1, ?_⟩, heap_alloc_new _ _, H.st.kept.size, fun hx => ?_, ?_⟩
  · have := H.list.low x hx
    omega
  · have := H.st.heap.low _ hx
    omega
  · have := (Array.getElem?_eq_some_iff.1 H.st.box).1
    omega

/-- The box is written. -/
theorem MgL.setbox (H : MgL w0 w p rb g cap n ls S fp how P lv b h) (k : G.Rc) : MgL w0 (((w.setCell ⟨b, 0, none⟩ (.int .u64 k.1)).setCell ⟨b, 1, none⟩ (.int .u64 k.2.1)).setCell ⟨b, 2, none⟩ (.int .i64 k.2.2)) p rb g cap n ls S fp how P lv b k := by
  have hk : Kept [b] w (((w.setCell ⟨b, 0, none⟩ (.int .u64 k.1)).setCell ⟨b, 1, none⟩ (.int .u64 k.2.1)).setCell ⟨b, 2, none⟩ (.int .i64 k.2.2)) := (((Kept.refl _ _).setCell (.inl (by simp)) _).setCell (.inl (by simp)) _).setCell (.inl (by simp)) _
  refine ⟨H.st.stay hk (fun x hx => by simp at hx; subst hx; exact H.bn) (fun x hx hx' => by simp at hx'; subst hx'; exact H.bfp hx) (by simp; exact fun e => H.brb e.symm), H.list.kept hk (fun x hx hx' => by simp at hx'; exact (H.apart x hx).2.2 hx'), H.new, H.apart, ?_, H.bn, H.bfp, H.brb⟩
  have := heap_setCell (heap_setCell (heap_setCell H.box 0 (.int .u64 k.1)) 1 (.int .u64 k.2.1)) 2 (.int .i64 k.2.2)
  simpa using this

theorem MgL.cells (H : MgL w0 w p rb g cap n ls S fp how P lv b h) : w.cell? ⟨b, 0, none⟩ = some (.int .u64 h.1) ∧ w.cell? ⟨b, 1, none⟩ = some (.int .u64 h.2.1) ∧ w.cell? ⟨b, 2, none⟩ = some (.int .i64 h.2.2) :=
  ⟨cell_of_heap H.box 0, cell_of_heap H.box 1, cell_of_heap H.box 2⟩
theorem MgL.frozen (H : MgL w0 w p rb g cap n ls S fp how P lv b h) (j : Nat) : w.frozen? ⟨b, j, none⟩ = false := frozen_of_heap H.box j
end

/-- At the head of the loop: the first has been popped, or there is none. -/
def MgAt (w0 wr : World) (p rb g cap n : Nat) (rows : List (List Rc)) (how : Int) (P : List Rc) (lv : Value) (b : Nat) (is : Bool) : Prop :=
  ∃ ls S fp h, MgL w0 wr p rb g cap n ls S fp how P lv b h ∧ G.okR h ∧ ((is = true ∧ Mrg rows rows.length ls (h :: S) P ∧ G.Rises (h :: S)) ∨ (is = false ∧ S = [] ∧ Mrg rows rows.length ls [] P))

/-- The first is popped, or there is none. -/
theorem MgSt.pop {w0 w : World} {p rb g cap n : Nat} {ls : List (List Rc)} {S : List G.Rc} {fp : List Nat} (H : MgSt w0 w p rb g cap n ls S fp) (hS : S.length ≤ 100000) :
    Calls Try.prog 36 #[.pointer (some ⟨p, 0, none⟩)] w fun e w' => ∃ (k1 k2 k3 : Int) (is : Bool), e = .returned (.tuple #[.agg #[.int .u64 k1, .int .u64 k2, .int .i64 k3], .bool is]) ∧
      G.okR (k1, k2, k3) ∧ ∃ S' fp', MgSt w0 w' p rb g cap n ls S' fp' ∧ Kept fp w w' ∧ Newly w fp fp' ∧ ((is = true ∧ S = (k1, k2, k3) :: S') ∨ (is = false ∧ S = [] ∧ S' = [])) := by
  cases S with
  | nil =>
    refine H.heap.pop_nil.mono ?_
    rintro e w' ⟨rfl, hk⟩
    exact ⟨0, 0, 0, false, rfl, by simp [G.okR], [], fp, H.stay hk (by simp) (by simp) (by simp), hk.mono (by simp), Newly.refl _ _, .inr ⟨rfl, rfl, rfl⟩⟩
  | cons k S =>
    obtain ⟨k1, k2, k3⟩ := k
    have hok := H.heap.ok (k1, k2, k3) (by simp)
    refine (H.heap.pop_cons (by simp at hS; omega)).mono ?_
    rintro e w' ⟨rfl, fp', h1, h2, h3⟩
    exact ⟨k1, k2, k3, true, rfl, hok, S, fp', H.heaped h1 h2 h3, h2, h3, .inl ⟨rfl, rfl⟩⟩

/-- The list is none yet. -/
theorem MgL.first {w0 w : World} {p rb g cap n : Nat} {ls : List (List Rc)} {S : List G.Rc} {fp : List Nat} {how : Int} (H : MgSt w0 w p rb g cap n ls S fp) (k : G.Rc) :
    MgL w0 (w.alloc (.cells #[.int .u64 k.1, .int .u64 k.2.1, .int .i64 k.2.2] 61)) p rb g cap n ls S fp how [] (.slice none 0 0) w.heap.size k := by
  refine ⟨H.stay (fq := []) ((Kept.refl [] w).alloc _) (by simp) (by simp) (by simp), RowR.nil _, by simp [own, Value.ownBlock], by simp [own, Value.ownBlock], heap_alloc_new _ _, H.kept.size, fun hx => ?_, ?_⟩
  · have := H.heap.low _ hx
    omega
  · have := (Array.getElem?_eq_some_iff.1 H.box).1
    omega

set_option maxRecDepth 100000 in
set_option maxHeartbeats 4000000 in
theorem merge_any {w0 : World} {g cap n : Nat} {rows : List (List Rc)} (how : Int) (hr : RowX (fun _ => False) w0 (.slice (some ⟨g, 0, none⟩) n cap) rows) (hrise : ∀ i : Nat, Rises (rows[i]?.getD [])) (hls : rows.length ≤ 10000) (htot : rows.flatten.length ≤ 100000) :
    Calls Try.prog 27 #[.slice (some ⟨g, 0, none⟩) n cap, .int .i64 how] w0 fun e w' => ∃ v', e = .returned v' ∧ RowR w' v' (foldR how (sortR [] rows.flatten)) ∧ Kept [g] w0 w' ∧ (∀ x ∈ own v', w0.heap.size ≤ x) := by
  have hn := hr.len
  have hg : g < w0.heap.size := hr.lt g (by simp [own, Value.ownBlock])
  have st0 : MgSt w0 ((w0.alloc (.cells #[.slice (some ⟨g, 0, none⟩) n cap] 28)).alloc (.cells #[.slice none 0 0, .slice none 0 0] 58)) (w0.heap.size + 1) w0.heap.size g cap n rows [] [w0.heap.size + 1] := by
    have hp := G.Hp.new (w0.alloc (.cells #[.slice (some ⟨g, 0, none⟩) n cap] 28))
    rw [World.size_alloc] at hp
    have k : ∀ fq, Kept fq w0 ((w0.alloc (.cells #[.slice (some ⟨g, 0, none⟩) n cap] 28)).alloc (.cells #[.slice none 0 0, .slice none 0 0] 58)) := fun fq => ((Kept.refl _ _).alloc _).alloc _
    refine ⟨hp, hr.lowbx.kept (k []) (by simp) (by simp), ?_, by simp, Nat.le_refl _, by simp, hg, k _⟩
    exact ((Kept.refl [] _).alloc _).heap (heap_alloc_new _ _) (by simp)
  have ST0 := hide (And.intro st0 (Mrg.start hrise))
  have HN := hide hn
  have hn1 : n ≤ 10000 := by omega
  clear st0 hr hn
  go_enter Try.func27, Try.ntmps27
  go_wp2
  go_loopw [14] (fun v wr => ∃ (j : Nat) (ls : List (List Rc)) (S : List G.Rc) (fp : List Nat), v = .int .i64 j ∧ j ≤ n ∧ Hid (MgSt w0 wr (w0.heap.size + 1) w0.heap.size g cap n ls S fp ∧ Mrg rows j ls S [])) (fun v _ => n + 1 - numOf v)
  case atStart => exact ⟨0, rows, [], [w0.heap.size + 1], rfl, Nat.zero_le _, ST0.out⟩
  case round =>
    obtain ⟨j, ls, S, fp, rfl, hj, HM⟩ := hrel
    have hw1 : IntKind.i64.wrap ((j : Int) + 1) = (j : Int) + 1 := i64_small _ (by omega) (by omega)
    by_cases hjn : j < n
    · have hjn' : (j : Int) < (n : Int) := by omega
      have hlen := HM.out.2.len
      have hleft := HM.out.2.left
      have NX := hide (next_any HM.out.1 j (by rw [hlen, ← HN.out]; exact hjn) (by omega) (flat_le (by omega)) (by omega))
      have HLEN := hide hlen
      clear hlen hleft
      go_wp2_with fail
      refine NX.out.mono ?_
      rintro e w3 ⟨rfl, S', ls', fp', m3, n3, k3, w3n⟩
      have H3 := hide (And.intro m3 n3)
      clear m3 n3 k3 w3n NX
      go_wp2
      go_roundw
      case rel =>
        refine ⟨j + 1, ls', S', fp', by go_num, by omega, H3.out.1, HM.out.2.next (by rw [← HN.out]; exact hjn) H3.out.2 (fun k hk => by omega) (by simp)⟩
      case measure => simp [numOf]; omega
    · obtain rfl : j = n := by omega
      have hle : ¬ ((j : Int) < (j : Int)) := by omega
      obtain ⟨m1, m2⟩ := HM.out
      have hcnt := m2.count
      have PO := hide (m1.pop (by simp only [List.length_nil] at hcnt; omega))
      have hrs := m1.heap.rises
      have M2 := hide (And.intro m2 hrs)
      clear ST0 m1 m2 HM hcnt hrs
      go_wp2_with fail
      refine PO.out.mono ?_
      rintro e w1 ⟨k1, k2, k3, is, rfl, hok, S1, fp1, n1, _, _, hc⟩
      have L0 : MgAt w0 (w1.alloc (.cells #[.int .u64 k1, .int .u64 k2, .int .i64 k3] 61)) (w0.heap.size + 1) w0.heap.size g cap j rows how [] (.slice none 0 0) w1.heap.size is := by
        refine ⟨ls, S1, fp1, (k1, k2, k3), MgL.first n1 (k1, k2, k3), hok, ?_⟩
        obtain ⟨m2, hrs⟩ := M2.out
        rw [HN.out] at m2
        rcases hc with ⟨rfl, rfl⟩ | ⟨rfl, rfl, rfl⟩
        · exact .inl ⟨rfl, m2, hrs⟩
        · exact .inr ⟨rfl, rfl, m2⟩
      have L0' := hide L0
      clear PO M2 n1 hc L0 hok
      go_wp2
      go_loopg [8, 9, 10] (rows.flatten.length + 1) (fun k lv fb iv wr => ∃ (P : List Rc) (b : Nat) (is : Bool), fb = .pointer (some ⟨b, 0, none⟩) ∧ iv = .bool is ∧ k + P.length = rows.flatten.length + 1 ∧ Hid (MgAt w0 wr (w0.heap.size + 1) w0.heap.size g cap j rows how P lv b is))
      case atStart => exact ⟨[], w1.heap.size, is, rfl, rfl, rfl, L0'.out⟩
      case round =>
        obtain ⟨P, b, is2, rfl, rfl, hkP, HA⟩ := hrel
        cases is2 with
        | true =>
          obtain ⟨ls2, S2, fp2, ⟨h1, h2, h3⟩, ml, okh, hc⟩ := HA.out
          have hc' : Mrg rows rows.length ls2 ((h1, h2, h3) :: S2) P ∧ G.Rises ((h1, h2, h3) :: S2) := by
            rcases hc with ⟨_, a1, a2⟩ | ⟨h, _⟩
            · exact ⟨a1, a2⟩
            · cases h
          obtain ⟨mr, hrs⟩ := hc'
          obtain ⟨a1, a2, _⟩ := mr.run (h1, h2, h3) (by simp)
          obtain ⟨i, hi⟩ : ∃ i : Nat, h3 = (i : Int) := ⟨h3.toNat, by simp only at a1; omega⟩
          subst hi
          simp only at a1 a2
          have hcnt := mr.left
          simp only [List.length_cons] at hcnt
          have hlen := mr.len
          obtain ⟨c0, c1, c2⟩ := ml.cells
          dsimp only at c0 c1 c2
          have AD := hide (add_any ml.list (by have := foldR_le how P; omega) how h1 h2 ⟨okh.1, okh.2.1⟩)
          have ML := hide ml
          have MR := hide (And.intro mr hrs)
          have OKH := hide okh
          have HC := hide (And.intro a2 (And.intro hcnt hlen))
          clear ml okh hc mr hrs a1 a2 hcnt hlen HA L0'
          go_wp2_with fail
          refine AD.out.mono ?_
          rintro e w3 ⟨lv3, rfl, r3, k3, n3⟩
          rw [← foldR_snocL] at r3
          have ml3 := ML.out.added r3 k3 n3
          obtain ⟨d0, d1, d2⟩ := ml3.cells
          dsimp only at d0 d1 d2
          have NX := hide (next_any ml3.st i (by have := HC.out; omega) (by have := HC.out; omega) (flat_le (by have := HC.out; omega)) (by have := HC.out; omega))
          have ML3 := hide ml3
          clear r3 k3 n3 ml3 AD c0 c1 c2
          go_wp2_with fail
          refine NX.out.mono ?_
          rintro e w4 ⟨rfl, S', ls', fp', m4, nx4, k4, n4⟩
          have ml4 := ML3.out.moved m4 k4 n4
          have mr4 := MR.out.1.pop MR.out.2 nx4
          obtain ⟨e0, e1, e2⟩ := ml4.cells
          dsimp only at e0 e1 e2
          have ml5 := ml4.newbox (h1, h2, (i : Int))
          have hcnt4 := mr4.left
          have hrs4 := ml5.st.heap.rises
          have PO := hide (ml5.st.pop (by omega))
          have ML5 := hide ml5
          have MR4 := hide (And.intro mr4 hrs4)
          clear m4 nx4 k4 n4 ml4 mr4 ml5 hcnt4 hrs4 NX d0 d1 d2
          go_wp2_with fail
          refine PO.out.mono ?_
          rintro e w6 ⟨q1, q2, q3, is3, rfl, hok6, S6, fp6, m6, k6, n6, hc6⟩
          have ml6 := ML5.out.moved m6 (k6.mono (fun x hx => List.mem_cons_of_mem _ hx)) n6
          obtain ⟨f0, f1, f2⟩ := ml6.cells
          dsimp only at f0 f1 f2
          have z0 := ml6.frozen 0
          have z1 := ml6.frozen 1
          have z2 := ml6.frozen 2
          have L7 : Hid (MgAt w0 (((w6.setCell ⟨w4.heap.size, 0, none⟩ (.int .u64 q1)).setCell ⟨w4.heap.size, 1, none⟩ (.int .u64 q2)).setCell ⟨w4.heap.size, 2, none⟩ (.int .i64 q3)) (w0.heap.size + 1) w0.heap.size g cap j rows how (P ++ [hdR (h1, h2, (i : Int))]) lv3 w4.heap.size is3) := by
            refine ⟨ls', S6, fp6, (q1, q2, q3), ml6.setbox (q1, q2, q3), hok6, ?_⟩
            obtain ⟨m2, hr2⟩ := MR4.out
            rcases hc6 with ⟨rfl, rfl⟩ | ⟨rfl, rfl, rfl⟩
            · exact .inl ⟨rfl, m2, hr2⟩
            · exact .inr ⟨rfl, rfl, m2⟩
          clear m6 k6 n6 hc6 ml6 MR4 PO hok6 e0 e1 e2
          go_wp2
          go_roundg (gk - 1)
          case measure => have := HC.out.2.1; omega
          case rel => exact ⟨_, w4.heap.size, is3, rfl, rfl, by have := HC.out.2.1; rw [List.length_append]; simp only [List.length_cons, List.length_nil]; omega, L7.out⟩
        | false =>
          go_wp2
          go_ret
          obtain ⟨ls2, S2, fp2, h, ml, _, hc⟩ := HA.out
          rcases hc with ⟨h, _⟩ | ⟨_, rfl, mr⟩
          · cases h
          · have e := mr.done
            exact ⟨_, rfl, by rw [← e]; exact ml.list, ml.st.kept, ml.new⟩

/-- 'make([][]api.Rec, n)'. -/
theorem wp_makeX {ops : Array Oper} {rest : List Oper} {o : Oper} {a : Act} {Q : Exit → Act → World → Prop} (w : World) (hg : o.guard = none) (x y : Operand) (hop : o.op = Op.makeSlice 28 x y) (n : Nat) (L C : Int)
    (hl : a.eval x = .int .i64 L) (hc : a.eval y = .int .i64 C) (hL : L = (n : Int)) (hC : C = (n : Int)) (hn : n ≤ 100000)
    (h : ∀ w', RowX (fun _ => False) w' (.slice (some ⟨w.heap.size, 0, none⟩) n n) (List.replicate n []) → Below w.heap.size w w' → w.heap.size < w'.heap.size → wpList Try.prog ops Q rest (a.put o.dst (.slice (some ⟨w.heap.size, 0, none⟩) n n)) w') :
    wpList Try.prog ops Q (o :: rest) a w := by
  obtain ⟨i0, hi, hz0, hz1, hz2⟩ := info_parts Try.infoRecs
  refine wpList_make_full w hg x y 28 hop 0 22 i0 (.slice none 0 0) 1 Try.underlying28 hi hz0 hz1 .i64 .i64 L C n hl hc hL hC (by rw [hz2]; omega) (by unfold maxLen; omega) (Nat.zero_le _) ?_
  intro w' hown hgr
  have e : (madeCells (Value.slice none 0 0).cells (n * 1)).toList = List.replicate n (.slice none 0 0) := by
    simp [madeCells, Value.cells]
    apply List.ext_getElem?
    intro i
    by_cases hi : i < n
    · simp [hi, Nat.mod_one]
    · simp [hi]
  rw [e] at hown
  have hlt : w.heap.size < w'.heap.size := (World.ownsRow.lt hown w.heap.size rfl).2
  refine h w' ⟨List.replicate n (.slice none 0 0), by simpa using hown, by simp, fun j u hu => ?_⟩ ⟨hgr.os, hgr.tape, hgr.output, hgr.size, fun k hk => hgr.block k hk (by simp)⟩ hlt
  have hj : j < n := by simpa using (List.getElem?_eq_some_iff.1 hu).1
  simp [hj] at hu
  subst hu
  simp [hj]
  exact IsR.nil w'

/-- The first i rows, sorted each, behind them none. -/
def begunX (how : Int) (rows : List (List Rc)) (i : Nat) : List (List Rc) := (rows.take i).map (canR how) ++ List.replicate (rows.length - i) []
theorem begunX_zero (how : Int) (rows : List (List Rc)) : begunX how rows 0 = List.replicate rows.length [] := by simp [begunX]
theorem begunX_all (how : Int) (rows : List (List Rc)) : begunX how rows rows.length = rows.map (canR how) := by simp [begunX]
theorem begunX_length (how : Int) (rows : List (List Rc)) (i : Nat) (hi : i ≤ rows.length) : (begunX how rows i).length = rows.length := by simp [begunX]; omega
theorem begunX_set (how : Int) (rows : List (List Rc)) (i : Nat) (hi : i < rows.length) : (begunX how rows i).set i (canR how (rows[i]?.getD [])) = begunX how rows (i + 1) := by
  have e : ((rows.take i).map (canR how)).length = i := by simp; omega
  unfold begunX
  rw [List.set_append_right _ _ (by omega), e, Nat.sub_self, show rows.length - i = (rows.length - (i + 1)) + 1 by omega, List.replicate_succ, List.set_cons_zero, List.take_succ_eq_append_getElem hi, List.map_append, List.append_assoc, List.getElem?_eq_getElem hi]
  rfl

theorem IsRR.ok {w : World} {v : Value} {rows : List (List Rc)} (h : IsRR w v rows) : ∀ l ∈ rows, ∀ e ∈ l, okR e := by
  intro l hl
  obtain ⟨j, hj⟩ := List.getElem?_of_mem hl
  have hjl := (List.getElem?_eq_some_iff.1 hj).1
  obtain ⟨_, _, _, _, _, h4⟩ := h.opened (by omega)
  obtain ⟨_, _, _, h5⟩ := h4 j hjl
  rw [hj] at h5
  obtain ⟨_, _, _, _, _, _, h6⟩ := h5
  exact h6

set_option maxRecDepth 100000 in
set_option maxHeartbeats 4000000 in
/-- Merge of rows. -/
theorem mergeM_any {v : Value} {rows : List (List Rc)} {w : World} (how : Int) (hv : IsRR w v rows) (hls : rows.length ≤ 10000) (htot : rows.flatten.length ≤ 100000) (hh : mayH how = true) :
    Calls Try.prog 16 #[v, .int .i64 how] w fun e w' => ∃ v', e = .returned (.tuple #[v', .int .i64 0]) ∧ RowR w' v' (canR how rows.flatten) ∧ Below w.heap.size w w' ∧ (∀ x ∈ own v', w.heap.size ≤ x) := by
  have KN := hide (fun w => known_any how w)
  rw [hh] at KN
  obtain ⟨a, cap, rfl, hcap⟩ := hv.form
  have HV := hide hv
  clear hv
  go_enter Try.func16, Try.ntmps16
  go_wp2_with fail
  refine (KN.out _).mono ?_
  rintro e w1 ⟨rfl, rfl⟩
  obtain ⟨n, hn⟩ : ∃ n, n = rows.length := ⟨_, rfl⟩
  rw [← hn] at hls hcap
  have HN := hide hn
  rw [← hn]
  clear hn
  go_wp2_with (at_make; refine wp_makeX _ rfl _ _ rfl n _ _ rfl rfl rfl rfl (by omega) ?_; intro w2 r2 b2 s2)
  have R2 : Hid (RowX (fun _ => False) w2 (.slice (some ⟨w1.heap.size, 0, none⟩) n n) (begunX how rows 0) ∧ Below w1.heap.size w1 w2 ∧ w1.heap.size < w2.heap.size) := by
    refine ⟨?_, b2, s2⟩
    rw [begunX_zero, ← HN.out]
    exact r2
  clear r2 b2 s2
  go_wp2
  go_loopw [17] (fun v wr => ∃ i : Nat, v = .int .i64 i ∧ i ≤ n ∧ Hid (RowX (fun _ => False) wr (.slice (some ⟨w1.heap.size, 0, none⟩) n n) (begunX how rows i) ∧ Below w1.heap.size w1 wr ∧ w1.heap.size < wr.heap.size)) (fun v _ => n + 1 - numOf v)
  case atStart => exact ⟨0, rfl, Nat.zero_le _, R2.out⟩
  case round =>
    obtain ⟨i, rfl, hi, HR⟩ := hrel
    have hw1 : IntKind.i64.wrap ((i : Int) + 1) = (i : Int) + 1 := i64_small _ (by omega) (by omega)
    by_cases hin : i < n
    · have hin' : (i : Int) < (n : Int) := by omega
      have hil : i < rows.length := by rw [← HN.out]; exact hin
      obtain ⟨b, off, cap', e, _, hcells⟩ := (HV.out.below HR.out.2.1).opened (by omega)
      simp only [Value.slice.injEq] at e
      obtain ⟨rfl, _, rfl⟩ := e
      obtain ⟨ai, ci, hc, hI⟩ := hcells i hil
      have hle : (rows[i]?.getD []).length ≤ 1000000 := by
        have := flat_le htot _ (List.getElem_mem hil)
        rw [List.getElem?_eq_getElem hil]
        show rows[i].length ≤ _
        omega
      have RU := hide (run_any _ (rows[i]?.getD []) how wr hI hle)
      clear hcells hI hle
      generalize (rows[i]?.getD []).length = li at hc RU
      go_wp2_with fail
      refine RU.out.mono ?_
      rintro e w3 ⟨v3, rfl, r3, b3, n3⟩
      obtain ⟨a3, m3, c3, e3⟩ : ∃ a m c, v3 = .slice a m c := by
        rcases r3.form with ⟨rfl, _⟩ | ⟨g, c, rfl, _⟩
        · exact ⟨_, _, _, rfl⟩
        · exact ⟨_, _, _, rfl⟩
      subst e3
      obtain ⟨h1, h2, h3⟩ := HR.out
      have h1' := h1.below b3
      have hf := (h1'.at i (by rw [begunX_length _ _ _ (by omega)]; exact hil)).2.2.1
      have hcell : (w3.cell? ⟨w1.heap.size, i, none⟩).isSome = true := by
        obtain ⟨_, _, _, _, _, h4, _⟩ := h1'.at i (by rw [begunX_length _ _ _ (by omega)]; exact hil)
        rw [h4]
        rfl
      obtain ⟨u3, hu3⟩ := Option.isSome_iff_exists.1 hcell
      have F : Hid (RowX (fun _ => False) (w3.setCell ⟨w1.heap.size, i, none⟩ (.slice a3 m3 c3)) (.slice (some ⟨w1.heap.size, 0, none⟩) n n) (begunX how rows (i + 1)) ∧ Below w1.heap.size w1 (w3.setCell ⟨w1.heap.size, i, none⟩ (.slice a3 m3 c3)) ∧ w1.heap.size < (w3.setCell ⟨w1.heap.size, i, none⟩ (.slice a3 m3 c3)).heap.size) := by
        have hs := b3.size
        refine ⟨?_, ?_, ?_⟩
        · rw [← begunX_set how rows i hil]
          exact h1'.stored i (by rw [begunX_length _ _ _ (by omega)]; exact hil) _ _ r3.isR (fun _ x hx => ⟨by have := n3 x hx; omega, fun h => h⟩)
        · exact (h2.trans (b3.mono h2.size)).setCell (p := ⟨w1.heap.size, i, none⟩) (Nat.le_refl _) _
        · simp [World.setCell]
          omega
      clear h1 h2 h3 h1' r3 b3 n3 hcell RU
      go_wp2
      go_roundw
      case rel => exact ⟨i + 1, by go_num, by omega, F.out⟩
      case measure => simp [numOf]; omega
    · obtain rfl : i = n := by omega
      have hle : ¬ ((i : Int) < (i : Int)) := by omega
      have hrl : rows.length = i := HN.out.symm
      obtain ⟨h1, h2, h3⟩ := HR.out
      rw [← hrl, begunX_all, hrl] at h1
      have hok := HV.out.ok
      have ME := hide (merge_any how h1 (fun k => ?_) (by rw [List.length_map]; omega) ?_)
      rotate_left
      · by_cases hk : k < rows.length
        · rw [List.getElem?_map, List.getElem?_eq_getElem hk]
          exact canR_rises (hok _ (List.getElem_mem hk))
        · rw [List.getElem?_eq_none (by rw [List.length_map]; omega)]
          simp [Rises]
      · exact Nat.le_trans (flat_can_le how rows) htot
      have F : Hid (canR how (rows.map (canR how)).flatten = canR how rows.flatten ∧ Below w1.heap.size w1 wr) := ⟨can_flat hok, h2⟩
      clear h1 h2 h3 hok hrl
      go_wp2_with fail
      refine ME.out.mono ?_
      rintro e w4 ⟨v4, rfl, r4, k4, n4⟩
      have H4 := hide (And.intro r4 (And.intro k4 n4))
      clear r4 k4 n4
      go_wp2
      go_ret2
      obtain ⟨r4, k4, n4⟩ := H4.out
      have hs := F.out.2.size
      refine ⟨_, rfl, ?_, F.out.2.trans (k4.below hs (by simp)), fun x hx => Nat.le_trans hs (n4 x hx)⟩
      rw [← F.out.1]
      exact r4

theorem mergeM_no (v : Value) (how : Int) (w : World) (hh : mayH how = false) :
    Calls Try.prog 16 #[v, .int .i64 how] w fun e w' => e = .returned (.tuple #[.slice none 0 0, .int .i64 1]) ∧ w' = w := by
  have KN := hide (fun w => known_any how w)
  rw [hh] at KN
  go_enter Try.func16, Try.ntmps16
  go_wp2_with fail
  refine (KN.out _).mono ?_
  rintro e w1 ⟨rfl, rfl⟩
  go_wp2
  go_ret2
  exact ⟨rfl, rfl⟩

end Go.Proofs.Ytbppjbdcgcmjiaa
