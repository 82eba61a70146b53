/-
  runs.Cut. A lemma file: no statement of the seat is proved here.
-/
import Derived.Test.YtbppjbdcgcmjiaaQChunk
namespace Go.Proofs.Ytbppjbdcgcmjiaa
open Go.RowKit Go.Shelf

attribute [local go_sem] Oper.semAt_some

/-- Piece k of records that are cut by n. -/
def pcL (l : List Rc) (n k : Nat) : List Rc := (l.drop (k * n)).take n
/-- All pieces, sorted each. -/
def cutL (how : Int) (n : Nat) (l : List Rc) : List (List Rc) := (List.range (pcN l.length n)).map fun k => canR how (pcL l n k)

theorem pcL_length (l : List Rc) (n k : Nat) : (pcL l n k).length = min n (l.length - k * n) := by simp [pcL]

theorem IsR.piece {w : World} {b off cap : Nat} {l : List Rc} {ad : Option Addr} (had : 0 < l.length → ad = some ⟨b, off, none⟩) (h : IsR w (.slice ad l.length cap) l) (n k : Nat) : IsR w (pcV b off l.length n k) (pcL l n k) := by
  obtain ⟨a', cap', e, h1, h2, h3, h4⟩ := h
  simp only [Value.slice.injEq, true_and] at e
  obtain ⟨rfl, rfl⟩ := e
  refine ⟨_, min n (l.length - k * n), by rw [pcL_length]; rfl, by rw [pcL_length]; exact Nat.le_refl _, by simp, fun x hx j u hu => ?_, fun e he => h4 e (List.mem_of_mem_drop (List.mem_of_mem_take he))⟩
  simp only [Option.some.injEq] at hx
  subst hx
  have hj : j < (pcL l n k).length * 2 := by
    have := (List.getElem?_eq_some_iff.1 hu).1
    rwa [flatR_length] at this
  rw [pcL_length] at hj
  have hl : 0 < l.length := by omega
  have := h3 _ (had hl) (k * n * 2 + j) u (by
    rw [← hu]
    have e1 := flatR_at l (k * n + j / 2) (j % 2) (by omega) (by omega)
    have e2 := flatR_at (pcL l n k) (j / 2) (j % 2) (by rw [pcL_length]; omega) (by omega)
    rw [show j / 2 * 2 + j % 2 = j by omega] at e2
    rw [show (k * n + j / 2) * 2 + j % 2 = k * n * 2 + j by omega] at e1
    rw [e1, e2]
    congr 2
    rw [getElem!_pos l _ (by omega), getElem!_pos (pcL l n k) _ (by rw [pcL_length]; omega)]
    simp [pcL])
  rw [Addr.add_lit] at this ⊢
  rw [Nat.add_assoc]
  exact this

/-- What the law's loop keeps. -/
structure CutSt (w : World) (how : Int) (l : List Rc) (n : Nat) (pre : List Nat) (W : World) : Prop where
  row : ∃ cv, W.heap[w.heap.size + 1]? = some (.cells #[cv] 28 (0, 0)) ∧ RowX (fun x => x < w.heap.size + 4) W cv (pre.map fun k => canR how (pcL l n k)) ∧ ∀ x ∈ own cv, w.heap.size + 4 ≤ x
  how : W.heap[w.heap.size]? = some (.cells #[.int .i64 how] 3 (0, 0))
  below : Below w.heap.size w W
  size : w.heap.size + 4 ≤ W.heap.size

theorem RowX.keptCells {bx : Nat → Prop} {fp : List Nat} {w w' : World} {v : Value} {ls : List (List Rc)} (h : RowX bx w v ls) (hk : Kept fp w w') (hc : ∀ x ∈ fp, ∀ cs t m, w.heap[x]? ≠ some (.cells cs t m)) : RowX bx w' v ls := by
  obtain ⟨us, hr, hl, h3⟩ := h
  refine ⟨us, ownsRow_kept hr hk (fun x hx hxf => ?_), hl, fun j u hu => ⟨(h3 j u hu).1.keptN hk fun hne x hx hxf => ?_, (h3 j u hu).2⟩⟩
  · rcases hr.2 with ⟨rfl, _⟩ | ⟨g, cap, cur, rfl, hb, hgg, _⟩
    · simp [own, Value.ownBlock] at hx
    · simp [own, Value.ownBlock] at hx
      subst hx
      exact hc _ hxf _ _ _ hgg
  · obtain ⟨b, off, c, e, _, h5⟩ := (h3 j u hu).1.opened (List.length_pos_iff.2 hne)
    subst e
    simp [own, Value.ownBlock] at hx
    subst hx
    obtain ⟨o, ho, ho2⟩ := cells_of_cell (h5 0 (List.length_pos_iff.2 hne)).1
    cases o with
    | cells cs t m => exact hc _ hxf _ _ _ ho
    | _ => simp [Obj.isCells] at ho2

theorem CutSt.own (w : World) (how : Int) (l : List Rc) (n : Nat) : OwnFrom (w.heap.size + 4) (fun pre W => CutSt w how l n pre W) := fun pre W W' row h hg hr => by
  obtain ⟨⟨cv, h1, h2, h3⟩, h4, h5, h6⟩ := h
  have k : Kept row.toList W W' := Kept.of_grown hg
  have hn : ∀ x ∈ row.toList, ∀ (cs : Array Value) t m, W.heap[x]? ≠ some (.cells cs t m) := fun x hm cs t m hx => by
    simp at hm
    obtain ⟨_, o, ho, hc⟩ := hr x hm
    rw [hx] at ho
    simp only [Option.some.injEq] at ho
    subst ho
    simp [Obj.isCells] at hc
  refine ⟨⟨cv, k.heap h1 (fun hm => hn _ hm _ _ _ h1), h2.keptCells k hn, h3⟩, k.heap h4 (fun hm => hn _ hm _ _ _ h4), ?_, Nat.le_trans h6 hg.size⟩
  refine h5.grown hg h5.size (fun x e => ?_)
  have := (hr x e).1
  omega

theorem cell_alloc {w : World} {p : Addr} {v : Value} (h : w.cell? p = some v) (o : Obj) : (w.alloc o).cell? p = some v := ((Kept.refl [] w).alloc o).cell h (by simp)

theorem keepsFrom_of_kept {B : Nat} {fp : List Nat} {W W' : World} (hk : Kept fp W W') (hc : ∀ x ∈ fp, x < W.heap.size → ∃ cs t m, W.heap[x]? = some (.cells cs t m)) : KeepsFrom B W W' :=
  ⟨hk.size, fun k o _ ho hn => hk.heap ho (fun hm => by
    obtain ⟨cs, t, m, h⟩ := hc k hm (Array.getElem?_eq_some_iff.1 ho).1
    rw [ho] at h
    simp only [Option.some.injEq] at h
    subst h
    simp [Obj.isCells] at hn)⟩

theorem RowX.cellsBlock {bx : Nat → Prop} {w : World} {v : Value} {ls : List (List Rc)} (h : RowX bx w v ls) : ∀ x ∈ Go.Proofs.Ytbppjbdcgcmjiaa.own v, ∃ cs t m, w.heap[x]? = some (.cells cs t m) := by
  obtain ⟨us, hr, _⟩ := h
  intro x hx
  rcases hr.2 with ⟨rfl, _⟩ | ⟨g, cap, cur, rfl, hb, hgg, _⟩
  · simp [Go.Proofs.Ytbppjbdcgcmjiaa.own, Value.ownBlock] at hx
  · simp [Go.Proofs.Ytbppjbdcgcmjiaa.own, Value.ownBlock] at hx
    subst hx
    exact ⟨_, _, _, hgg⟩

theorem stepIn_appendX {F : Fence} {n : Nat} {ops : Array Oper} {o : Oper} {a : Act} {K : Act → World → Prop} {Q : Exit → Act → World → Prop} {E : Prop} (R : Value → World → Prop) (w : World) (hgd : o.guard = none) (t : TypeId) (s x : Operand) (ho : o.op = .call { callee := .builtin .append, args := #[s, x], argTypes := #[t, t] })
    (v u : Value) (hs : a.eval s = v) (hx : a.eval x = u) (hr : ∃ v' w', (Builtin.append_ #[t, t] o.type #[v, u]).run Try.prog w = .ok v' w' ∧ R v' w')
    (h : ∀ v' w', R v' w' → K (a.put o.dst v') w') :
    if Region.wanted o (yielded ops a.tmps) = true then Oper.wpIn F n Try.prog o a w K Q else E := by
  have hw : Region.wanted o (yielded ops a.tmps) = true := by simp [Region.wanted, hgd]
  rw [if_pos hw]
  obtain ⟨v', w', hrun, h2⟩ := hr
  unfold Oper.wpIn
  refine ⟨?_, ?_⟩
  · simp [Oper.about, ho, resolve, Target.leads, Sem.run_pure]
  · rw [Oper.semAt_plain F _ _ (by rw [ho]; intro c hc'; cases hc')]
    simp [execOp, ho, resolve, invoke, builtin, hs, hx, hrun, Result.andThen]
    exact h v' w' h2

set_option maxRecDepth 100000 in
set_option maxHeartbeats 2000000 in
theorem cut_any (v : Value) (l : List Rc) (n : Nat) (how : Int) (w : World) (hv : IsR w v l) (hl : l.length ≤ 100000) (hn : 0 < n) (hn1 : n ≤ 100000) (hh : mayH how = true) :
    Calls Try.prog 14 #[v, .int .i64 n, .int .i64 how] w fun e w' => ∃ cv, e = .returned (.tuple #[cv, .int .i64 0]) ∧ RowX (fun x => x < w.heap.size) w' cv (cutL how n l) ∧ Below w.heap.size w w' ∧ ∀ x ∈ Go.Proofs.Ytbppjbdcgcmjiaa.own cv, w.heap.size ≤ x := by
  have KN := hide (fun w => known_any how w)
  rw [hh] at KN
  obtain ⟨ad, cap, rfl, hcap⟩ := hv.form
  obtain ⟨b, off, had⟩ : ∃ b off, 0 < l.length → ad = some ⟨b, off, none⟩ := by
    rcases Nat.eq_zero_or_pos l.length with h0 | h0
    · exact ⟨0, 0, fun h => by omega⟩
    · obtain ⟨b, off, c, e, _⟩ := hv.opened h0
      simp only [Value.slice.injEq] at e
      exact ⟨b, off, fun _ => e.1⟩
  have HV := hide (And.intro hv had)
  have hb1 : ¬ ((n : Int) < 1) := by omega
  clear hv had
  have hfw : ∀ f, Fence.wide.fn f := fun _ => trivial
  refine (callsIn_wide (n := 4)).1 (callsIn_of_wp_marks Try.func14 rfl trivial ?_ rfl)
  simp only [Try.ntmps14, List.size_toArray, List.length_cons, List.length_nil, Nat.reduceAdd, Nat.reduceSub, Array.replicate_succ, Array.replicate_zero, List.push_toArray, List.append_toArray, List.nil_append, List.cons_append]
  gi_wp2_with (first | (gi_at_call 24; refine (callsIn_wide.2 (KN.out _)).mono ?_; rintro e w' ⟨rfl, rfl⟩) | (gi_at_call 26; refine (chunk_in _ ad l.length cap n hn _).mono ?_; rintro e w' ⟨rfl, rfl⟩))
  have hb0 : Below w.heap.size w ((((w.alloc (.cells #[.int .i64 how] 3)).alloc (.cells #[.slice none 0 0] 28)).alloc (.cells #[.slice ad l.length cap] 22)).alloc (.cells #[.int .i64 n] 3)) := ((((Below.refl _ w).alloc (Nat.le_refl _) _).alloc (by simp) _).alloc (by simp; omega) _).alloc (by simp; omega) _
  have hs0 : CutSt w how l n [] ((((w.alloc (.cells #[.int .i64 how] 3)).alloc (.cells #[.slice none 0 0] 28)).alloc (.cells #[.slice ad l.length cap] 22)).alloc (.cells #[.int .i64 n] 3)) := by
    have e1 := heap_alloc_new w (.cells #[.int .i64 how] 3)
    have e2 := heap_alloc_new (w.alloc (.cells #[.int .i64 how] 3)) (.cells #[.slice none 0 0] 28)
    have k2 : ∀ (W : World) (x : Nat) o o', W.heap[x]? = some o → (W.alloc o').heap[x]? = some o := fun W x o o' h => ((Kept.refl [] W).alloc o').heap h (by simp)
    rw [World.size_alloc] at e2
    refine ⟨⟨.slice none 0 0, k2 _ _ _ _ (k2 _ _ _ _ e2), RowX.nil _ _, by simp [Go.Proofs.Ytbppjbdcgcmjiaa.own, Value.ownBlock]⟩, k2 _ _ _ _ (k2 _ _ _ _ (k2 _ _ _ _ e1)), hb0, by simp⟩
  have hc1 := cell_of_heap (heap_alloc_new ((w.alloc (.cells #[.int .i64 how] 3)).alloc (.cells #[.slice none 0 0] 28)) (.cells #[.slice ad l.length cap] 22)) 0
  have hc2 := cell_of_heap (heap_alloc_new (((w.alloc (.cells #[.int .i64 how] 3)).alloc (.cells #[.slice none 0 0] 28)).alloc (.cells #[.slice ad l.length cap] 22)) (.cells #[.int .i64 n] 3)) 0
  simp only [World.size_alloc] at hc1 hc2
  have hc1' := cell_alloc hc1 (.cells #[.int .i64 n] 3)
  refine wpIn_rangeFunc_ownG rfl (by omega) (gf := 33) (lb := #[.pointer (some ⟨w.heap.size + 1 + 1, 0, none⟩), .pointer (some ⟨w.heap.size + 1 + 1 + 1, 0, none⟩)]) rfl trivial (enters_of Try.func33 (by kernel_rfl) rfl)
    (chunk_stops 3 (by omega) (w.heap.size + 1 + 1) (w.heap.size + 1 + 1 + 1) b off l.length cap n ad HV.out.2 hcap (by omega) hn (by omega) w.heap.size _ hc1' hc2) keepC_t (keepC_b (by simp; omega) (by simp) (by simp)) (Below.refl _ _) (fun _ => rfl)
    (fun pre W => CutSt w how l n pre W)
    (fun _ _ _ => False)
    (by have := CutSt.own w how l n; simpa using this)
    (fun _ _ _ _ _ hs _ _ => hs)
    hs0
    ?a1 ?assign ?body ?done ?stop
  case assign =>
    intro l₀ x W K hK
    gi_wp2
    exact hK
  case body =>
    rintro l₀ pre x W hST hpl
    obtain ⟨⟨cv, q1, q2, q3⟩, q4, q5, q6⟩ := hST
    have c1 : W.cell? ⟨w.heap.size + 1, 0, none⟩ = some cv := cell_of_heap q1 0
    have c2 : W.cell? ⟨w.heap.size, 0, none⟩ = some (.int .i64 how) := cell_of_heap q4 0
    have hpn : pcN l.length n ≤ l.length + n := by unfold pcN; exact Nat.le_trans (Nat.div_le_self _ _) (by omega)
    have hI0 : IsR W (pcV b off l.length n x) (pcL l n x) := (IsR.piece HV.out.2 HV.out.1 n x).below q5
    have hI : IsR W.drew (pcV b off l.length n x) (pcL l n x) := hI0
    have RU := hide (run_any (pcV b off l.length n x) (pcL l n x) how W.drew hI (by rw [pcL_length]; omega))
    have ST : Hid (∀ w3 v3, (RowR w3 v3 (canR how (pcL l n x)) ∧ Below W.drew.heap.size W.drew w3 ∧ ∀ y ∈ Go.Proofs.Ytbppjbdcgcmjiaa.own v3, W.drew.heap.size ≤ y) →
        w3.cell? ⟨w.heap.size + 1, 0, none⟩ = some cv ∧ (w3.alloc (.cells #[v3] 22)).cell? ⟨w.heap.size + 1, 0, none⟩ = some cv ∧
        ∀ ty, ∃ v' w', (Builtin.append_ #[28, 28] ty #[cv, .slice (some ⟨w3.heap.size, 0, none⟩) 1 1]).run Try.prog (w3.alloc (.cells #[v3] 22)) = .ok v' w' ∧
          ((∃ a m c, v' = .slice a m c) ∧ w'.cell? ⟨w.heap.size + 1, 0, none⟩ = some cv ∧ w'.frozen? ⟨w.heap.size + 1, 0, none⟩ = false ∧
            (KeepsFrom ((((w.alloc (.cells #[.int .i64 how] 3)).alloc (.cells #[.slice none 0 0] 28)).alloc (.cells #[.slice ad l.length cap] 22)).alloc (.cells #[.int .i64 n] 3)).heap.size W (w'.setCell ⟨w.heap.size + 1, 0, none⟩ v') ∧
             KeepC w.heap.size (w.heap.size + 1 + 1) (w.heap.size + 1 + 1 + 1) W (w'.setCell ⟨w.heap.size + 1, 0, none⟩ v') ∧ CutSt w how l n (pre ++ [x]) (w'.setCell ⟨w.heap.size + 1, 0, none⟩ v')))) := by
      rintro w3 v3 ⟨r3, b3, n3⟩
      have k3 : Kept [] W w3 := ⟨b3.os, b3.tape, b3.output, b3.size, fun k hk _ => b3.block k hk⟩
      have n3' : ∀ y ∈ Go.Proofs.Ytbppjbdcgcmjiaa.own v3, W.heap.size ≤ y := n3
      have q2' := q2.kept k3 (by simp) (by simp)
      have ccv := k3.heap q1 (by simp)
      refine ⟨cell_of_heap ccv 0, cell_alloc (cell_of_heap ccv 0) _, fun ty => ?_⟩
      obtain ⟨v', w', hrun, r', k', n'⟩ := q2'.push (u := v3) r3.isR (fun _ y hy => ⟨fun hy' => by have := n3' y hy; have := q2.lt y hy'; omega, by have := n3' y hy; show ¬ (y < _); omega⟩) (by rw [List.length_map]; omega) ty
      have e' := k'.heap ccv (fun h => by have := q3 _ h; omega)
      refine ⟨v', w', hrun, by obtain ⟨a, c, e⟩ := r'.slice; exact ⟨_, _, _, e⟩, cell_of_heap e' 0, frozen_of_heap e' 0, ?_⟩
      have kall : Kept ((w.heap.size + 1) :: Go.Proofs.Ytbppjbdcgcmjiaa.own cv) W (w'.setCell ⟨w.heap.size + 1, 0, none⟩ v') :=
        ((k3.mono (by simp)).trans (k'.mono (fun x hx => List.mem_cons_of_mem _ hx)) (Newly.refl _ _)).setCell (.inl (by simp)) _
      have hge : ∀ y ∈ (w.heap.size + 1) :: Go.Proofs.Ytbppjbdcgcmjiaa.own cv, w.heap.size + 1 ≤ y ∧ (y = w.heap.size + 1 ∨ w.heap.size + 4 ≤ y) := fun y hy => by
        rcases List.mem_cons.1 hy with rfl | hy
        · exact ⟨Nat.le_refl _, .inl rfl⟩
        · have := q3 y hy
          exact ⟨by omega, .inr this⟩
      have hv4 : ∀ y ∈ Go.Proofs.Ytbppjbdcgcmjiaa.own v', w.heap.size + 4 ≤ y := fun y hy => by
        rcases n' y hy with h | h
        · exact q3 y h
        · have := k3.size
          omega
      refine ⟨keepsFrom_of_kept kall (fun y hy _ => ?_), ⟨kall.below q5.size (fun y hy => by have := (hge y hy).1; omega), World.cell?_of_block (w := W) (kall.block (w.heap.size + 1 + 1) (by omega) (fun hm => by have := (hge _ hm).2; omega)), World.cell?_of_block (w := W) (kall.block (w.heap.size + 1 + 1 + 1) (by omega) (fun hm => by have := (hge _ hm).2; omega))⟩, ⟨v', ?_, ?_, hv4⟩, ?_, q5.trans (kall.below q5.size (fun y hy => by have := (hge y hy).1; omega)), Nat.le_trans q6 kall.size⟩
      · rcases List.mem_cons.1 hy with rfl | hy
        · exact ⟨_, _, _, q1⟩
        · exact q2.cellsBlock y hy
      · exact heap_setCell e' 0 v'
      · rw [List.map_append]
        exact r'.kept ((Kept.refl [w.heap.size + 1] _).setCell (.inl (by simp)) _) (fun y hy hm => by simp at hm; have := hv4 y hy; omega) (fun y _ hm => .inr (by simp at hm; omega))
      · exact kall.heap q4 (fun hm => by have := (hge _ hm).1; omega)
    have SLC : Hid (∀ w3 v3, (RowR w3 v3 (canR how (pcL l n x)) ∧ Below W.drew.heap.size W.drew w3 ∧ ∀ y ∈ Go.Proofs.Ytbppjbdcgcmjiaa.own v3, W.drew.heap.size ≤ y) → ∃ a m c, v3 = .slice a m c) := by
      rintro w3 v3 ⟨r3, _, _⟩
      rcases r3.form with ⟨rfl, _⟩ | ⟨g, c, rfl, _⟩
      · exact ⟨_, _, _, rfl⟩
      · exact ⟨_, _, _, rfl⟩
    clear q1 q2 q3 q4 q5 q6 hI hI0 hc1 hc2 hc1' hs0 hb0
    gi_wp2
    refine wpIn_region_any (by kernel_rfl) ?_
    change wpAnyIn _ _ _ _ _ _ _ _ _ (World.drew _)
    refine wpAnyIn_ready (rs := [0, 1, 2]) (by kernel_rfl) (by simp) ?_
    refine AllReadyIn.cons rfl (fun K hK => ?_) ?_
    · go_simp
      refine hK _ _ ?_
      clear hK K
      refine wpAnyIn_ready (rs := [1, 2]) (by kernel_rfl) (by simp) ?_
      refine AllReadyIn.cons rfl (fun K hK => ?_) ?_
      · go_simp
        refine hK _ _ ?_
        clear hK K
        refine wpAnyIn_ready (rs := [2]) (by kernel_rfl) (by simp) ?_
        refine AllReadyIn.cons rfl (fun K hK => ?_) ?_
        · go_simp
          refine hK _ _ ?_
          clear hK K
          refine wpAnyIn_ready (rs := [3]) (by kernel_rfl) (by simp) ?_
          refine AllReadyIn.cons rfl (fun K hK => ?_) ?_
          · go_simp
            gi_wp2_with (gi_at_call 25; refine (CallsIn.inRound l₀ (callsIn_wide.2 RU.out)).mono ?_; rintro e w3 ⟨v3, rfl, h3⟩; obtain ⟨a3, m3, k3, rfl⟩ := SLC.out w3 v3 h3; obtain ⟨c3, c4, h3'⟩ := ST.out w3 _ h3; have H3 := hide h3'; clear h3 h3')
            refine wpAnyIn_ready (rs := [4]) (by kernel_rfl) (by simp) ?_
            refine AllReadyIn.cons rfl (fun K hK => ?_) ?_
            · go_simp
              refine hK _ _ ?_
              clear hK K
              refine wpAnyIn_ready (rs := [5]) (by kernel_rfl) (by simp) ?_
              refine AllReadyIn.cons rfl (fun K hK => ?_) ?_
              · refine stepIn_appendX _ _ rfl 28 _ _ rfl _ _ rfl rfl (H3.out _) ?_
                intro v5 w5 h5
                obtain ⟨⟨a5, m5, k5, rfl⟩, c5, f5, h5'⟩ := h5
                have H5 := hide h5'
                clear h5'
                refine hK _ _ ?_
                clear hK K
                refine wpAnyIn_ready (rs := [6]) (by kernel_rfl) (by simp) ?_
                refine AllReadyIn.cons rfl (fun K hK => ?_) ?_
                · go_simp
                  refine hK _ _ ?_
                  clear hK K
                  refine wpAnyIn_done (by kernel_rfl) ?_ _
                  exact H5.out
                exact AllReadyIn.nil
              exact AllReadyIn.nil
            exact AllReadyIn.nil
          exact AllReadyIn.nil
        exact AllReadyIn.nil
      refine AllReadyIn.cons rfl (fun K hK => ?_) ?_
      · go_simp
        refine hK _ _ ?_
        clear hK K
        refine wpAnyIn_ready (rs := [1]) (by kernel_rfl) (by simp) ?_
        refine AllReadyIn.cons rfl (fun K hK => ?_) ?_
        · go_simp
          refine hK _ _ ?_
          clear hK K
          refine wpAnyIn_ready (rs := [3]) (by kernel_rfl) (by simp) ?_
          refine AllReadyIn.cons rfl (fun K hK => ?_) ?_
          · go_simp
            gi_wp2_with (gi_at_call 25; refine (CallsIn.inRound l₀ (callsIn_wide.2 RU.out)).mono ?_; rintro e w3 ⟨v3, rfl, h3⟩; obtain ⟨a3, m3, k3, rfl⟩ := SLC.out w3 v3 h3; obtain ⟨c3, c4, h3'⟩ := ST.out w3 _ h3; have H3 := hide h3'; clear h3 h3')
            refine wpAnyIn_ready (rs := [4]) (by kernel_rfl) (by simp) ?_
            refine AllReadyIn.cons rfl (fun K hK => ?_) ?_
            · go_simp
              refine hK _ _ ?_
              clear hK K
              refine wpAnyIn_ready (rs := [5]) (by kernel_rfl) (by simp) ?_
              refine AllReadyIn.cons rfl (fun K hK => ?_) ?_
              · refine stepIn_appendX _ _ rfl 28 _ _ rfl _ _ rfl rfl (H3.out _) ?_
                intro v5 w5 h5
                obtain ⟨⟨a5, m5, k5, rfl⟩, c5, f5, h5'⟩ := h5
                have H5 := hide h5'
                clear h5'
                refine hK _ _ ?_
                clear hK K
                refine wpAnyIn_ready (rs := [6]) (by kernel_rfl) (by simp) ?_
                refine AllReadyIn.cons rfl (fun K hK => ?_) ?_
                · go_simp
                  refine hK _ _ ?_
                  clear hK K
                  refine wpAnyIn_done (by kernel_rfl) ?_ _
                  exact H5.out
                exact AllReadyIn.nil
              exact AllReadyIn.nil
            exact AllReadyIn.nil
          exact AllReadyIn.nil
        exact AllReadyIn.nil
      exact AllReadyIn.nil
    refine AllReadyIn.cons rfl (fun K hK => ?_) ?_
    · go_simp
      refine hK _ _ ?_
      clear hK K
      refine wpAnyIn_ready (rs := [0, 2]) (by kernel_rfl) (by simp) ?_
      refine AllReadyIn.cons rfl (fun K hK => ?_) ?_
      · go_simp
        refine hK _ _ ?_
        clear hK K
        refine wpAnyIn_ready (rs := [2]) (by kernel_rfl) (by simp) ?_
        refine AllReadyIn.cons rfl (fun K hK => ?_) ?_
        · go_simp
          refine hK _ _ ?_
          clear hK K
          refine wpAnyIn_ready (rs := [3]) (by kernel_rfl) (by simp) ?_
          refine AllReadyIn.cons rfl (fun K hK => ?_) ?_
          · go_simp
            gi_wp2_with (gi_at_call 25; refine (CallsIn.inRound l₀ (callsIn_wide.2 RU.out)).mono ?_; rintro e w3 ⟨v3, rfl, h3⟩; obtain ⟨a3, m3, k3, rfl⟩ := SLC.out w3 v3 h3; obtain ⟨c3, c4, h3'⟩ := ST.out w3 _ h3; have H3 := hide h3'; clear h3 h3')
            refine wpAnyIn_ready (rs := [4]) (by kernel_rfl) (by simp) ?_
            refine AllReadyIn.cons rfl (fun K hK => ?_) ?_
            · go_simp
              refine hK _ _ ?_
              clear hK K
              refine wpAnyIn_ready (rs := [5]) (by kernel_rfl) (by simp) ?_
              refine AllReadyIn.cons rfl (fun K hK => ?_) ?_
              · refine stepIn_appendX _ _ rfl 28 _ _ rfl _ _ rfl rfl (H3.out _) ?_
                intro v5 w5 h5
                obtain ⟨⟨a5, m5, k5, rfl⟩, c5, f5, h5'⟩ := h5
                have H5 := hide h5'
                clear h5'
                refine hK _ _ ?_
                clear hK K
                refine wpAnyIn_ready (rs := [6]) (by kernel_rfl) (by simp) ?_
                refine AllReadyIn.cons rfl (fun K hK => ?_) ?_
                · go_simp
                  refine hK _ _ ?_
                  clear hK K
                  refine wpAnyIn_done (by kernel_rfl) ?_ _
                  exact H5.out
                exact AllReadyIn.nil
              exact AllReadyIn.nil
            exact AllReadyIn.nil
          exact AllReadyIn.nil
        exact AllReadyIn.nil
      refine AllReadyIn.cons rfl (fun K hK => ?_) ?_
      · go_simp
        refine hK _ _ ?_
        clear hK K
        refine wpAnyIn_ready (rs := [0, 3]) (by kernel_rfl) (by simp) ?_
        refine AllReadyIn.cons rfl (fun K hK => ?_) ?_
        · go_simp
          refine hK _ _ ?_
          clear hK K
          refine wpAnyIn_ready (rs := [3]) (by kernel_rfl) (by simp) ?_
          refine AllReadyIn.cons rfl (fun K hK => ?_) ?_
          · go_simp
            gi_wp2_with (gi_at_call 25; refine (CallsIn.inRound l₀ (callsIn_wide.2 RU.out)).mono ?_; rintro e w3 ⟨v3, rfl, h3⟩; obtain ⟨a3, m3, k3, rfl⟩ := SLC.out w3 v3 h3; obtain ⟨c3, c4, h3'⟩ := ST.out w3 _ h3; have H3 := hide h3'; clear h3 h3')
            refine wpAnyIn_ready (rs := [4]) (by kernel_rfl) (by simp) ?_
            refine AllReadyIn.cons rfl (fun K hK => ?_) ?_
            · go_simp
              refine hK _ _ ?_
              clear hK K
              refine wpAnyIn_ready (rs := [5]) (by kernel_rfl) (by simp) ?_
              refine AllReadyIn.cons rfl (fun K hK => ?_) ?_
              · refine stepIn_appendX _ _ rfl 28 _ _ rfl _ _ rfl rfl (H3.out _) ?_
                intro v5 w5 h5
                obtain ⟨⟨a5, m5, k5, rfl⟩, c5, f5, h5'⟩ := h5
                have H5 := hide h5'
                clear h5'
                refine hK _ _ ?_
                clear hK K
                refine wpAnyIn_ready (rs := [6]) (by kernel_rfl) (by simp) ?_
                refine AllReadyIn.cons rfl (fun K hK => ?_) ?_
                · go_simp
                  refine hK _ _ ?_
                  clear hK K
                  refine wpAnyIn_done (by kernel_rfl) ?_ _
                  exact H5.out
                exact AllReadyIn.nil
              exact AllReadyIn.nil
            exact AllReadyIn.nil
          exact AllReadyIn.nil
        refine AllReadyIn.cons rfl (fun K hK => ?_) ?_
        · go_simp
          gi_wp2_with (gi_at_call 25; refine (CallsIn.inRound l₀ (callsIn_wide.2 RU.out)).mono ?_; rintro e w3 ⟨v3, rfl, h3⟩; obtain ⟨a3, m3, k3, rfl⟩ := SLC.out w3 v3 h3; obtain ⟨c3, c4, h3'⟩ := ST.out w3 _ h3; have H3 := hide h3'; clear h3 h3')
          refine wpAnyIn_ready (rs := [0, 4]) (by kernel_rfl) (by simp) ?_
          refine AllReadyIn.cons rfl (fun K hK => ?_) ?_
          · go_simp
            refine hK _ _ ?_
            clear hK K
            refine wpAnyIn_ready (rs := [4]) (by kernel_rfl) (by simp) ?_
            refine AllReadyIn.cons rfl (fun K hK => ?_) ?_
            · go_simp
              refine hK _ _ ?_
              clear hK K
              refine wpAnyIn_ready (rs := [5]) (by kernel_rfl) (by simp) ?_
              refine AllReadyIn.cons rfl (fun K hK => ?_) ?_
              · refine stepIn_appendX _ _ rfl 28 _ _ rfl _ _ rfl rfl (H3.out _) ?_
                intro v5 w5 h5
                obtain ⟨⟨a5, m5, k5, rfl⟩, c5, f5, h5'⟩ := h5
                have H5 := hide h5'
                clear h5'
                refine hK _ _ ?_
                clear hK K
                refine wpAnyIn_ready (rs := [6]) (by kernel_rfl) (by simp) ?_
                refine AllReadyIn.cons rfl (fun K hK => ?_) ?_
                · go_simp
                  refine hK _ _ ?_
                  clear hK K
                  refine wpAnyIn_done (by kernel_rfl) ?_ _
                  exact H5.out
                exact AllReadyIn.nil
              exact AllReadyIn.nil
            exact AllReadyIn.nil
          refine AllReadyIn.cons rfl (fun K hK => ?_) ?_
          · go_simp
            refine hK _ _ ?_
            clear hK K
            refine wpAnyIn_ready (rs := [0]) (by kernel_rfl) (by simp) ?_
            refine AllReadyIn.cons rfl (fun K hK => ?_) ?_
            · go_simp
              refine hK _ _ ?_
              clear hK K
              refine wpAnyIn_ready (rs := [5]) (by kernel_rfl) (by simp) ?_
              refine AllReadyIn.cons rfl (fun K hK => ?_) ?_
              · refine stepIn_appendX _ _ rfl 28 _ _ rfl _ _ rfl rfl (H3.out _) ?_
                intro v5 w5 h5
                obtain ⟨⟨a5, m5, k5, rfl⟩, c5, f5, h5'⟩ := h5
                have H5 := hide h5'
                clear h5'
                refine hK _ _ ?_
                clear hK K
                refine wpAnyIn_ready (rs := [6]) (by kernel_rfl) (by simp) ?_
                refine AllReadyIn.cons rfl (fun K hK => ?_) ?_
                · go_simp
                  refine hK _ _ ?_
                  clear hK K
                  refine wpAnyIn_done (by kernel_rfl) ?_ _
                  exact H5.out
                exact AllReadyIn.nil
              exact AllReadyIn.nil
            exact AllReadyIn.nil
          exact AllReadyIn.nil
        exact AllReadyIn.nil
      exact AllReadyIn.nil
    refine AllReadyIn.cons rfl (fun K hK => ?_) ?_
    · go_simp
      refine hK _ _ ?_
      clear hK K
      refine wpAnyIn_ready (rs := [0, 1]) (by kernel_rfl) (by simp) ?_
      refine AllReadyIn.cons rfl (fun K hK => ?_) ?_
      · go_simp
        refine hK _ _ ?_
        clear hK K
        refine wpAnyIn_ready (rs := [1]) (by kernel_rfl) (by simp) ?_
        refine AllReadyIn.cons rfl (fun K hK => ?_) ?_
        · go_simp
          refine hK _ _ ?_
          clear hK K
          refine wpAnyIn_ready (rs := [3]) (by kernel_rfl) (by simp) ?_
          refine AllReadyIn.cons rfl (fun K hK => ?_) ?_
          · go_simp
            gi_wp2_with (gi_at_call 25; refine (CallsIn.inRound l₀ (callsIn_wide.2 RU.out)).mono ?_; rintro e w3 ⟨v3, rfl, h3⟩; obtain ⟨a3, m3, k3, rfl⟩ := SLC.out w3 v3 h3; obtain ⟨c3, c4, h3'⟩ := ST.out w3 _ h3; have H3 := hide h3'; clear h3 h3')
            refine wpAnyIn_ready (rs := [4]) (by kernel_rfl) (by simp) ?_
            refine AllReadyIn.cons rfl (fun K hK => ?_) ?_
            · go_simp
              refine hK _ _ ?_
              clear hK K
              refine wpAnyIn_ready (rs := [5]) (by kernel_rfl) (by simp) ?_
              refine AllReadyIn.cons rfl (fun K hK => ?_) ?_
              · refine stepIn_appendX _ _ rfl 28 _ _ rfl _ _ rfl rfl (H3.out _) ?_
                intro v5 w5 h5
                obtain ⟨⟨a5, m5, k5, rfl⟩, c5, f5, h5'⟩ := h5
                have H5 := hide h5'
                clear h5'
                refine hK _ _ ?_
                clear hK K
                refine wpAnyIn_ready (rs := [6]) (by kernel_rfl) (by simp) ?_
                refine AllReadyIn.cons rfl (fun K hK => ?_) ?_
                · go_simp
                  refine hK _ _ ?_
                  clear hK K
                  refine wpAnyIn_done (by kernel_rfl) ?_ _
                  exact H5.out
                exact AllReadyIn.nil
              exact AllReadyIn.nil
            exact AllReadyIn.nil
          exact AllReadyIn.nil
        exact AllReadyIn.nil
      refine AllReadyIn.cons rfl (fun K hK => ?_) ?_
      · go_simp
        refine hK _ _ ?_
        clear hK K
        refine wpAnyIn_ready (rs := [0, 3]) (by kernel_rfl) (by simp) ?_
        refine AllReadyIn.cons rfl (fun K hK => ?_) ?_
        · go_simp
          refine hK _ _ ?_
          clear hK K
          refine wpAnyIn_ready (rs := [3]) (by kernel_rfl) (by simp) ?_
          refine AllReadyIn.cons rfl (fun K hK => ?_) ?_
          · go_simp
            gi_wp2_with (gi_at_call 25; refine (CallsIn.inRound l₀ (callsIn_wide.2 RU.out)).mono ?_; rintro e w3 ⟨v3, rfl, h3⟩; obtain ⟨a3, m3, k3, rfl⟩ := SLC.out w3 v3 h3; obtain ⟨c3, c4, h3'⟩ := ST.out w3 _ h3; have H3 := hide h3'; clear h3 h3')
            refine wpAnyIn_ready (rs := [4]) (by kernel_rfl) (by simp) ?_
            refine AllReadyIn.cons rfl (fun K hK => ?_) ?_
            · go_simp
              refine hK _ _ ?_
              clear hK K
              refine wpAnyIn_ready (rs := [5]) (by kernel_rfl) (by simp) ?_
              refine AllReadyIn.cons rfl (fun K hK => ?_) ?_
              · refine stepIn_appendX _ _ rfl 28 _ _ rfl _ _ rfl rfl (H3.out _) ?_
                intro v5 w5 h5
                obtain ⟨⟨a5, m5, k5, rfl⟩, c5, f5, h5'⟩ := h5
                have H5 := hide h5'
                clear h5'
                refine hK _ _ ?_
                clear hK K
                refine wpAnyIn_ready (rs := [6]) (by kernel_rfl) (by simp) ?_
                refine AllReadyIn.cons rfl (fun K hK => ?_) ?_
                · go_simp
                  refine hK _ _ ?_
                  clear hK K
                  refine wpAnyIn_done (by kernel_rfl) ?_ _
                  exact H5.out
                exact AllReadyIn.nil
              exact AllReadyIn.nil
            exact AllReadyIn.nil
          exact AllReadyIn.nil
        refine AllReadyIn.cons rfl (fun K hK => ?_) ?_
        · go_simp
          gi_wp2_with (gi_at_call 25; refine (CallsIn.inRound l₀ (callsIn_wide.2 RU.out)).mono ?_; rintro e w3 ⟨v3, rfl, h3⟩; obtain ⟨a3, m3, k3, rfl⟩ := SLC.out w3 v3 h3; obtain ⟨c3, c4, h3'⟩ := ST.out w3 _ h3; have H3 := hide h3'; clear h3 h3')
          refine wpAnyIn_ready (rs := [0, 4]) (by kernel_rfl) (by simp) ?_
          refine AllReadyIn.cons rfl (fun K hK => ?_) ?_
          · go_simp
            refine hK _ _ ?_
            clear hK K
            refine wpAnyIn_ready (rs := [4]) (by kernel_rfl) (by simp) ?_
            refine AllReadyIn.cons rfl (fun K hK => ?_) ?_
            · go_simp
              refine hK _ _ ?_
              clear hK K
              refine wpAnyIn_ready (rs := [5]) (by kernel_rfl) (by simp) ?_
              refine AllReadyIn.cons rfl (fun K hK => ?_) ?_
              · refine stepIn_appendX _ _ rfl 28 _ _ rfl _ _ rfl rfl (H3.out _) ?_
                intro v5 w5 h5
                obtain ⟨⟨a5, m5, k5, rfl⟩, c5, f5, h5'⟩ := h5
                have H5 := hide h5'
                clear h5'
                refine hK _ _ ?_
                clear hK K
                refine wpAnyIn_ready (rs := [6]) (by kernel_rfl) (by simp) ?_
                refine AllReadyIn.cons rfl (fun K hK => ?_) ?_
                · go_simp
                  refine hK _ _ ?_
                  clear hK K
                  refine wpAnyIn_done (by kernel_rfl) ?_ _
                  exact H5.out
                exact AllReadyIn.nil
              exact AllReadyIn.nil
            exact AllReadyIn.nil
          refine AllReadyIn.cons rfl (fun K hK => ?_) ?_
          · go_simp
            refine hK _ _ ?_
            clear hK K
            refine wpAnyIn_ready (rs := [0]) (by kernel_rfl) (by simp) ?_
            refine AllReadyIn.cons rfl (fun K hK => ?_) ?_
            · go_simp
              refine hK _ _ ?_
              clear hK K
              refine wpAnyIn_ready (rs := [5]) (by kernel_rfl) (by simp) ?_
              refine AllReadyIn.cons rfl (fun K hK => ?_) ?_
              · refine stepIn_appendX _ _ rfl 28 _ _ rfl _ _ rfl rfl (H3.out _) ?_
                intro v5 w5 h5
                obtain ⟨⟨a5, m5, k5, rfl⟩, c5, f5, h5'⟩ := h5
                have H5 := hide h5'
                clear h5'
                refine hK _ _ ?_
                clear hK K
                refine wpAnyIn_ready (rs := [6]) (by kernel_rfl) (by simp) ?_
                refine AllReadyIn.cons rfl (fun K hK => ?_) ?_
                · go_simp
                  refine hK _ _ ?_
                  clear hK K
                  refine wpAnyIn_done (by kernel_rfl) ?_ _
                  exact H5.out
                exact AllReadyIn.nil
              exact AllReadyIn.nil
            exact AllReadyIn.nil
          exact AllReadyIn.nil
        exact AllReadyIn.nil
      exact AllReadyIn.nil
    exact AllReadyIn.nil
  case done =>
    rintro D ys W hD rfl hST hK
    obtain ⟨⟨cv, q1, q2, q3⟩, q4, q5, q6⟩ := hST
    have c1 : W.cell? ⟨w.heap.size + 1, 0, none⟩ = some cv := cell_of_heap q1 0
    have Q2 := hide q2
    have Q3 := hide q3
    have Q5 := hide q5
    clear q1 q2 q3 q4 q5 hc1 hc2 hc1' hs0 hb0
    gi_wp2
    refine ⟨by simp, .inl ⟨_, _, rfl, run_takeDeferred hK, ?_⟩⟩
    have kD : Kept [D] W (W.putObj D (.deferred none)) := Kept.of_grown (grownBy_putObj' W D _)
    refine ⟨_, results_tmp2 rfl _ _ _, cv, rfl, ?_, ?_, fun x hx => by have := Q3.out x hx; omega⟩
    · exact (Q2.out.keptCells kD (fun x hx cs t m h => by simp at hx; subst hx; rw [hK] at h; simp at h)).mono (fun x (hx : x < w.heap.size) => by show x < _; omega)
    · exact Q5.out.trans (kD.below Q5.out.size (fun x hx => by simp at hx hD; omega))
  case stop =>
    rintro D c pre W _ _ h _
    exact h.elim

set_option maxRecDepth 100000 in
theorem cut_no (v : Value) (n how : Int) (w : World) (hh : mayH how = false ∨ n < 1) :
    Calls Try.prog 14 #[v, .int .i64 n, .int .i64 how] w fun e w' => e = .returned (.tuple #[.slice none 0 0, .int .i64 1]) ∧ Below w.heap.size w w' := by
  have KN := hide (fun w => known_any how w)
  have hb0 : Below w.heap.size w (w.alloc (.cells #[.int .i64 how] 3)) := (Below.refl _ w).alloc (Nat.le_refl _) _
  have HB := hide hb0
  clear hb0
  cases hk : mayH how with
  | false =>
    rw [hk] at KN
    clear hh hk
    go_enter Try.func14, Try.ntmps14
    go_wp2_with fail
    refine (KN.out _).mono ?_
    rintro e w1 ⟨rfl, rfl⟩
    go_wp2
    go_ret2
    exact ⟨rfl, HB.out⟩
  | true =>
    rw [hk] at KN hh
    have hn : n < 1 := by
      rcases hh with h | h
      · cases h
      · exact h
    clear hh hk
    go_enter Try.func14, Try.ntmps14
    go_wp2_with fail
    refine (KN.out _).mono ?_
    rintro e w1 ⟨rfl, rfl⟩
    go_wp2
    go_ret2
    exact ⟨rfl, HB.out⟩

end Go.Proofs.Ytbppjbdcgcmjiaa
