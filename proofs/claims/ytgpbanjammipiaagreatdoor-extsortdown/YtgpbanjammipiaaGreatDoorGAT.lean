/-
  Lemma texts, one behind the other: XBegin, XDrop, XPush, XMgI. No statement of the seat is proved here.
-/
import Derived.Test.YtgpbanjammipiaaGreatDoorGAS
namespace Go.Proofs.YtgpbanjammipiaaGreatDoor
open Go.RowKit Go.Maps

section
variable {ops : Array Oper} {o : Oper} {a : Act} {Q : Exit → Act → World → Prop}

theorem step_pushO {K : Act → World → Prop} {E : Prop} (w : World) (hgd : o.guard = none) (s x : Operand) (ho : o.op = .call { callee := .builtin .append, args := #[s, x], argTypes := #[75, 75] })
    (v : Value) (b : Nat) (l : List Nat) (y : Nat) (hs : a.eval s = v) (hrow : RowO w v l) (hx : a.eval x = .slice (some ⟨b, 0, none⟩) 1 1) (hb : w.cell? ⟨b, 0, none⟩ = some (.int .i64 (y : Nat))) (hlen : l.length ≤ 1000000)
    (h : ∀ v' w', RowO w' v' (l ++ [y]) → Kept (own v) w w' → Newly w (own v) (own v') → Ahead w w' v → (∀ g m, g < w.heap.size → endIn v g m → endIn v' g m) → K (a.put o.dst v') w') :
    if Region.wanted o (yielded ops a.tmps) = true then Oper.wp Tryz.prog o a w K Q else E := by
  have hw : Region.wanted o (yielded ops a.tmps) = true := by simp [Region.wanted, hgd]
  rw [if_pos hw]
  obtain ⟨v', w', hr, h2, h3, h4, h5, h6⟩ := hrow.push y hb hlen o.type
  unfold Oper.wp execOp
  simp only [ho, resolve, invoke, builtin, Sem.run_bind, Sem.run_pure, Result.andThen_ok, List.map_toArray, List.map_cons, List.map_nil, hs, hx, hr]
  exact h v' w' h2 h3 h4 h5 h6
end

section
variable {w w' : World} {sp : Nat} {k : Skn} {cnt : Nat} {hv rv : Value} {H : List Rc} {R : List Nat} {last : Nat}

/-- Another number was tried. -/
theorem SoM.lasted (h : SoM w sp k cnt hv rv H R last) : SoM (w.setCell ⟨sp, 9, none⟩ (.int .i64 ((last : Int) + 1))) sp k cnt hv rv H R (last + 1) ∧ Kept [sp] w (w.setCell ⟨sp, 9, none⟩ (.int .i64 ((last : Int) + 1))) := by
  have hk : Kept [sp] w (w.setCell ⟨sp, 9, none⟩ (.int .i64 ((last : Int) + 1))) := (Kept.refl _ _).setCell (.inl (by simp)) _
  obtain ⟨l, hl, ho⟩ := h.heap
  refine ⟨⟨?_, ⟨l, hl.kept hk (fun x hx e => ?_), ho⟩, h.rows.kept hk (fun x hx e => ?_), h.hs, h.rs, h.hr⟩, hk⟩
  · have := heap_setCell h.cells 9 (.int .i64 ((last : Int) + 1))
    simpa [scells] using this
  · simp only [List.mem_singleton] at e; subst e; exact h.hs hx
  · simp only [List.mem_singleton] at e; subst e; exact h.rs hx

/-- Another row of numbers. -/
theorem SoM.rowed (h : SoM w sp k cnt hv rv H R last) {w4 : World} {rv' : Value} {R' : List Nat} (hr : RowO w4 rv' R') (hk : Kept (own rv) w w4) (hn : Newly w (own rv) (own rv')) :
    SoM (w4.setCell ⟨sp, 8, none⟩ rv') sp k cnt hv rv' H R' last ∧ Newly w (sofp sp hv rv) (sofp sp hv rv') ∧ Kept (sofp sp hv rv) w (w4.setCell ⟨sp, 8, none⟩ rv') := by
  have hlt := h.lt
  have hks : Kept [sp] w4 (w4.setCell ⟨sp, 8, none⟩ rv') := (Kept.refl _ _).setCell (.inl (by simp)) _
  have hsn : sp ∉ own rv' := fun e => by
    rcases hn _ e with e | e
    · exact h.rs e
    · have := hlt sp (sofp_mem.2 (.inl rfl)); omega
  obtain ⟨l, hl, ho⟩ := h.heap
  refine ⟨⟨?_, ⟨l, (hl.kept hk h.hr).kept hks (fun x hx e => ?_), ho⟩, hr.kept hks (fun x hx e => ?_), h.hs, hsn, fun x hx e => ?_⟩, fun x hx => ?_, ?_⟩
  · have := heap_setCell (hk.heap9 h.cells h.rs) 8 rv'
    simpa [scells] using this
  · simp only [List.mem_singleton] at e; subst e; exact h.hs hx
  · simp only [List.mem_singleton] at e; subst e; exact hsn hx
  · rcases hn x e with e | e
    · exact h.hr x hx e
    · have := hlt x (sofp_mem.2 (.inr (.inl hx))); omega
  · rcases sofp_mem.1 hx with rfl | hx | hx
    · exact .inl (sofp_mem.2 (.inl rfl))
    · exact .inl (sofp_mem.2 (.inr (.inl hx)))
    · exact (hn x hx).imp (fun e => sofp_mem.2 (.inr (.inr e))) id
  · exact (hk.mono (fun x hx => sofp_mem.2 (.inr (.inr hx)))).trans hks (fun x hx => .inl (by simp only [List.mem_singleton] at hx; subst hx; exact sofp_mem.2 (.inl rfl)))
end

/-- A piece of the rows' numbers: it stays where it is, whatever is laid behind. -/
def Piece (w : World) (fa : List Nat) (rv u : Value) (ks : List Nat) : Prop :=
  IsI w u ks ∧ ∀ x n cap, u = .slice (some x) n cap → x.spot = none ∧ x.block < w.heap.size ∧ ((x.block ∈ own rv ∧ endIn rv x.block (x.off + n)) ∨ x.block ∉ fa)

/-- What begin leaves. -/
def BeginP (sp : Nat) (k : Skn) (A0 : Dsk) (E : List Ab) (M : List UInt8 → Prop) (w : World) (fd : List Nat) (A : Dsk) (cnt : Nat) (hv rv : Value) (H : List Rc) (R : List Nat) (last : Nat) (e : Ending) (w' : World) : Prop :=
  ∃ B, B.2.ops = A.2.ops + 1 ∧ Kept (fd ++ sofp sp hv rv) w w' ∧
    ((∃ q fd' tv rv', e = .returned (.tuple #[.pointer (some ⟨q, 0, none⟩), .int .i64 0]) ∧ WkE w' fd' tv k.p q B (rowN k.temp (last + 1)) [] ∧ SoM w' sp k cnt hv rv' H (R ++ [last + 1]) (last + 1) ∧ (∀ z ∈ sofp sp hv rv', z ∉ wfp fd' q tv) ∧
        Newly w (fd ++ sofp sp hv rv) (wfp fd' q tv) ∧ Newly w (sofp sp hv rv) (sofp sp hv rv') ∧ Ext A0 B (((rowN k.temp (last + 1)).data.toList, [], []) :: E) ∧
        ∀ u ks, Piece w (fd ++ sofp sp hv rv) rv u ks → Piece w' (wfp fd' q tv ++ sofp sp hv rv') rv' u ks) ∨
     (∃ fd', e = .returned (.tuple #[.pointer none, .int .i64 7]) ∧ Dk w' fd' k.p B.1 B.2 ∧ SoM w' sp k cnt hv rv H R (last + 1) ∧ (∀ z ∈ sofp sp hv rv, z ∉ fd') ∧ Newly w (fd ++ sofp sp hv rv) fd' ∧ Cr A0 B M (usedB E)))

theorem kept_drew_eq {fp : List Nat} {a b : World} (h : Kept fp a b) : Kept fp a b.drew := h.drew

/-- The end of begin. -/
theorem begin_done {w w1 w2 w3 W4 w5 : World} {sp q : Nat} {k : Skn} {A0 A B : Dsk} {E : List Ab} {M : List UInt8 → Prop} {fd fd3 : List Nat} {tv3 : Value} {cnt : Nat} {hv rv rv' : Value} {H : List Rc} {R : List Nat} {last : Nat} {e : Ending} {nm : ByteArray}
    (s : SoM w sp k cnt hv rv H R last) (hd : ∀ z ∈ sofp sp hv rv, z ∉ fd) (k1 : Kept [sp] w w1) (k2 : Kept [] w1 w2) (k3 : Kept fd w2 w3) (n3 : Newly w2 fd (wfp fd3 q tv3)) (b4 : Below w3.heap.size w3 W4) (wk3 : WkE w3 fd3 tv3 k.p q B nm [])
    (s4 : SoM W4 sp k cnt hv rv H R (last + 1)) (r5 : RowO w5 rv' (R ++ [last + 1])) (k5 : Kept (own rv) W4 w5) (n5 : Newly W4 (own rv) (own rv')) (a5 : Ahead W4 w5 rv) (e5 : ∀ g m, g < W4.heap.size → endIn rv g m → endIn rv' g m)
    (hnm : nm = rowN k.temp (last + 1)) (hops : B.2.ops = A.2.ops + 1) (E1 : Ext A0 B ((nm.data.toList, [], []) :: E)) (he : e = .returned (.tuple #[.pointer (some ⟨q, 0, none⟩), .int .i64 0])) :
    BeginP sp k A0 E M w fd A cnt hv rv H R last e (w5.setCell ⟨sp, 8, none⟩ rv') := by
  subst hnm
  have hlt := s.lt
  have hspn : ∀ z ∈ own rv, z ≠ sp := fun z hz e => s.rs (e ▸ hz)
  obtain ⟨s5, n6, k6⟩ := s4.rowed r5 k5 n5
  have q12 : Kept [sp] w w2 := k1.trans k2 (fun _ hx => by simp at hx)
  have q13 : Kept (fd ++ sofp sp hv rv) w w3 := (q12.mono (fun z hz => by simp only [List.mem_singleton] at hz; subst hz; exact List.mem_append.2 (.inr (sofp_mem.2 (.inl rfl))))).trans k3 (fun z hz => .inl (List.mem_append.2 (.inl hz)))
  have q14 : Kept (fd ++ sofp sp hv rv) w W4 := q13.trans (Kept.of_below (fp := []) b4) (fun _ hx => by simp at hx)
  have q1f : Kept (fd ++ sofp sp hv rv) w (w5.setCell ⟨sp, 8, none⟩ rv') := q14.trans k6 (fun z hz => .inl (List.mem_append.2 (.inr hz)))
  have nA : Newly w (fd ++ sofp sp hv rv) (wfp fd3 q tv3) := fun z hz => by
    rcases n3 z hz with e | e
    · exact .inl (List.mem_append.2 (.inl e))
    · exact .inr (Nat.le_trans q12.size e)
  have nB : Newly w (sofp sp hv rv) (sofp sp hv rv') := fun z hz => (n6 z hz).imp id (fun e => Nat.le_trans q14.size e)
  have dW : ∀ z ∈ wfp fd3 q tv3, z ∉ sofp sp hv rv := fun z hz e => by
    rcases n3 z hz with e2 | e2
    · exact hd z e e2
    · have h1 := hlt z e
      have h2 := q12.size
      omega
  have wk4 : WkE (w5.setCell ⟨sp, 8, none⟩ rv') fd3 tv3 k.p q B (rowN k.temp (last + 1)) [] := (wk3.below b4).kept k6 dW
  have wlt := (wk3.below b4).lt
  refine ⟨B, hops, q1f, .inl ⟨q, fd3, tv3, rv', he, wk4, s5, fun z hz e => ?_, nA, nB, E1, fun u ks hP => ?_⟩⟩
  · rcases n6 z hz with e2 | e2
    · exact dW z e e2
    · have := wlt z e; omega
  · obtain ⟨⟨a, cap, hu, l1, l2, l3, l4⟩, hB⟩ := hP
    refine ⟨⟨a, cap, hu, l1, l2, l3, fun x hx j hj => ?_⟩, fun x n c hxu => ?_⟩
    · obtain ⟨z1, z2, z3⟩ := hB x _ _ (by rw [hu, hx])
      have hc := l4 x hx j hj
      have hadd : x.add j = ⟨x.block, x.off + j, none⟩ := by
        obtain ⟨xb, xo, xs⟩ := x
        simp only at z1
        subst z1
        exact Addr.add_lit _ _ _
      rw [hadd] at hc ⊢
      rcases z3 with ⟨z3, z4⟩ | z3
      · have hbr : x.block ∉ fd := hd _ (sofp_mem.2 (.inr (.inr z3)))
        have c1 := q12.cell hc (by simpa using hspn _ z3)
        have c3 := k3.cell c1 hbr
        have c4 := (Kept.of_below (fp := []) b4).cell c3 (by simp)
        have hl4 : x.block < W4.heap.size := World.block_lt_of_cell? W4 ⟨x.block, x.off + j, none⟩ c4
        have c5 := (a5 x.block (x.off + j) hl4 (fun off n' cap' e => by
          rcases z4 off n' cap' e with h | h
          · exact .inl (by omega)
          · exact .inr h)).trans c4
        exact ((Kept.refl [sp] w5).setCell (p := ⟨sp, 8, none⟩) (.inl (by simp)) rv').cell c5 (by simpa using hspn _ z3)
      · exact q1f.cell hc z3
    · obtain ⟨z1, z2, z3⟩ := hB x n c hxu
      refine ⟨z1, Nat.lt_of_lt_of_le z2 q1f.size, ?_⟩
      rcases z3 with ⟨z3, z4⟩ | z3
      · by_cases hin : x.block ∈ own rv'
        · exact .inl ⟨hin, e5 _ _ (Nat.lt_of_lt_of_le z2 q14.size) z4⟩
        · refine .inr (fun e => ?_)
          rcases List.mem_append.1 e with e | e
          · exact dW _ e (sofp_mem.2 (.inr (.inr z3)))
          · rcases sofp_mem.1 e with e | e | e
            · exact hspn _ z3 e
            · exact s.hr _ e z3
            · exact hin e
      · refine .inr (fun e => ?_)
        rcases List.mem_append.1 e with e | e
        · rcases nA _ e with e | e
          · exact z3 e
          · omega
        · rcases nB _ e with e | e
          · exact z3 (List.mem_append.2 (.inr e))
          · omega

/-- The end of begin where the crash came. -/
theorem begin_crash {w w1 w2 w3 : World} {sp : Nat} {k : Skn} {A0 A B : Dsk} {E : List Ab} {M : List UInt8 → Prop} {fd fd3 : List Nat} {cnt : Nat} {hv rv : Value} {H : List Rc} {R : List Nat} {last : Nat} {e : Ending}
    (s : SoM w sp k cnt hv rv H R last) (hd : ∀ z ∈ sofp sp hv rv, z ∉ fd) (k1 : Kept [sp] w w1) (k2 : Kept [] w1 w2) (k3 : Kept fd w2 w3) (n3 : Newly w2 fd fd3) (d3 : Dk w3 fd3 k.p B.1 B.2)
    (s3 : SoM w3 sp k cnt hv rv H R (last + 1)) (hops : B.2.ops = A.2.ops + 1) (C : Cr A0 B M (usedB E)) (he : e = .returned (.tuple #[.pointer none, .int .i64 7])) :
    BeginP sp k A0 E M w fd A cnt hv rv H R last e w3 := by
  have hlt := s.lt
  have q12 : Kept [sp] w w2 := k1.trans k2 (fun _ hx => by simp at hx)
  have q13 : Kept (fd ++ sofp sp hv rv) w w3 := (q12.mono (fun z hz => by simp only [List.mem_singleton] at hz; subst hz; exact List.mem_append.2 (.inr (sofp_mem.2 (.inl rfl))))).trans k3 (fun z hz => .inl (List.mem_append.2 (.inl hz)))
  refine ⟨B, hops, q13, .inr ⟨fd3, he, d3, s3, fun z hz e => ?_, fun z hz => ?_, C⟩⟩
  · rcases n3 z e with e2 | e2
    · exact hd z hz e2
    · have h1 := hlt z hz
      have h2 := q12.size
      omega
  · rcases n3 z hz with e | e
    · exact .inl (List.mem_append.2 (.inl e))
    · exact .inr (Nat.le_trans q12.size e)

set_option maxRecDepth 100000 in
set_option maxHeartbeats 4000000 in
theorem soBegin_any {w : World} {sp : Nat} {k : Skn} {A0 A : Dsk} {E : List Ab} {M : List UInt8 → Prop} {fd : List Nat} {cnt : Nat} {hv rv : Value} {H : List Rc} {R : List Nat} {last : Nat}
    (s : SoM w sp k cnt hv rv H R last) (d : Dk w fd k.p A.1 A.2) (hd : ∀ z ∈ sofp sp hv rv, z ∉ fd) (hx : Ext A0 A E) (hM : ∀ x ∈ E, M x.1) (ht : Tab w) (htm : k.temp.size ≤ 17) (hlast : last + 1 < 1000000) (hR : R.length ≤ 1000000)
    (hE : ∀ x ∈ E, x.1 ≠ (rowN k.temp (last + 1)).data.toList) (h0 : lookA A0.1 (rowN k.temp (last + 1)).data.toList = none) (hops : A.2.ops ≤ 999990) :
    Calls Tryz.prog 81 #[.pointer (some ⟨sp, 0, none⟩)] w (BeginP sp k A0 E M w fd A cnt hv rv H R last) := by
  obtain ⟨mm, nm9⟩ := rowN_may htm hlast
  obtain ⟨w1, hw1⟩ : ∃ w1, w1 = w.setCell ⟨sp, 9, none⟩ (.int .i64 ((last : Int) + 1)) := ⟨_, rfl⟩
  obtain ⟨s1, k1⟩ := s.lasted
  rw [← hw1] at s1 k1
  have hspd : sp ∉ fd := hd sp (sofp_mem.2 (.inl rfl))
  have d1 := d.kept k1 (fun z hz e => by simp only [List.mem_singleton] at e; subst e; exact hspd hz)
  have htl := ht.lt
  have hgs : gTab ≠ sp := by
    rintro e
    have h1 := ht
    unfold Tab Lib.TabIs World.var? at h1
    rw [gTab_is] at h1
    simp only [Option.bind_some] at h1
    rw [e, s.cells] at h1
    simp only [Option.some.injEq] at h1
    have := congrArg Array.size h1
    simp [scells, Lib.pow10Tab] at this
  have t1 : Tab w1 := (ht.kept k1 (by simpa using hgs)).1
  obtain ⟨c0, _, _, _, _, _, _, c9, cf⟩ := s.cellAt
  obtain ⟨s0, sx1, _, _, _, _, _, s9, sf⟩ := s1.cellAt
  have NM := hide (fun (W : World) (kk : Kept [] w1 W) => name_any (ht := (t1.kept kk (by simp)).1) (sp := sp) (temp := k.temp) (kk.cell sx1 (by simp)) htm (last + 1) hlast)
  obtain ⟨⟨kc, B⟩, hB⟩ : ∃ z, createA (beginA A.1 A.2) (rowN k.temp (last + 1)).data.toList = z := ⟨_, rfl⟩
  have CR := hx.create d.ok hM mm hE h0
  rw [hB] at CR
  have hw9 : IntKind.i64.wrap ((last : Int) + 1) = (last : Int) + 1 := i64_small _ (by omega) (by omega)
  have lst1 : ((last + 1 : Nat) : Int) = (last : Int) + 1 := by omega
  rw [lst1] at s9 NM
  have KC : Hid (∀ {W : World} {o : Nat} {u : Value}, Kept [] w1 W → w1.cell? ⟨sp, o, none⟩ = some u → W.cell? ⟨sp, o, none⟩ = some u) := fun kk c => kk.cell c (by simp)
  have HSP : Hid (∀ {W W' : World} {o : Nat} {u : Value}, Kept fd W W' → W.cell? ⟨sp, o, none⟩ = some u → W'.cell? ⟨sp, o, none⟩ = some u) := fun kk c => kk.cell c hspd
  have HH := hide (And.intro s1 (And.intro d1 (And.intro k1 (And.intro hd (And.intro hspd hR)))))
  have HH0 := hide (And.intro s True.intro)
  have HDN := hide (fun (W : World) (kk : Kept [] w1 W) => d1.kept kk (by simp))
  have c90 : w.cell? ⟨sp, 9, none⟩ = some (.int .i64 (last : Int)) := c9
  have cf9 := cf 9
  have HS1 := hide (And.intro s0 (And.intro s9 sf))
  clear s d hd hx hM ht hE h0 s1 k1 d1 hspd htl hgs t1 c0 c9 cf s0 sx1 s9 sf mm
  go_enter Tryz.func81, Tryz.ntmps81
  go_wp2_with fail
  go_loopg [] (1) (fun gk wr => wr = w)
  case atStart => rfl
  case round =>
    subst hrel
    go_wp2
    obtain ⟨s0, s9, sf⟩ := HS1.out
    subst hw1
    obtain ⟨w1, hw1⟩ : ∃ w1, w1 = wr.setCell ⟨sp, 9, none⟩ (.int .i64 ((last : Int) + 1)) := ⟨_, rfl⟩
    rw [← hw1] at s0 s9 sf HS1 NM HDN HH KC ⊢
    clear hw1
    have s0' : w1.drew.cell? ⟨sp, 0, none⟩ = some (.pointer (some ⟨k.p, 0, none⟩)) := s0
    have s9' : w1.drew.cell? ⟨sp, 9, none⟩ = some (.int .i64 ((last : Int) + 1)) := s9
    rcases CR.2 with ⟨rfl, E1⟩ | ⟨rfl, E1⟩
    · have NW := hide (fun (W : World) (kk : Kept [] w1 W) => newWriter_go (HDN.out W kk) (by omega) (rowN k.temp (last + 1)) nm9 hB)
      have HE1 := hide (And.intro CR.1 E1)
      clear CR E1 hB s0 s9 sf
      go_region_held (fun W => W.cell? ⟨sp, 0, none⟩ = some (.pointer (some ⟨k.p, 0, none⟩)) ∧ W.cell? ⟨sp, 9, none⟩ = some (.int .i64 ((last : Int) + 1))) (exact ⟨by assumption, by assumption⟩)
        (first | (go_at_call 61; refine (NM.out _ ((Kept.refl _ w1).drew)).mono ?_; rintro e w2 ⟨rfl, k2⟩; have k2' : Kept [] w1 w2 := ⟨k2.os, k2.tape, k2.output, k2.size, k2.block⟩; have a0 := KC.out k2' HS1.out.1; have a9 := KC.out k2' HS1.out.2.1; have HK2 := hide k2'; clear k2 k2') | (go_at_call 27; refine (NW.out _ HK2.out).mono ?_; rintro e w3 ⟨q, rfl, fp3, wk3, k3, n3⟩; have z0 := HSP.out k3 a0; have z9 := HSP.out k3 a9; have HW3 := hide (And.intro wk3 (And.intro k3 n3)); clear wk3 k3 n3))
      obtain ⟨fd3, tv3, wk3, rfl⟩ := HW3.out.1
      have k3 := HW3.out.2.1
      have n3 := HW3.out.2.2
      have s3 := (HH.out.1.kept HK2.out (by simp)).kept k3 HH.out.2.2.2.1
      obtain ⟨_, _, _, _, _, _, t8, t9, tf⟩ := s3.cellAt
      rw [lst1] at t9
      obtain ⟨W4, hW4⟩ : ∃ W4, W4 = w3.alloc (.cells #[.int .i64 ((last : Int) + 1)] 3) := ⟨_, rfl⟩
      have b4 : Below w3.heap.size w3 W4 := by rw [hW4]; exact (Below.refl _ w3).alloc (Nat.le_refl _) _
      have s4 := s3.below b4
      have x4 : W4.cell? ⟨w3.heap.size, 0, none⟩ = some (.int .i64 ((last + 1 : Nat) : Int)) := by rw [hW4, lst1]; exact (cell_of_heap (heap_alloc_new w3 _) 0).trans rfl
      have RO := hide (And.intro s4.rows x4)
      have q8 : W4.cell? ⟨sp, 8, none⟩ = some rv := s4.cellAt.2.2.2.2.2.2.1
      have q9 : W4.cell? ⟨sp, 9, none⟩ = some (.int .i64 ((last : Int) + 1)) := by rw [← lst1]; exact s4.cellAt.2.2.2.2.2.2.2.1
      have HF := hide (And.intro s3 (And.intro wk3 (And.intro k3 (And.intro n3 (And.intro b4 s4)))))
      have HKS : Hid (∀ {W : World}, Kept (own rv) W4.drew W → W.cell? ⟨sp, 8, none⟩ = some rv ∧ W.frozen? ⟨sp, 8, none⟩ = false) := fun kk => by
        have := kk.heap9 (show W4.drew.heap[sp]? = _ from s4.cells) s4.rs
        exact ⟨(cell_of_heap this 8).trans rfl, frozen_of_heap this 8⟩
      have tf8 := tf 8
      rw [hW4] at RO HKS q8 q9
      have HW4 := hide hW4
      clear hW4
      clear s3 wk3 k3 n3 b4 s4 x4 HW3 tf z0 z9
      have hrR : R.length ≤ 1000000 := hR
      go_wp2
      go_region_law (refine step_pushO _ ?_ (.tmp 33) (.tmp 38) ?_ rv w3.heap.size R (last + 1) ?_ ?_ ?_ ?_ ?_ ?_; rfl; rfl; rfl; exact RO.out.1; rfl; exact RO.out.2; exact hrR; intro v5 w5 r5 k5 n5 a5 z55; obtain ⟨av, cv, ev, lv⟩ := r5.form; subst ev; obtain ⟨p8, f8⟩ := HKS.out k5; have HV := hide (And.intro r5 (And.intro (show Kept (own rv) (w3.alloc (.cells #[.int .i64 ((last : Int) + 1)] 3)) w5 from ⟨k5.os, k5.tape, k5.output, k5.size, k5.block⟩) (And.intro n5 (And.intro a5 z55)))); clear r5 k5 n5 a5 z55)
      all_goals
        go_wp2
        go_ret2
        obtain ⟨s3, wk3, k3, n3, b4, s4⟩ := HF.out
        obtain ⟨r5, k5, n5, a5, e5⟩ := HV.out
        rw [← HW4.out] at k5 n5 a5 e5
        rw [show (R ++ [last + 1]).length = R.length + 1 from by simp] at r5 n5 e5
        exact begin_done HH0.out.1 HH.out.2.2.2.1 HH.out.2.2.1 HK2.out k3 n3 b4 wk3 s4 r5 k5 n5 a5 e5 rfl HE1.out.1 HE1.out.2 rfl
    · have NW := hide (fun (W : World) (kk : Kept [] w1 W) => newWriter_no (HDN.out W kk) (by omega) (rowN k.temp (last + 1)) nm9 (k := 7) (by decide) hB)
      have HE1 := hide (And.intro CR.1 E1)
      clear CR E1 hB s0 s9 sf
      go_region_held (fun W => W.cell? ⟨sp, 0, none⟩ = some (.pointer (some ⟨k.p, 0, none⟩)) ∧ W.cell? ⟨sp, 9, none⟩ = some (.int .i64 ((last : Int) + 1))) (exact ⟨by assumption, by assumption⟩)
        (first | (go_at_call 61; refine (NM.out _ ((Kept.refl _ w1).drew)).mono ?_; rintro e w2 ⟨rfl, k2⟩; have k2' : Kept [] w1 w2 := ⟨k2.os, k2.tape, k2.output, k2.size, k2.block⟩; have a0 := KC.out k2' HS1.out.1; have a9 := KC.out k2' HS1.out.2.1; have HK2 := hide k2'; clear k2 k2') | (go_at_call 27; refine (NW.out _ HK2.out).mono ?_; rintro e w3 ⟨rfl, fd3, d3, k3, n3⟩; have z0 := HSP.out k3 a0; have z9 := HSP.out k3 a9; have HW3 := hide (And.intro d3 (And.intro k3 n3)); clear d3 k3 n3))
      obtain ⟨d3, k3, n3⟩ := HW3.out
      go_wp2
      go_ret2
      exact begin_crash HH0.out.1 HH.out.2.2.2.1 HH.out.2.2.1 HK2.out k3 n3 d3 ((HH.out.1.kept HK2.out (by simp)).kept k3 HH.out.2.2.2.1) HE1.out.1 HE1.out.2 rfl

end Go.Proofs.YtgpbanjammipiaaGreatDoor

namespace Go.Proofs.YtgpbanjammipiaaGreatDoor
open Go.RowKit Go.Maps

/-- The file of a row. -/
def rowB (temp : ByteArray) (n : Nat) : List UInt8 := (rowN temp n).data.toList

theorem usedB_app (a b : List Ab) : usedB (a ++ b) = usedB a + usedB b := by
  induction a with
  | nil => simp [usedB_nil]
  | cons x a ih => rw [List.cons_append, usedB_cons, usedB_cons, ih]; omega

theorem usedB_pos9 (a : List Ab) : 0 ≤ usedB a := by
  induction a with
  | nil => simp [usedB_nil]
  | cons x a ih =>
    rw [usedB_cons]
    have : 0 ≤ sec x.2.1.length := sec_nonneg _
    omega

/-- What drop leaves: rv' the rows' slice, Rl the rows. -/
def DropP (sp : Nat) (k : Skn) (A0 : Dsk) (M : List UInt8 → Prop) (w : World) (fd : List Nat) (ops n : Int) (cnt : Nat) (hv rv : Value) (H : List Rc) (R' : List Nat) (last : Nat) (top : Int) (Eo : List Ab) (e : Ending) (w' : World) : Prop :=
  ∃ B fd' rv' Rl, Dk w' fd' k.p B.1 B.2 ∧ Kept (fd ++ [sp]) w w' ∧ Newly w fd fd' ∧ ops ≤ B.2.ops ∧ B.2.ops ≤ ops + n ∧ SoM w' sp k cnt hv rv' H Rl last ∧ (∀ z ∈ own rv', z ∈ own rv) ∧ (∀ g m, endIn rv g m → endIn rv' g m) ∧
    ((e = .returned (.int .i64 0) ∧ Rl = R' ∧ Ext A0 B Eo) ∨ (e = .returned (.int .i64 7) ∧ Cr A0 B M top))

/-- In drop's loop. -/
def DropL (sp : Nat) (k : Skn) (A0 : Dsk) (M : List UInt8 → Prop) (w : World) (fd : List Nat) (ops n : Int) (cnt : Nat) (hv rv : Value) (H : List Rc) (R' : List Nat) (last : Nat) (top : Int) (Eo : List Ab) (A : Dsk) (fd' : List Nat) (rv' : Value) (rs : List Nat) (Er : List Ab) (wr : World) : Prop :=
  Dk wr fd' k.p A.1 A.2 ∧ Kept (fd ++ [sp]) w wr ∧ Newly w fd fd' ∧ SoM wr sp k cnt hv rv' H (rs ++ R') last ∧ (∀ z ∈ own rv', z ∈ own rv) ∧ (∀ g m, endIn rv g m → endIn rv' g m) ∧ Ext A0 A (Er ++ Eo) ∧ Er.map (·.1) = rs.map (rowB k.temp) ∧
    ops ≤ A.2.ops ∧ A.2.ops + rs.length ≤ ops + n ∧ usedB (Er ++ Eo) ≤ top ∧ (∀ x ∈ Er ++ Eo, M x.1) ∧ (∀ y ∈ rs, y < 1000000)

theorem Tab.ne_sorter {w : World} {sp : Nat} {k : Skn} {cnt : Nat} {hv rv : Value} {H : List Rc} {R : List Nat} {last : Nat} (ht : Tab w) (s : SoM w sp k cnt hv rv H R last) : gTab ≠ sp := by
  rintro e
  have h1 := ht
  unfold Tab Lib.TabIs World.var? at h1
  rw [gTab_is] at h1
  simp only [Option.bind_some] at h1
  rw [e, s.cells] at h1
  simp only [Option.some.injEq] at h1
  have := congrArg Array.size h1
  simp [scells, Lib.pow10Tab] at this

/-- A row goes. -/
theorem SoM.dropped {w : World} {sp : Nat} {k : Skn} {cnt : Nat} {hv : Value} {H : List Rc} {y : Nat} {R : List Nat} {last g off cap : Nat} (h : SoM w sp k cnt hv (.slice (some ⟨g, off, none⟩) (R.length + 1) cap) H (y :: R) last) :
    SoM (w.setCell ⟨sp, 8, none⟩ (.slice (if cap = 1 then some ⟨g, off, none⟩ else some ⟨g, off + 1, none⟩) (R.length + 1 - 1) (cap - 1))) sp k cnt hv (.slice (if cap = 1 then some ⟨g, off, none⟩ else some ⟨g, off + 1, none⟩) (R.length + 1 - 1) (cap - 1)) H R last := by
  have hk : Kept [sp] w (w.setCell ⟨sp, 8, none⟩ (.slice (if cap = 1 then some ⟨g, off, none⟩ else some ⟨g, off + 1, none⟩) (R.length + 1 - 1) (cap - 1))) := (Kept.refl _ _).setCell (.inl (by simp)) _
  have ho : own (.slice (if cap = 1 then some ⟨g, off, none⟩ else some ⟨g, off + 1, none⟩) (R.length + 1 - 1) (cap - 1)) = own (.slice (some ⟨g, off, none⟩) (R.length + 1) cap) := by
    by_cases hc : cap = 1 <;> simp [hc, own, Value.ownBlock]
  obtain ⟨l, hl, ho2⟩ := h.heap
  have hrs := h.rs
  have hr := h.hr
  rw [← ho] at hrs hr
  refine ⟨?_, ⟨l, hl.kept hk (fun x hx e => ?_), ho2⟩, h.rows.tail.kept hk (fun x hx e => ?_), h.hs, hrs, hr⟩
  · have := heap_setCell h.cells 8 (.slice (if cap = 1 then some ⟨g, off, none⟩ else some ⟨g, off + 1, none⟩) (R.length + 1 - 1) (cap - 1))
    simpa [scells] using this
  · simp only [List.mem_singleton] at e; subst e; exact h.hs hx
  · simp only [List.mem_singleton] at e; subst e; exact hrs hx

theorem end_tail {g off cap n g' m : Nat} (h : endIn (.slice (some ⟨g, off, none⟩) (n + 1) cap) g' m) : endIn (.slice (if cap = 1 then some ⟨g, off, none⟩ else some ⟨g, off + 1, none⟩) (n + 1 - 1) (cap - 1)) g' m := by
  intro off' n' cap' e
  by_cases hc : cap = 1
  · simp only [hc, if_pos, Value.slice.injEq] at e
    omega
  · rw [if_neg hc] at e
    simp only [Value.slice.injEq, Option.some.injEq, Addr.mk.injEq, and_true] at e
    obtain ⟨⟨rfl, rfl⟩, rfl, rfl⟩ := e
    rcases h off (n + 1) cap rfl with h | h <;> omega

theorem own_tail {g off cap n : Nat} : own (.slice (if cap = 1 then some ⟨g, off, none⟩ else some ⟨g, off + 1, none⟩) (n + 1 - 1) (cap - 1)) = [g] := by
  by_cases hc : cap = 1 <;> simp [hc, own, Value.ownBlock]

/-- Remove of a file that was made. -/
theorem remove_go {w : World} {A0 A : Dsk} {fd : List Nat} {p : Nat} {x : Ab} {E : List Ab} (h : Ext A0 (beginA A.1 A.2) (x :: E)) (d : Dk w fd p A.1 A.2) (hn : A.2.ops ≤ 1000000) (nm : ByteArray) (hnm : nm.size ≤ maxLen) (hx : x.1 = nm.data.toList) :
    Calls Tryz.prog 60 #[.pointer (some ⟨p, 0, none⟩), .string nm] w fun e w' => e = .returned (.int .i64 0) ∧ ∃ fd', Dk w' fd' p (removeA (beginA A.1 A.2) x).1 (removeA (beginA A.1 A.2) x).2 ∧ Kept fd w w' ∧ Newly w fd fd' := by
  have hl := h.here (List.mem_cons_self ..)
  rw [hx] at hl
  exact Dk.remove_ok d hn nm hnm (h.errA hl) hl

theorem remove_no {w : World} {A0 A : Dsk} {fd : List Nat} {p : Nat} {M : List UInt8 → Prop} {top : Int} (h : Cr A0 (beginA A.1 A.2) M top) (d : Dk w fd p A.1 A.2) (hn : A.2.ops ≤ 1000000) (nm : ByteArray) (hnm : nm.size ≤ maxLen) :
    Calls Tryz.prog 60 #[.pointer (some ⟨p, 0, none⟩), .string nm] w fun e w' => e = .returned (.int .i64 7) ∧ ∃ fd', Dk w' fd' p (beginA A.1 A.2).1 (beginA A.1 A.2).2 ∧ Kept fd w w' ∧ Newly w fd fd' :=
  Dk.remove_err d hn nm hnm (down_errA h.down _)

section
variable {w wr w2 w3 : World} {sp : Nat} {k : Skn} {A0 A B : Dsk} {Er Eo : List Ab} {M : List UInt8 → Prop} {fd fd' fd3 : List Nat} {cnt : Nat} {hv rv : Value} {H : List Rc} {rs R' : List Nat} {last y g off cap m : Nat} {ops n top : Int} {x : Ab}

theorem drop_next (D : DropL sp k A0 M w fd ops n cnt hv rv H R' last top Eo A fd' (.slice (some ⟨g, off, none⟩) (m + 1) cap) (y :: rs) (x :: Er) wr) (hm : m = (rs ++ R').length)
    (k2 : Kept [] wr w2) (d3 : Dk w3 fd3 k.p B.1 B.2) (k3 : Kept fd' w2 w3) (n3 : Newly w2 fd' fd3) (hspd : ∀ z ∈ sofp sp hv (.slice (some ⟨g, off, none⟩) (m + 1) cap), z ∉ fd') (hops : B.2.ops = A.2.ops + 1) (X : Ext A0 B (Er ++ Eo)) (vT : Value)
    (hT : vT = .slice (if cap = 1 then some ⟨g, off, none⟩ else some ⟨g, off + 1, none⟩) (m + 1 - 1) (cap - 1)) :
    DropL sp k A0 M w fd ops n cnt hv rv H R' last top Eo B fd3 vT rs Er (w3.setCell ⟨sp, 8, none⟩ vT) := by
  obtain ⟨d1, k1, n1, s1, o1, e1, x1, m1, p1, p2, u1, M1, y1⟩ := D
  subst hT hm
  rw [List.cons_append] at s1
  have s3 := (s1.kept k2 (by simp)).kept k3 hspd
  have s4 := s3.dropped
  have hks : Kept [sp] w3 (w3.setCell ⟨sp, 8, none⟩ (.slice (if cap = 1 then some ⟨g, off, none⟩ else some ⟨g, off + 1, none⟩) ((rs ++ R').length + 1 - 1) (cap - 1))) := (Kept.refl _ _).setCell (.inl (by simp)) _
  have k13 : Kept fd' wr w3 := (k2.mono (fp' := fd') (by simp)).trans k3 (fun _ h => .inl h)
  have hsf : sp ∉ fd3 := fun e => by
    rcases n3 sp e with h | h
    · exact hspd sp (sofp_mem.2 (.inl rfl)) h
    · have h1 := s1.lt sp (sofp_mem.2 (.inl rfl))
      have := k2.size
      omega
  refine ⟨d3.kept hks (fun z hz e => ?_), (k1.trans k13 (fun z hz => ?_)).trans hks (fun z hz => .inl (by simp at hz; subst hz; simp)), fun z hz => ?_, s4, fun z hz => o1 z (by rw [own_tail] at hz; simpa [own, Value.ownBlock] using hz), fun g' m' h => end_tail (e1 g' m' h), X, (by simp only [List.map_cons, List.cons.injEq] at m1; exact m1.2), by omega, by simp only [List.length_cons] at p2; omega, ?_, fun z hz => M1 z (by simp at hz ⊢; exact .inr hz), fun z hz => y1 z (List.mem_cons_of_mem _ hz)⟩
  · simp only [List.mem_singleton] at e; subst e; exact hsf hz
  · exact (n1 z hz).imp (fun h => List.mem_append.2 (.inl h)) id
  · rcases n3 z hz with h | h
    · exact n1 z h
    · exact .inr (Nat.le_trans k1.size (Nat.le_trans k2.size h))
  · rw [List.cons_append, usedB_cons] at u1
    have := sec_nonneg x.2.1.length
    omega

theorem drop_crash (D : DropL sp k A0 M w fd ops n cnt hv rv H R' last top Eo A fd' (.slice (some ⟨g, off, none⟩) (m + 1) cap) (y :: rs) (x :: Er) wr)
    (k2 : Kept [] wr w2) (d3 : Dk w3 fd3 k.p B.1 B.2) (k3 : Kept fd' w2 w3) (n3 : Newly w2 fd' fd3) (hspd : ∀ z ∈ sofp sp hv (.slice (some ⟨g, off, none⟩) (m + 1) cap), z ∉ fd') (hops : B.2.ops = A.2.ops + 1) (X : Cr A0 B M (usedB (x :: (Er ++ Eo)))) :
    DropP sp k A0 M w fd ops n cnt hv rv H R' last top Eo (.returned (.int .i64 7)) w3 := by
  obtain ⟨d1, k1, n1, s1, o1, e1, x1, m1, p1, p2, u1, M1, y1⟩ := D
  have k13 : Kept fd' wr w3 := (k2.mono (fp' := fd') (by simp)).trans k3 (fun _ h => .inl h)
  refine ⟨B, fd3, _, _, d3, k1.trans k13 (fun z hz => (n1 z hz).imp (fun h => List.mem_append.2 (.inl h)) id), fun z hz => ?_, by omega, by simp only [List.length_cons] at p2; omega, (s1.kept k2 (by simp)).kept k3 hspd, o1, e1, .inr ⟨rfl, X.mono (fun _ h => h) u1⟩⟩
  rcases n3 z hz with h | h
  · exact n1 z h
  · exact .inr (Nat.le_trans k1.size (Nat.le_trans k2.size h))
end

set_option maxRecDepth 100000 in
set_option maxHeartbeats 4000000 in
theorem soDrop_any {w : World} {sp : Nat} {k : Skn} {A0 A : Dsk} {Er Eo : List Ab} {M : List UInt8 → Prop} {fd : List Nat} {cnt : Nat} {hv rv : Value} {H : List Rc} {rs R' : List Nat} {last n : Nat}
    (s : SoM w sp k cnt hv rv H (rs ++ R') last) (d : Dk w fd k.p A.1 A.2) (hd : ∀ z ∈ sofp sp hv rv, z ∉ fd) (hx : Ext A0 A (Er ++ Eo)) (hE : Er.map (·.1) = rs.map (rowB k.temp)) (hM : ∀ x ∈ Er ++ Eo, M x.1) (ht : Tab w) (htd : gTab ∉ fd) (htm : k.temp.size ≤ 17) (hrs : ∀ y ∈ rs, y < 1000000) (hn : rs.length = n)
    (hops : A.2.ops + n ≤ 999990) (hn9 : n ≤ 1000000) :
    Calls Tryz.prog 87 #[.pointer (some ⟨sp, 0, none⟩), .int .i64 (n : Int)] w (DropP sp k A0 M w fd A.2.ops n cnt hv rv H R' last (usedB (Er ++ Eo)) Eo) := by
  have HL := hide (show DropL sp k A0 M w fd A.2.ops n cnt hv rv H R' last (usedB (Er ++ Eo)) Eo A fd rv rs Er w from
    ⟨d, Kept.refl _ _, Newly.refl _ _, s, fun _ h => h, fun _ _ h => h, hx, hE, Int.le_refl _, by rw [hn]; exact Int.le_refl _, Int.le_refl _, hM, hrs⟩)
  have hgs : gTab ≠ sp := ht.ne_sorter s
  have HN := hide hn
  have HT := hide (And.intro ht (And.intro htd (And.intro hd s.lt)))
  obtain ⟨ops, hop⟩ : ∃ o, o = A.2.ops := ⟨_, rfl⟩
  rw [← hop] at HL hops ⊢
  obtain ⟨top, htop⟩ : ∃ t, t = usedB (Er ++ Eo) := ⟨_, rfl⟩
  rw [← htop] at HL ⊢
  clear s d hd hx hE hM ht htd hrs hop htop hn
  go_enter Tryz.func87, Tryz.ntmps87
  go_wp2_with fail
  go_loopg [7] (n) (fun gk i wr => ∃ j : Nat, i = .int .i64 (j : Int) ∧ j + gk = n ∧ Hid (∃ A' fd' rv' rs' Er', rs'.length = gk ∧ DropL sp k A0 M w fd ops n cnt hv rv H R' last top Eo A' fd' rv' rs' Er' wr))
  case atStart => exact ⟨0, rfl, by omega, A, fd, rv, rs, Er, HN.out, HL.out⟩
  case round =>
    obtain ⟨j, rfl, hj, hr⟩ := hrel
    cases gk with
    | zero =>
      have hjn : ¬ (j : Int) < (n : Int) := by omega
      go_wp2
      go_ret
      obtain ⟨A', fd', rv', rs', Er', hg, D⟩ := hr.out
      obtain rfl : rs' = [] := List.eq_nil_of_length_eq_zero hg
      obtain ⟨d1, k1, n1, s1, o1, e1, x1, m1, p1, p2, u1, M1, y1⟩ := D
      obtain rfl : Er' = [] := by simpa using m1
      exact ⟨A', fd', rv', R', d1, k1, n1, p1, by simp at p2; omega, by simpa using s1, o1, e1, .inl ⟨rfl, rfl, by simpa using x1⟩⟩
    | succ gk =>
      have hjn : (j : Int) < (n : Int) := by omega
      obtain ⟨A', fd', rv', rs', Er', hg, D⟩ := hr.out
      cases rs' with
      | nil => simp at hg
      | cons y rs' =>
        cases Er' with
        | nil =>
          have := D.2.2.2.2.2.2.2.1
          simp at this
        | cons x Er' =>
          obtain ⟨d1, k1, n1, s1, o1, e1, x1, m1, p1, p2, u1, M1, y1⟩ := D
          rw [List.cons_append] at s1 x1
          simp only [List.map_cons, List.cons.injEq] at m1
          have BG := x1.begin d1.ok M1
          obtain ⟨g, off, cap, rfl, hcap, hc0, hown⟩ := s1.rows.first
          obtain ⟨m, hm⟩ : ∃ m, m = (rs' ++ R').length := ⟨_, rfl⟩
          rw [← hm] at s1 o1 e1 hcap
          have HD : Hid (DropL sp k A0 M w fd ops n cnt hv rv H R' last top Eo A' fd' (.slice (some ⟨g, off, none⟩) (m + 1) cap) (y :: rs') (x :: Er') wr) := ⟨d1, k1, n1, s1, o1, e1, x1, by simpa using m1, p1, p2, u1, M1, y1⟩
          have hlt1 := s1.lt
          obtain ⟨s0, _, _, _, _, _, s8, _, sf⟩ := s1.cellAt
          have sf8 := sf 8
          have hy := y1 y (by simp)
          have nm9 := (rowN_may htm hy).2
          have hspd : Hid (∀ z ∈ sofp sp hv (.slice (some ⟨g, off, none⟩) (m + 1) cap), z ∉ fd') := fun z hz e => by
            have hz0 : z ∈ sofp sp hv rv := by
              rcases sofp_mem.1 hz with h | h | h
              · exact sofp_mem.2 (.inl h)
              · exact sofp_mem.2 (.inr (.inl h))
              · exact sofp_mem.2 (.inr (.inr (o1 z h)))
            rcases n1 z e with h | h
            · exact HT.out.2.2.1 z hz0 h
            · have := HT.out.2.2.2 z hz0
              omega
          have htw : Hid (Tab wr) := (HT.out.1.kept k1 (fun e => by
            rcases List.mem_append.1 e with e | e
            · exact HT.out.2.1 e
            · simp only [List.mem_singleton] at e
              exact hgs e)).1
          have NM : Hid (∀ W, Below wr.heap.size wr W → Calls Tryz.prog 61 #[.pointer (some ⟨sp, 0, none⟩), .int .i64 (y : Int)] W fun e w' => e = .returned (.string (rowN k.temp y)) ∧ Kept [] W w') := fun W b =>
            name_any (ht := htw.out.below b) (sp := sp) (temp := k.temp) (s1.below b).cellAt.2.1 htm y hy
          have hopl : A'.2.ops ≤ 1000000 := by simp at p2; omega
          have HH := hide (And.intro s1 (And.intro d1 (And.intro k1 (And.intro n1 (And.intro o1 (And.intro e1 (And.intro x1 (And.intro m1 (And.intro p1 (And.intro p2 (And.intro u1 (And.intro M1 y1))))))))))))
          have KC : Hid (∀ {W W' : World} {b o : Nat} {u : Value}, Kept [] W W' → W.cell? ⟨b, o, none⟩ = some u → W'.cell? ⟨b, o, none⟩ = some u) := fun kk c => kk.cell c (by simp)
          have HSP : Hid (∀ {W W' : World} {b o : Nat} {u : Value}, b ∈ sofp sp hv (.slice (some ⟨g, off, none⟩) (m + 1) cap) → Kept fd' W W' → W.cell? ⟨b, o, none⟩ = some u → W'.cell? ⟨b, o, none⟩ = some u) := fun hb kk c => kk.cell c (hspd.out _ hb)
          have hbs := hide (show sp ∈ sofp sp hv (.slice (some ⟨g, off, none⟩) (m + 1) cap) from sofp_mem.2 (.inl rfl))
          have hbg := hide (show g ∈ sofp sp hv (.slice (some ⟨g, off, none⟩) (m + 1) cap) from sofp_mem.2 (.inr (.inr (by simp [own, Value.ownBlock]))))
          have HSF : Hid (∀ {W : World}, Kept fd' wr W → W.frozen? ⟨sp, 8, none⟩ = false) := fun kk => (s1.kept kk hspd.out).cellAt.2.2.2.2.2.2.2.2 8
          have hg9 : rs'.length = gk := by simpa using hg
          have HM := hide (And.intro hm hg9)
          clear hg hm hg9
          clear hr s1 d1 k1 n1 o1 e1 x1 p1 p2 u1 M1 y1 hlt1 sf hown hy htw
          have hc : wr.drew.cell? ⟨sp, 0, none⟩ = some (.pointer (some ⟨k.p, 0, none⟩)) := s0
          have hc8 : wr.drew.cell? ⟨sp, 8, none⟩ = some (.slice (some ⟨g, off, none⟩) (m + 1) cap) := s8
          have hcg : wr.drew.cell? ⟨g, off, none⟩ = some (.int .i64 (y : Int)) := hc0
          rcases BG.2 with ⟨xb, _⟩ | xb
          · have RM : Hid (∀ W, Kept [] wr W → Calls Tryz.prog 60 #[.pointer (some ⟨k.p, 0, none⟩), .string (rowN k.temp y)] W fun e w' => e = .returned (.int .i64 0) ∧ ∃ fd2, Dk w' fd2 k.p (removeA (beginA A'.1 A'.2) x).1 (removeA (beginA A'.1 A'.2) x).2 ∧ Kept fd' W w' ∧ Newly W fd' fd2) :=
              fun W kk => remove_go xb (HH.out.2.1.kept kk (by simp)) hopl _ nm9 m1.1
            have HX := hide (And.intro xb BG.1)
            clear BG xb
            go_wp2
            go_region_held (fun W => W.cell? ⟨sp, 0, none⟩ = some (.pointer (some ⟨k.p, 0, none⟩)) ∧ W.cell? ⟨sp, 8, none⟩ = some (.slice (some ⟨g, off, none⟩) (m + 1) cap) ∧ W.cell? ⟨g, off, none⟩ = some (.int .i64 (y : Int))) (exact ⟨by assumption, by assumption, by assumption⟩)
              (first | (go_at_call 61; refine (NM.out _ ((Below.refl _ wr).drew)).mono ?_; rintro e w2 ⟨rfl, k2⟩; have k2' : Kept [] wr w2 := ⟨k2.os, k2.tape, k2.output, k2.size, k2.block⟩; have a0 := KC.out k2 hc; have a8 := KC.out k2 hc8; have ag := KC.out k2 hcg; have HK2 := hide k2'; clear k2 k2') | (go_at_call 60; refine (RM.out _ HK2.out).mono ?_; rintro e w3 ⟨rfl, fd3, d3, k3, n3⟩; have z0 := HSP.out hbs.out k3 a0; have z8 := HSP.out hbs.out k3 a8; have zg := HSP.out hbg.out k3 ag; have HW3 := hide (And.intro d3 (And.intro k3 n3)); clear d3 k3 n3))
            have q8 := HSF.out ((HK2.out.mono (fp' := fd') (by simp)).trans HW3.out.2.1 (fun _ h => .inl h))
            go_wp2
            all_goals
              go_roundg gk
              case measure => omega
              case rel =>
                refine ⟨j + 1, rfl, by omega, ?_⟩
                refine ⟨_, _, _, rs', Er', HM.out.2, drop_next HD.out HM.out.1 HK2.out HW3.out.1 HW3.out.2.1 HW3.out.2.2 hspd.out HX.out.2 HX.out.1.remove _ ?_⟩
                first | (rw [if_neg ‹_›]; rfl) | (rw [if_pos ‹cap = 1›, ‹cap = 1›]; rfl)
          · have RM : Hid (∀ W, Kept [] wr W → Calls Tryz.prog 60 #[.pointer (some ⟨k.p, 0, none⟩), .string (rowN k.temp y)] W fun e w' => e = .returned (.int .i64 7) ∧ ∃ fd2, Dk w' fd2 k.p (beginA A'.1 A'.2).1 (beginA A'.1 A'.2).2 ∧ Kept fd' W w' ∧ Newly W fd' fd2) :=
              fun W kk => remove_no xb (HH.out.2.1.kept kk (by simp)) hopl _ nm9
            have HX := hide (And.intro xb BG.1)
            clear BG xb
            go_wp2
            go_region_held (fun W => W.cell? ⟨sp, 0, none⟩ = some (.pointer (some ⟨k.p, 0, none⟩)) ∧ W.cell? ⟨sp, 8, none⟩ = some (.slice (some ⟨g, off, none⟩) (m + 1) cap) ∧ W.cell? ⟨g, off, none⟩ = some (.int .i64 (y : Int))) (exact ⟨by assumption, by assumption, by assumption⟩)
              (first | (go_at_call 61; refine (NM.out _ ((Below.refl _ wr).drew)).mono ?_; rintro e w2 ⟨rfl, k2⟩; have k2' : Kept [] wr w2 := ⟨k2.os, k2.tape, k2.output, k2.size, k2.block⟩; have a0 := KC.out k2 hc; have a8 := KC.out k2 hc8; have ag := KC.out k2 hcg; have HK2 := hide k2'; clear k2 k2') | (go_at_call 60; refine (RM.out _ HK2.out).mono ?_; rintro e w3 ⟨rfl, fd3, d3, k3, n3⟩; have z0 := HSP.out hbs.out k3 a0; have z8 := HSP.out hbs.out k3 a8; have zg := HSP.out hbg.out k3 ag; have HW3 := hide (And.intro d3 (And.intro k3 n3)); clear d3 k3 n3))
            go_wp2
            go_ret
            exact drop_crash HD.out HK2.out HW3.out.1 HW3.out.2.1 HW3.out.2.2 hspd.out HX.out.2 HX.out.1

end Go.Proofs.YtgpbanjammipiaaGreatDoor

namespace Go.Proofs.YtgpbanjammipiaaGreatDoor
open Go.RowKit Go.Maps

/-- A source's record in the heap of sources. -/
def elt (x : Rc) (row : Int) : K.Rc := (x.1, x.2, row)

/-- What merge's push leaves. -/
def PushP (bk : Int → Nat) (w : World) (p : Nat) (fd fs : List Nat) (A : Dsk) (s : Sid) (rs : List Rc) (hb : Nat) (hv : Value) (L : List K.Rc) (e : Ending) (w' : World) : Prop :=
  ∃ B fd' e', e = .returned (.int .i64 e') ∧ Dk w' fd' p B.1 B.2 ∧ Kept (fd ++ fs ++ hb :: own hv) w w' ∧ Newly w (fd ++ fs) fd' ∧ Red 2 A B ∧
    ((B.2.down = false ∧ e' = 0 ∧ ∃ fs' hv' L', K.Hp bk w' hb hv' L' ∧ Newly w (own hv) (own hv') ∧ (∀ y ∈ fs', y ∉ fd') ∧ Newly w (fd ++ fs) fs' ∧ (∀ y ∈ hb :: own hv', y ∉ fd' ∧ y ∉ fs') ∧
        ((∃ x' rs', rs = x' :: rs' ∧ SoA w' p fs' s x' true rs' 0 ∧ L' = K.insR (elt x' s.row) L) ∨ (rs = [] ∧ L' = L ∧ fs' = []))) ∨
     (B.2.down = true ∧ e' = 7))

section
variable {bk : Int → Nat} {w w1 w2 : World} {p : Nat} {fd fd1 fs fs1 : List Nat} {A B : Dsk} {s : Sid} {x x1 : Rc} {i : Bool} {rs rs1 : List Rc} {hb : Nat} {hv hv' : Value} {L : List K.Rc}

/-- A block that is apart stays so. -/
theorem apart_new {fa fb : List Nat} {z : Nat} (hn : Newly w fa fb) (hz : z < w.heap.size) (ha : z ∉ fa) : z ∉ fb := fun e => by
  rcases hn z e with h | h
  · exact ha h
  · omega

set_option maxRecDepth 100000 in
set_option maxHeartbeats 4000000 in
theorem mpush_any (so : SoA w p fs s x i rs 0) (d : Dk w fd p A.1 A.2) (hp : K.Hp bk w hb hv L) (hbk : bk s.row = s.b) (hrow : 0 ≤ s.row ∧ s.row < 9223372036854775808) (hok : ∀ y ∈ rs, okR y) (hd : ∀ y ∈ fs, y ∉ fd) (h1 : hb ∉ fd ++ fs) (h2 : ∀ y ∈ own hv, y ∉ fd ++ fs) (h3 : ∀ e ∈ L, bk e.2.2 ∉ fd ++ fs)
    (hup : A.2.down = false) (hf : ∃ x, lookA A.1 s.nm.data.toList = some x ∧ s.c <+: x.2.1) (hk : A.2.ops ≤ 999998) (hnm : s.nm.size ≤ maxLen) (hmax : L.length ≤ 100000) :
    Calls Tryz.prog 83 #[.pointer (some ⟨s.b, 0, none⟩), .pointer (some ⟨hb, 0, none⟩)] w (PushP bk w p fd fs A s rs hb hv L) := by
  have ST := hide (step_any so d hd hup hf hk hnm)
  have HH := hide (And.intro so (And.intro hp (And.intro hbk (And.intro hrow (And.intro hok (And.intro h1 (And.intro h2 (And.intro h3 hmax))))))))
  have hbl := hp.lt
  have hsl := so.lt
  have HL := hide (And.intro hbl (And.intro hsl so.mem))
  obtain ⟨b, hb9⟩ : ∃ b, b = s.b := ⟨_, rfl⟩
  rw [← hb9] at ST ⊢
  have HB := hide hb9
  clear so d hp hbk hrow hok hd h1 h2 h3 hf hnm hmax hbl hsl hb9 hup
  go_enter Tryz.func83, Tryz.ntmps83
  go_wp2_with fail
  refine ST.out.mono ?_
  rintro e w1 ⟨B, fd1, e', rfl, d1, k1, n1, R1, CS⟩
  obtain ⟨so, hp, hbk, hrow, hok, h1, h2, h3, hmax⟩ := HH.out
  obtain ⟨⟨hl1, hl2, hl3⟩, hsl, hsm⟩ := HL.out
  have hp1 := hp.kept k1 h1 h2 h3
  have a1 : hb ∉ fd1 := apart_new n1 hl1 h1
  have a2 : ∀ y ∈ own hv, y ∉ fd1 := fun y hy => apart_new n1 (hl2 y hy) (h2 y hy)
  have kk1 : Kept (fd ++ fs ++ hb :: own hv) w w1 := k1.mono (fun z hz => List.mem_append.2 (.inl hz))
  rcases CS with ⟨up, fs1, x1, i1, rs1, so1, ds1, ns1, ⟨rfl, rfl, rfl⟩ | ⟨rfl, rfl, rfl, rfl⟩⟩ | ⟨dn, rfl, x1, hc⟩
  · have hsrc := so1.src
    have c2 : w1.cell? ⟨b, 2, none⟩ = some (.bool true) := by rw [HB.out]; exact cell_of_heap hsrc 2
    have b1 : hb ∉ fs1 := apart_new ns1 hl1 h1
    have b2 : ∀ y ∈ own hv, y ∉ fs1 := fun y hy => apart_new ns1 (hl2 y hy) (h2 y hy)
    have hsv : bk s.row ∉ own hv := by rw [hbk]; exact fun e => b2 _ e so1.mem
    have PU := hide (hp1.push hmax (x := elt x1 s.row) (by
      have := hok x1 (by simp)
      exact ⟨this.1, this.2, hrow⟩) (by
      show K.Src w1 (bk s.row) _
      rw [hbk]
      exact ⟨_, _, hsrc⟩) hsv)
    have PU2 : Hid (Calls Tryz.prog 84 #[.pointer (some ⟨hb, 0, none⟩), .pointer (some ⟨b, 0, none⟩)] w1 fun e w' => e = .returned (.tuple #[]) ∧
      ∃ v', K.Hp bk w' hb v' (K.insR (elt x1 s.row) L) ∧ Kept (hb :: own hv) w1 w' ∧ Newly w1 (own hv) (own v')) := by
      have := PU.out
      rw [show bk (elt x1 s.row).2.2 = b from by rw [HB.out]; exact hbk] at this
      exact this
    have HF := hide (And.intro d1 (And.intro kk1 (And.intro n1 (And.intro R1 (And.intro up (And.intro so1 (And.intro ds1 (And.intro ns1 (And.intro a1 (And.intro a2 (And.intro b1 b2)))))))))))
    clear d1 k1 kk1 n1 R1 up so1 ds1 ns1 a1 a2 b1 b2 hsrc PU so hp hbk hrow hok h1 h2 h3 hmax hl1 hl2 hl3 hsl hsm hsv hp1
    go_wp2_with fail
    refine PU2.out.mono ?_
    rintro e w2 ⟨rfl, hv', hp2, k2, n2⟩
    have HG := hide (And.intro hp2 (And.intro k2 n2))
    clear hp2 k2 n2
    go_wp2
    go_ret
    obtain ⟨d1, kk1, n1, R1, up, so1, ds1, ns1, a1, a2, b1, b2⟩ := HF.out
    obtain ⟨hp2, k2, n2⟩ := HG.out
    refine ⟨B, fd1, 0, rfl, d1.kept k2 (fun z hz e => ?_), kk1.trans k2 (fun z hz => .inl (List.mem_append.2 (.inr hz))), n1, R1, .inl ⟨up, rfl, fs1, hv', _, hp2, fun z hz => (n2 z hz).imp id (fun e => Nat.le_trans kk1.size e), ds1, ns1, fun y hy => ?_, .inl ⟨x1, rs1, rfl, so1.kept k2 (fun y hy e => ?_), rfl⟩⟩⟩
    · rcases List.mem_cons.1 e with rfl | e
      · exact a1 hz
      · exact a2 z e hz
    · rcases List.mem_cons.1 hy with rfl | hy
      · exact ⟨a1, b1⟩
      · rcases n2 y hy with e | e
        · exact ⟨a2 y e, b2 y e⟩
        · exact ⟨fun e2 => by have := d1.lt y e2; omega, fun e2 => by have := so1.lt y e2; omega⟩
    · rcases List.mem_cons.1 e with rfl | e
      · exact b1 hy
      · exact b2 y e hy
  · have hsrc := so1.src
    have c2 : w1.cell? ⟨b, 2, none⟩ = some (.bool false) := by rw [HB.out]; exact cell_of_heap hsrc 2
    have HF := hide (And.intro d1 (And.intro kk1 (And.intro n1 (And.intro R1 (And.intro up (And.intro hp1 (And.intro a1 a2)))))))
    clear d1 k1 kk1 n1 R1 up so1 ds1 ns1 a1 a2 hsrc so hp hbk hrow hok h1 h2 h3 hmax hl1 hl2 hl3 hsl hsm hp1
    go_wp2
    go_ret
    obtain ⟨d1, kk1, n1, R1, up, hp1, a1, a2⟩ := HF.out
    refine ⟨B, fd1, 0, rfl, d1, kk1, n1, R1, .inl ⟨up, rfl, [], hv, L, hp1, Newly.refl _ _, by simp, fun z hz => by simp at hz, fun y hy => ⟨?_, by simp⟩, .inr ⟨rfl, rfl, rfl⟩⟩⟩
    rcases List.mem_cons.1 hy with rfl | hy
    · exact a1
    · exact a2 y hy
  · have c2 : w1.cell? ⟨b, 2, none⟩ = some (.bool false) := by rw [HB.out]; exact cell_of_heap hc 2
    have HF := hide (And.intro d1 (And.intro kk1 (And.intro n1 (And.intro R1 dn))))
    clear d1 k1 kk1 n1 R1 a1 a2 so hp hbk hrow hok h1 h2 h3 hmax hl1 hl2 hl3 hsl hsm hp1 hc dn
    go_wp2
    go_ret
    obtain ⟨d1, kk1, n1, R1, dn⟩ := HF.out
    exact ⟨B, fd1, 7, rfl, d1, kk1, n1, R1, .inr ⟨dn, rfl⟩⟩
end

end Go.Proofs.YtgpbanjammipiaaGreatDoor

namespace Go.Proofs.YtgpbanjammipiaaGreatDoor
open Go.RowKit Go.Maps

/-- A source that tells yet. -/
structure Asr where
  sid : Sid
  x : Rc
  rs : List Rc
  fs : List Nat
/-- What it will tell. -/
def Asr.all (a : Asr) : List Rc := a.x :: a.rs
/-- What the heap has of it. -/
def Asr.elt (a : Asr) : K.Rc := Go.Proofs.YtgpbanjammipiaaGreatDoor.elt a.x a.sid.row

/-- Apart. -/
def Dis (a b : List Nat) : Prop := ∀ y ∈ a, y ∉ b
theorem Dis.symm {a b : List Nat} (h : Dis a b) : Dis b a := fun y hy e => h y e hy

/-- A source's file is among those that were made; what it will tell rises. -/
structure Asr.Good (bk : Int → Nat) (E : List Ab) (a : Asr) : Prop where
  at_ : bk a.sid.row = a.sid.b
  row : 0 ≤ a.sid.row ∧ a.sid.row < 9223372036854775808
  ok : ∀ y ∈ a.all, okR y
  rises : Rises a.all
  file : ∃ F G, (a.sid.nm.data.toList, F, G) ∈ E ∧ a.sid.c <+: F
  nm : a.sid.nm.size ≤ maxLen

/-- The lists of blocks. -/
def mgCh (hb pb sp : Nat) (hvS rvS hv : Value) (P : List Asr) : List (List Nat) := own hv :: [hb] :: [pb] :: sofp sp hvS rvS :: P.map (·.fs)

/-- merge's feed in memory. -/
structure MgI (bk : Int → Nat) (W0 : World) (hb pb sp : Nat) (k : Skn) (cnt : Nat) (hvS rvS : Value) (HS : List Rc) (R : List Nat) (last : Nat) (E : List Ab) (w : World) (ff : List Nat) (S : List Rc) (hv : Value) (L : List K.Rc) (P : List Asr) : Prop where
  heap : K.Hp bk w hb hv L
  perm : L.Perm (P.map Asr.elt)
  srcs : ∀ a ∈ P, SoA w k.p a.fs a.sid a.x true a.rs 0 ∧ a.Good bk E
  dis : (mgCh hb pb sp hvS rvS hv P).Pairwise Dis
  push : w.heap[pb]? = some (.cells #[.func (.func 83) #[] #[.pointer (some ⟨hb, 0, none⟩)]] 106 (0, 0))
  sor : SoM w sp k cnt hvS rvS HS R last
  same : ∀ g ∈ sofp sp hvS rvS, w.heap[g]? = W0.heap[g]?
  rises : Rises S
  all : S.Perm (P.flatMap Asr.all)
  foot : ff = (mgCh hb pb sp hvS rvS hv P).flatten
  few : P.length ≤ 100000

/-- What is left behind an error. -/
def MgE (W0 : World) (sp : Nat) (k : Skn) (cnt : Nat) (hvS rvS : Value) (HS : List Rc) (R : List Nat) (last : Nat) (w : World) (ff : List Nat) : Prop :=
  SoM w sp k cnt hvS rvS HS R last ∧ (∀ g ∈ sofp sp hvS rvS, w.heap[g]? = W0.heap[g]?) ∧ ∀ z ∈ sofp sp hvS rvS, z ∈ ff

theorem heap_kept {fp : List Nat} {w w' : World} (h : Kept fp w w') {b : Nat} (hb : b < w.heap.size) (hf : b ∉ fp) : w'.heap[b]? = w.heap[b]? := by
  have h1 : w.heap[b]? = some w.heap[b] := Array.getElem?_eq_getElem hb
  rw [h1]
  exact h.heap h1 hf

section
variable {bk : Int → Nat} {W0 w w' : World} {hb pb sp : Nat} {k : Skn} {cnt : Nat} {hvS rvS hv : Value} {HS S : List Rc} {R : List Nat} {last : Nat} {E : List Ab} {ff fq : List Nat} {L : List K.Rc} {P : List Asr}

theorem mgCh_mem {z : Nat} : z ∈ (mgCh hb pb sp hvS rvS hv P).flatten ↔ z ∈ own hv ∨ z = hb ∨ z = pb ∨ z ∈ sofp sp hvS rvS ∨ ∃ a ∈ P, z ∈ a.fs := by
  simp [mgCh]
  constructor
  · rintro (h | h | h | h | ⟨l, ⟨a, ha, rfl⟩, h⟩)
    · exact .inl h
    · exact .inr (.inl h)
    · exact .inr (.inr (.inl h))
    · exact .inr (.inr (.inr (.inl h)))
    · exact .inr (.inr (.inr (.inr ⟨a, ha, h⟩)))
  · rintro (h | h | h | h | ⟨a, ha, h⟩)
    · exact .inl h
    · exact .inr (.inl h)
    · exact .inr (.inr (.inl h))
    · exact .inr (.inr (.inr (.inl h)))
    · exact .inr (.inr (.inr (.inr ⟨_, ⟨a, ha, rfl⟩, h⟩)))

theorem MgI.low (h : MgI bk W0 hb pb sp k cnt hvS rvS HS R last E w ff S hv L P) : ∀ x ∈ ff, x < w.heap.size := fun x hx => by
  rw [h.foot] at hx
  rcases mgCh_mem.1 hx with hx | rfl | rfl | hx | ⟨a, ha, hx⟩
  · exact h.heap.lt.2.1 x hx
  · exact h.heap.lt.1
  · exact heap_lt h.push
  · exact h.sor.lt x hx
  · exact (h.srcs a ha).1.lt x hx

theorem MgI.blocks (h : MgI bk W0 hb pb sp k cnt hvS rvS HS R last E w ff S hv L P) : ∀ e ∈ L, ∃ a ∈ P, e = a.elt ∧ bk e.2.2 ∈ a.fs := fun e he => by
  obtain ⟨a, ha, rfl⟩ := List.mem_map.1 (h.perm.mem_iff.1 he)
  refine ⟨a, ha, rfl, ?_⟩
  show bk a.sid.row ∈ a.fs
  rw [(h.srcs a ha).2.at_]
  exact (h.srcs a ha).1.mem

theorem MgI.stay (h : MgI bk W0 hb pb sp k cnt hvS rvS HS R last E w ff S hv L P) (hk : Kept fq w w') (hf : ∀ x ∈ ff, x ∉ fq) : MgI bk W0 hb pb sp k cnt hvS rvS HS R last E w' ff S hv L P := by
  have hff : ∀ {z}, (z ∈ own hv ∨ z = hb ∨ z = pb ∨ z ∈ sofp sp hvS rvS ∨ ∃ a ∈ P, z ∈ a.fs) → z ∉ fq := fun {z} hz => hf z (by rw [h.foot]; exact mgCh_mem.2 hz)
  refine ⟨h.heap.kept hk (hff (.inr (.inl rfl))) (fun x hx => hff (.inl hx)) (fun e he => ?_), h.perm, fun a ha => ⟨(h.srcs a ha).1.kept hk (fun y hy => hff (.inr (.inr (.inr (.inr ⟨a, ha, hy⟩))))), (h.srcs a ha).2⟩, h.dis, hk.heap9 h.push (hff (.inr (.inr (.inl rfl)))),
    h.sor.kept hk (fun x hx => hff (.inr (.inr (.inr (.inl hx))))), fun g hg => ?_, h.rises, h.all, h.foot, h.few⟩
  · obtain ⟨a, ha, _, hm⟩ := h.blocks e he
    exact hff (.inr (.inr (.inr (.inr ⟨a, ha, hm⟩))))
  · rw [heap_kept hk (h.sor.lt g hg) (hff (.inr (.inr (.inr (.inl hg)))))]
    exact h.same g hg

theorem MgI.okS (h : MgI bk W0 hb pb sp k cnt hvS rvS HS R last E w ff S hv L P) : ∀ e ∈ S, okR e := fun e he => by
  obtain ⟨a, ha, hm⟩ := List.mem_flatMap.1 (h.all.mem_iff.1 he)
  exact (h.srcs a ha).2.ok e hm

theorem MgI.err (h : MgI bk W0 hb pb sp k cnt hvS rvS HS R last E w ff S hv L P) : MgE W0 sp k cnt hvS rvS HS R last w ff :=
  ⟨h.sor, h.same, fun z hz => by rw [h.foot]; exact mgCh_mem.2 (.inr (.inr (.inr (.inl hz))))⟩

theorem MgE.below (h : MgE W0 sp k cnt hvS rvS HS R last w ff) (hb : Below w.heap.size w w') : MgE W0 sp k cnt hvS rvS HS R last w' ff :=
  ⟨h.1.below hb, fun g hg => by
    rw [heap_kept (Kept.of_below (fp := []) hb) (h.1.lt g hg) (by simp)]
    exact h.2.1 g hg, h.2.2⟩

/-- None tells: there are none. -/
theorem MgI.nil (h : MgI bk W0 hb pb sp k cnt hvS rvS HS R last E w ff S hv [] P) : P = [] ∧ S = [] := by
  obtain rfl : P = [] := by
    have := h.perm.length_eq
    simp at this
    exact List.eq_nil_of_length_eq_zero this.symm
  exact ⟨rfl, List.eq_nil_of_length_eq_zero (by have := h.all.length_eq; simpa using this)⟩

/-- The sources may stand in any order. -/
theorem MgI.reord (h : MgI bk W0 hb pb sp k cnt hvS rvS HS R last E w ff S hv L P) {Q : List Asr} (hq : P.Perm Q) :
    L.Perm (Q.map Asr.elt) ∧ (∀ a ∈ Q, SoA w k.p a.fs a.sid a.x true a.rs 0 ∧ a.Good bk E) ∧ (mgCh hb pb sp hvS rvS hv Q).Pairwise Dis ∧ S.Perm (Q.flatMap Asr.all) ∧ Q.length = P.length :=
  ⟨h.perm.trans (hq.map _), fun a ha => h.srcs a (hq.mem_iff.2 ha), h.dis.perm (((((hq.map _).cons _).cons _).cons _).cons _) (fun h => h.symm), h.all.trans (hq.flatMap_right _), hq.symm.length_eq⟩

theorem ltR_rec {x y : Rc} {r s : Int} (h : K.ltR (elt y s) (elt x r) = false) : ltR y x = false := by
  obtain ⟨x1, x2⟩ := x
  obtain ⟨y1, y2⟩ := y
  change K.ltR (y1, y2, s) (x1, x2, r) = false at h
  simp only [K.ltR, ltR, Bool.or_eq_false_iff, Bool.and_eq_false_iff, decide_eq_false_iff_not] at h ⊢
  omega

theorem ltR_tr {x y z : Rc} (h : ltR y x = false) (k : ltR z y = false) : ltR z x = false := by
  obtain ⟨x1, x2⟩ := x
  obtain ⟨y1, y2⟩ := y
  obtain ⟨z1, z2⟩ := z
  simp only [ltR, Bool.or_eq_false_iff, Bool.and_eq_false_iff, decide_eq_false_iff_not] at h k ⊢
  omega

/-- The first one of the heap tells the first record. -/
theorem MgI.first {e : K.Rc} (h : MgI bk W0 hb pb sp k cnt hvS rvS HS R last E w ff S hv (e :: L) P) :
    ∃ a Q, P.Perm (a :: Q) ∧ e = a.elt ∧ ∃ S', S = a.x :: S' ∧ S'.Perm (a.rs ++ Q.flatMap Asr.all) ∧ Rises S' := by
  obtain ⟨a, ha, he⟩ := List.mem_map.1 (h.perm.mem_iff.1 (List.mem_cons_self ..))
  obtain ⟨P1, P2, rfl⟩ := List.append_of_mem ha
  have hq : (P1 ++ a :: P2).Perm (a :: (P1 ++ P2)) := List.perm_middle
  obtain ⟨q1, q2, q3, q4, q5⟩ := h.reord hq
  have hL : Rises S := h.rises
  obtain ⟨l, hl, ho⟩ := h.heap
  have hK := ho.rises
  refine ⟨a, P1 ++ P2, hq, he.symm, ?_⟩
  have hall : ∀ b ∈ a :: (P1 ++ P2), ltR b.x a.x = false := fun b hb => by
    rcases List.mem_cons.1 hb with rfl | hb
    · obtain ⟨x1, x2⟩ := b.x
      simp [ltR]
    · have hm : b.elt ∈ e :: L := h.perm.mem_iff.2 (List.mem_map.2 ⟨b, hq.mem_iff.2 (List.mem_cons_of_mem _ hb), rfl⟩)
      rcases List.mem_cons.1 hm with h2 | h2
      · have h3 : elt b.x b.sid.row = elt a.x a.sid.row := h2.trans he.symm
        simp only [elt, Prod.mk.injEq] at h3
        obtain ⟨b1, b2, _⟩ := h3
        simp [ltR, b1, b2]
      · have := (List.pairwise_cons.1 hK).1 _ h2
        rw [← he] at this
        exact ltR_rec this
  have hS : S = insR a.x (sortR [] (a.rs ++ (P1 ++ P2).flatMap Asr.all)) := by
    refine Rises.unique hL (insR_rises _ (sorts_rise _)) (q4.trans ?_)
    refine .trans ?_ ((insR_perm _ _).symm)
    simp only [List.flatMap_cons, Asr.all, List.cons_append]
    exact .cons _ (sortR_perm [] _).symm
  have hrise : Rises (a.x :: sortR [] (a.rs ++ (P1 ++ P2).flatMap Asr.all)) := by
    refine List.pairwise_cons.2 ⟨fun y hy => ?_, sorts_rise _⟩
    have hy := (sortR_perm [] _).mem_iff.1 hy
    simp only [List.nil_append, List.mem_append] at hy
    rcases hy with hy | hy
    · exact (List.pairwise_cons.1 (q2 a (by simp)).2.rises).1 y hy
    · obtain ⟨b, hb2, hm⟩ := List.mem_flatMap.1 hy
      have h1 := hall b (List.mem_cons_of_mem _ hb2)
      rcases List.mem_cons.1 hm with rfl | hm
      · exact h1
      · exact ltR_tr h1 ((List.pairwise_cons.1 (q2 b (List.mem_cons_of_mem _ hb2)).2.rises).1 y hm)
  refine ⟨sortR [] (a.rs ++ (P1 ++ P2).flatMap Asr.all), hS.trans (insR_head hrise), ?_, sorts_rise _⟩
  simpa using sortR_perm [] (a.rs ++ (P1 ++ P2).flatMap Asr.all)
end

end Go.Proofs.YtgpbanjammipiaaGreatDoor
