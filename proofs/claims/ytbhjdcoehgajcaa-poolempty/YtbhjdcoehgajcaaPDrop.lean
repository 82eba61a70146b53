/-
  Pools: Drop. A lemma file: no statement of the seat is proved here.
-/
import Derived.Test.YtbhjdcoehgajcaaPNew
namespace Go.Proofs.Ytbhjdcoehgajcaa.L.P
open Go.RowKit Go.Maps

/-- Pages, frames, without those of some places. -/
def lessP (nm : ByteArray) (zs : List Int) (gs : List Pg) : List Pg := gs.filter fun g => !(decide (g.key.1.1 = nm) && zs.contains g.key.1.2)
def lessO (nm : ByteArray) (zs : List Int) (ord : List (Place × Nat)) : List (Place × Nat) := ord.filter fun y => !(decide (y.1.1.1 = nm) && zs.contains y.1.1.2)

theorem lessP_mem {nm : ByteArray} {zs : List Int} {gs : List Pg} {g : Pg} : g ∈ lessP nm zs gs ↔ g ∈ gs ∧ ¬ (g.key.1.1 = nm ∧ g.key.1.2 ∈ zs) := by
  unfold lessP
  rw [List.mem_filter]
  simp
  intro _
  by_cases a : g.key.1.1 = nm <;> simp [a]
theorem lessO_mem {nm : ByteArray} {zs : List Int} {ord : List (Place × Nat)} {y : Place × Nat} : y ∈ lessO nm zs ord ↔ y ∈ ord ∧ ¬ (y.1.1.1 = nm ∧ y.1.1.2 ∈ zs) := by
  unfold lessO
  rw [List.mem_filter]
  simp
  intro _
  by_cases a : y.1.1.1 = nm <;> simp [a]

theorem lessP_step {nm : ByteArray} {zs : List Int} {gs : List Pg} {g : Pg} (hnd : (gs.map Pg.key).Nodup) (hg : g ∈ lessP nm zs gs) (h1 : g.key.1.1 = nm) : ∃ a b, lessP nm zs gs = a ++ g :: b ∧ lessP nm (zs ++ [g.key.1.2]) gs = a ++ b := by
  obtain ⟨a, b, e⟩ := List.append_of_mem hg
  refine ⟨a, b, e, ?_⟩
  have e2 : lessP nm (zs ++ [g.key.1.2]) gs = (lessP nm zs gs).filter fun y => !(decide (y.key.1.1 = nm) && decide (y.key.1.2 = g.key.1.2)) := by
    unfold lessP
    rw [List.filter_filter]
    refine List.filter_congr fun y _ => ?_
    by_cases q1 : y.key.1.1 = nm <;> by_cases q2 : y.key.1.2 = g.key.1.2 <;> simp [q1, q2]
  have hnd2 : ((lessP nm zs gs).map Pg.key).Nodup := hnd.sublist ((List.filter_sublist).map _)
  rw [e] at e2 hnd2
  rw [e2, List.filter_append, List.filter_cons]
  rw [List.map_append, List.map_cons, List.nodup_append, List.nodup_cons] at hnd2
  have hk : ∀ m : List Pg, (∀ y ∈ m, y.key ≠ g.key) → m.filter (fun y => !(decide (y.key.1.1 = nm) && decide (y.key.1.2 = g.key.1.2))) = m := fun m hm => List.filter_eq_self.2 fun y hy => by
    have := hm y hy
    by_cases q1 : y.key.1.1 = nm
    · by_cases q2 : y.key.1.2 = g.key.1.2
      · exact absurd (Subtype.ext (Prod.ext (q1.trans h1.symm) q2)) this
      · simp [q2]
    · simp [q1]
  rw [hk a (fun y hy e => hnd2.2.2 _ (List.mem_map.2 ⟨y, hy, rfl⟩) _ (List.mem_cons_self ..) e), hk b (fun y hy e => hnd2.2.1.1 (List.mem_map.2 ⟨y, hy, e⟩))]
  simp [h1]

theorem lessO_step {nm : ByteArray} {zs : List Int} {ord : List (Place × Nat)} {k : Place} (h1 : k.1.1 = nm) : lessO nm (zs ++ [k.1.2]) ord = delA (lessO nm zs ord) k := by
  unfold lessO delA
  rw [List.filter_filter]
  refine List.filter_congr fun y _ => ?_
  by_cases q : y.1 = k
  · subst q
    simp [h1]
  · by_cases q1 : y.1.1.1 = nm
    · have q2 : y.1.1.2 ≠ k.1.2 := fun e => q (Subtype.ext (Prod.ext (q1.trans h1.symm) e))
      simp [q, q1, q2]
    · simp [q, q1]

theorem starts_nodup {nm : ByteArray} {gs : List Pg} (hnd : (gs.map Pg.key).Nodup) : (startsOf nm gs).Nodup := by
  have h2 : ((gs.filter fun g => decide (g.key.1.1 = nm)).map Pg.key).Nodup := hnd.sublist ((List.filter_sublist).map _)
  unfold startsOf
  rw [List.nodup_iff_pairwise_ne, List.pairwise_map] at h2 ⊢
  refine h2.imp_of_mem fun {x y} hx hy hne e => hne ?_
  have e1 : x.key.1.1 = nm := by simpa using (List.mem_filter.1 hx).2
  have e2 : y.key.1.1 = nm := by simpa using (List.mem_filter.1 hy).2
  exact Subtype.ext (Prod.ext (e1.trans e2.symm) e)

/-- 'delete(m, k)', by its run. -/
theorem wp_deleteR {ops : Array Oper} {rest : List Oper} {o : Oper} {a : Act} {Q : Exit → Act → World → Prop} {w w' : World} (hg : o.guard = none) (m x : Operand) (t k : TypeId)
    (hop : o.op = Op.call { callee := Callee.builtin Builtin.delete, args := #[m, x], argTypes := #[t, k] }) (hty : o.type = 0) (b : Nat) (key : Value) (hm : a.eval m = .map (some b)) (hx : a.eval x = key)
    (hrun : (Builtin.delete_ #[t, k] 0 #[.map (some b), key]).run Try.prog w = .ok (.tuple #[]) w') (h : wpList Try.prog ops Q rest (a.put o.dst (.tuple #[])) w') : wpList Try.prog ops Q (o :: rest) a w := by
  refine wpList_plain hg fun K hK => ?_
  unfold Oper.wp
  simp [execOp, hop, hty, resolve, invoke, builtin, hm, hx, hrun, Result.andThen]
  exact hK _ _ h

section
variable {C : List UInt8 → Option (List Int)} {w w' : World} {fp : List Nat} {q d o : Nat} {fr : Int} {N : Nat} {l : List Ab} {s : Ds} {ord : List (Place × Nat)} {gs : List Pg}

/-- What is dropped is as the disk has it. -/
theorem PInv.dropped (h : PInv C fr l s ord gs) {nm : ByteArray} {zs : List Int} (hz : ∀ g ∈ gs, g.key.1.1 = nm → g.key.1.2 ∈ zs) {x : Ab} (hx : DLook l nm.data.toList = some x) : PInv (putC C nm.data.toList x.2.1) fr l s (lessO nm zs ord) (lessP nm zs gs) := by
  have hname : ∀ g ∈ lessP nm zs gs, g.key.1.1.data.toList ≠ nm.data.toList := fun g hg e => by
    obtain ⟨h1, h2⟩ := lessP_mem.1 hg
    have e2 : g.key.1.1 = nm := by
      cases hb : g.key.1.1
      cases nm
      rw [hb] at e
      simp at e
      rw [e]
    exact h2 ⟨e2, hz g h1 e2⟩
  obtain ⟨cx, hcx, hlx, _⟩ := h.file _ _ hx
  refine ⟨h.up, h.left, fun g hg => ?_, fun nm2 x2 hx2 => ?_, fun nm2 c2 hc2 => ?_, fun y hy => h.pins y (lessO_mem.1 hy).1, fun k => ?_, ?_, h.one⟩
  · obtain ⟨c, j, e1, e2⟩ := h.page g (lessP_mem.1 hg).1
    exact ⟨c, j, by unfold putC; rw [if_neg (hname g hg)]; exact e1, e2⟩
  · obtain ⟨c, e1, e2, e3⟩ := h.file nm2 x2 hx2
    by_cases e : nm2 = nm.data.toList
    · subst e
      rw [hx] at hx2
      cases hx2
      exact ⟨x.2.1, by unfold putC; rw [if_pos rfl], rfl, fun _ _ => rfl⟩
    · refine ⟨c, by unfold putC; rw [if_neg e]; exact e1, e2, fun i hi => e3 i fun g hg hgd hq => ?_⟩
      by_cases hn : g.key.1.1 = nm
      · exact e (by rw [← hq.1, hn])
      · exact hi g (lessP_mem.2 ⟨hg, fun q => hn q.1⟩) hgd hq
  · unfold putC at hc2
    split at hc2
    · rename_i e
      cases hc2
      rw [e]
      exact ⟨⟨x, hx⟩, by have := (h.has _ _ hcx).2; omega⟩
    · exact h.has nm2 c2 hc2
  · constructor
    · rintro ⟨y, hy, rfl⟩
      obtain ⟨h1, h2⟩ := lessO_mem.1 hy
      obtain ⟨g, hg, e⟩ := (h.keys y.1).1 ⟨y, h1, rfl⟩
      exact ⟨g, lessP_mem.2 ⟨hg, by rw [e]; exact h2⟩, e⟩
    · rintro ⟨g, hg, rfl⟩
      obtain ⟨h1, h2⟩ := lessP_mem.1 hg
      obtain ⟨y, hy, e⟩ := (h.keys g.key).2 ⟨g, h1, rfl⟩
      exact ⟨y, lessO_mem.2 ⟨hy, by rw [e]; exact h2⟩, e⟩
  · have h1 : (lessO nm zs ord).length ≤ ord.length := List.length_filter_le _ _
    have := h.len
    omega

set_option maxRecDepth 100000 in
set_option maxHeartbeats 1000000 in
theorem drop_pool (h : Pl w fp q d o fr N l s ord gs) (hi : PInv C fr l s ord gs) (hlen : gs.length ≤ 100000) (nm : ByteArray) :
    Calls Try.prog 19 #[.pointer (some ⟨q, 0, none⟩), .string nm] w fun e w' => e = .returned (.tuple #[]) ∧ ∃ zs, (∀ z, z ∈ zs ↔ ∃ g ∈ gs, g.key.1.1 = nm ∧ g.key.1.2 = z) ∧ PlO w w' fp q d o fr N l s (lessO nm zs ord) (lessP nm zs gs) := by
  have ST := hide (starts_any h hlen nm)
  have H := hide (And.intro h hi)
  have HLN := hide hlen
  clear h hi hlen
  go_enter Try.func19, Try.ntmps19
  go_wp2_with (go_at_call 32; refine ST.out.mono ?_; rintro e w1 ⟨v, zs, rfl, ow, hsrt, hprm, b1⟩; obtain ⟨va, vc, rfl⟩ : ∃ a c, v = .slice a zs.length c := (by (rcases ow.2 with ⟨e, h0⟩ | ⟨g, c, cur, e, _⟩; exact ⟨none, 0, by rw [e, h0]⟩; exact ⟨_, c, e⟩)); have OW := hide ow; have HP := hide (And.intro hprm hsrt); have B1 := hide b1; clear ow hsrt hprm b1)
  have HMEM : Hid (∀ z, z ∈ zs ↔ ∃ g ∈ gs, g.key.1.1 = nm ∧ g.key.1.2 = z) := fun z => by
    rw [HP.out.1.mem_iff]
    unfold startsOf
    simp only [List.mem_map, List.mem_filter, decide_eq_true_eq]
    constructor
    · rintro ⟨g, ⟨h1, h2⟩, h3⟩
      exact ⟨g, h1, h2, h3⟩
    · rintro ⟨g, h1, h2, h3⟩
      exact ⟨g, ⟨h1, h2⟩, h3⟩
  have HND : Hid zs.Nodup := HP.out.1.nodup_iff.2 (starts_nodup H.out.1.facts.2.2)
  have hzb : zs.length ≤ 1000000 := by rw [HP.out.1.length_eq]; exact Nat.le_trans (startsOf_len _ _) (Nat.le_trans HLN.out (by omega))
  have H1 := hide (H.out.1.below B1.out)
  clear ST
  go_loopw [10] (fun v wr => ∃ i : Nat, i ≤ zs.length ∧ v = .int .i64 i ∧ Hid (PlO w1 wr fp q d o fr N l s (lessO nm (zs.take i) ord) (lessP nm (zs.take i) gs)) ∧ Hid (wr.ownsRow w.heap.size 3 1 (.slice va zs.length vc) zs.length (zs.map (Value.int .i64)))) (fun v _ => zs.length - numP v)
  case atStart =>
    refine ⟨0, Nat.zero_le _, rfl, ?_, OW⟩
    rw [List.take_zero, show lessO nm [] ord = ord by simp [lessO], show lessP nm [] gs = gs by simp [lessP]]
    exact ⟨fp, H1.out, Kept.refl _ _, Newly.refl _ _⟩
  case round =>
    obtain ⟨i, hi, rfl, HS, HO⟩ := hrel
    by_cases hlt : i < zs.length
    · obtain ⟨z, hz⟩ : ∃ z, z = zs[i] := ⟨_, rfl⟩
      obtain ⟨fp1, p1, k1, n1⟩ := HS.out
      obtain ⟨g, hg, e2, e3⟩ := (HMEM.out z).1 (by rw [hz]; exact List.getElem_mem hlt)
      have htk : zs.take (i + 1) = zs.take i ++ [z] := by rw [hz]; exact List.take_succ_eq_append_getElem hlt
      have hnt : z ∉ zs.take i := fun e => by
        have hn := HND.out
        rw [← List.take_append_drop i zs, List.nodup_append] at hn
        refine hn.2.2 z e z ?_ rfl
        have hm := List.getElem_mem (l := zs.drop i) (n := 0) (by simp; omega)
        rw [List.getElem_drop] at hm
        rw [hz]
        exact hm
      obtain ⟨a, b, e4, e5⟩ := lessP_step (zs := zs.take i) H.out.1.facts.2.2 (lessP_mem.2 ⟨hg, fun q => hnt (e3 ▸ q.2)⟩) e2
      have e6 := lessO_step (zs := zs.take i) (ord := ord) (k := g.key) e2
      rw [e3, ← htk] at e5 e6
      rw [e4] at p1
      have hdr : dropA (lessO nm (zs.take i) ord) g.key = (0, delA (lessO nm (zs.take i) ord) g.key) := by
        obtain ⟨y, hy, ey⟩ := (H.out.2.keys g.key).2 ⟨g, hg, rfl⟩
        unfold dropA
        rw [L.look_some (ord := lessO nm (zs.take i) ord) ⟨y, lessO_mem.2 ⟨hy, by rw [ey, e3]; exact fun q => hnt q.2⟩, ey⟩ (fun u hu => H.out.2.pins u (lessO_mem.1 hu).1)]
        rfl
      obtain ⟨bm, w2, c2, r2, fp2, p2, k2, n2⟩ := p1.delete
      have DR := hide (p2.calls_order (fun fo ck => drop_any ck g.key trivial))
      rw [hdr] at DR
      obtain ⟨bm3, _, _, d1, _⟩ := p2.cells
      have eK : encP g.key = .agg #[.string nm, .int .i64 z] := by simp [encP, e2, e3]
      rw [eK] at r2
      rw [show kP.enc g.key = .agg #[.string nm, .int .i64 z] from eK] at DR
      obtain ⟨gr, hgr⟩ : ∃ gr, va = some ⟨gr, 0, none⟩ := by
        rcases HO.out.2 with ⟨e, h0⟩ | ⟨g2, c2, cur, e, _⟩
        · omega
        · simp only [Value.slice.injEq] at e
          exact ⟨g2, e.1⟩
      subst hgr
      have hcell : wr.cell? ⟨gr, i, none⟩ = some (.int .i64 z) := by
        have := World.ownsRow.cells HO.out (g := gr) rfl i (.int .i64 z) (by rw [hz]; simp [hlt])
        rw [Addr.add_lit, Nat.zero_add] at this
        exact this
      have hgl : w.heap.size ≤ gr ∧ gr < w1.heap.size := ⟨(World.ownsRow.lt OW.out gr (by simp [Value.ownBlock])).1, (World.ownsRow.lt OW.out gr (by simp [Value.ownBlock])).2⟩
      have nf1 : gr ∉ fp1 := fun e => by
        rcases n1 gr e with u | u
        · have := H.out.1.lt gr u; omega
        · omega
      have nf2 : gr ∉ fp2 := fun e => by
        rcases n2 gr e with u | u
        · exact nf1 u
        · have := k1.size; omega
      have HO2 := hide (ownsRow_kept HO.out k2 (fun y hy e => by
          simp [own, Value.ownBlock] at hy
          exact nf1 (hy ▸ e)))
      have K1 := hide (And.intro (k1.trans k2 n1) (n1.trans n2 k1.size))
      have HE := hide (And.intro e5 (And.intro e6 nf2))
      have hi2 : (i : Int) < (zs.length : Int) := by omega
      have R2 := hide r2
      clear p1 k1 n1 e2 e3 e4 e5 e6 eK hz htk nf1 nf2 hgl HS p2 k2 n2 hdr hnt r2
      go_wp2_with first | (go_at_call 35; refine DR.out.mono ?_; rintro e w3 ⟨rfl, o3⟩; have O3 := hide o3; clear o3) | (refine wp_deleteR rfl (.tmp 17) (.tmp 20) 55 54 rfl rfl bm (.agg #[.string nm, .int .i64 z]) rfl rfl R2.out ?_)
      go_roundw
      case rel =>
        obtain ⟨fp3, p3, k3, n3⟩ := O3.out
        refine ⟨i + 1, by omega, by go_num, ?_, ownsRow_kept HO2.out k3 (fun y hy e => by
          simp [own, Value.ownBlock] at hy
          exact HE.out.2.2 (hy ▸ e))⟩
        rw [HE.out.1, HE.out.2.1]
        exact ⟨fp3, p3, K1.out.1.trans k3 K1.out.2, K1.out.2.trans n3 K1.out.1.size⟩
      case measure => simp [numP]; omega
    · have hi2 : ¬ (i : Int) < (zs.length : Int) := by omega
      have hil : i = zs.length := by omega
      have HIL := hide hil
      clear hil
      go_wp2_with fail
      go_end0
      obtain ⟨fp1, p1, k1, n1⟩ := HS.out
      rw [HIL.out, List.take_length] at p1
      exact ⟨rfl, zs, HMEM.out, fp1, p1, (Kept.of_below (fp := fp) B1.out).trans k1 (Newly.refl _ _), fun y hy => (n1 y hy).imp id (fun u => Nat.le_trans B1.out.size u)⟩

end
end Go.Proofs.Ytbhjdcoehgajcaa.L.P
