/-
  Pools: Flush. A lemma file: no statement of the seat is proved here.
-/
import Derived.Test.YtbhjdcoehgajcaaPWrite2
namespace Go.Proofs.Ytbhjdcoehgajcaa.L.P
open Go.RowKit Go.Maps

/-- Pages, those of some places not dirty any more. -/
def cleanL (nm : ByteArray) (zs : List Int) (gs : List Pg) : List Pg := gs.map fun g => if g.key.1.1 = nm ∧ g.key.1.2 ∈ zs then { g with dirty := false } else g

theorem cleanL_nil (nm : ByteArray) (gs : List Pg) : cleanL nm [] gs = gs := by simp [cleanL]
theorem cleanL_keys (nm : ByteArray) (zs : List Int) (gs : List Pg) : (cleanL nm zs gs).map Pg.key = gs.map Pg.key := by
  unfold cleanL
  rw [List.map_map]
  refine List.map_congr_left fun g _ => ?_
  simp only [Function.comp]
  split <;> rfl

theorem cleanL_step {nm : ByteArray} {zs : List Int} {gs : List Pg} {z : Int} (hnd : (gs.map Pg.key).Nodup) (hk : ∃ g ∈ gs, g.key.1.1 = nm ∧ g.key.1.2 = z) :
    ∃ a g b, cleanL nm zs gs = a ++ g :: b ∧ g.key.1.1 = nm ∧ g.key.1.2 = z ∧ cleanL nm (zs ++ [z]) gs = a ++ { g with dirty := false } :: b := by
  obtain ⟨g, hg, h1, h2⟩ := hk
  obtain ⟨a, b, rfl⟩ := List.append_of_mem hg
  rw [List.map_append, List.map_cons, List.nodup_append, List.nodup_cons] at hnd
  have hne : ∀ y ∈ a ++ b, ¬ (y.key.1.1 = nm ∧ y.key.1.2 = z) := fun y hy e => by
    have ek : y.key = g.key := Subtype.ext (Prod.ext (e.1.trans h1.symm) (e.2.trans h2.symm))
    rcases List.mem_append.1 hy with hy | hy
    · exact hnd.2.2 _ (List.mem_map.2 ⟨y, hy, rfl⟩) _ (List.mem_cons_self ..) ek
    · exact hnd.2.1.1 (List.mem_map.2 ⟨y, hy, ek⟩)
  have hsame : ∀ m : List Pg, (∀ y ∈ m, y ∈ a ++ b) → cleanL nm (zs ++ [z]) m = cleanL nm zs m := fun m hm => by
    unfold cleanL
    refine List.map_congr_left fun y hy => ?_
    have := hne y (hm y hy)
    by_cases e1 : y.key.1.1 = nm
    · have e2 : y.key.1.2 ≠ z := fun e => this ⟨e1, e⟩
      simp [e1, e2]
    · simp [e1]
  refine ⟨cleanL nm zs a, if g.key.1.1 = nm ∧ g.key.1.2 ∈ zs then { g with dirty := false } else g, cleanL nm zs b, by simp [cleanL], by split <;> exact h1, by split <;> exact h2, ?_⟩
  have ea := hsame a (fun y hy => by simp [hy])
  have eb := hsame b (fun y hy => by simp [hy])
  have : cleanL nm (zs ++ [z]) (a ++ g :: b) = cleanL nm (zs ++ [z]) a ++ { g with dirty := false } :: cleanL nm (zs ++ [z]) b := by simp [cleanL, h1, h2]
  rw [this, ea, eb]
  split <;> rfl

section
variable {C : List UInt8 → Option (List Int)} {w w' : World} {fp : List Nat} {q d o : Nat} {fr : Int} {N : Nat} {l : List Ab} {s : Ds} {ord : List (Place × Nat)} {gs : List Pg}

theorem Pl.save_any {a b : List Pg} {g : Pg} (h : Pl w fp q d o fr N l s ord (a ++ g :: b)) (hi : PInv C fr l s ord (a ++ g :: b)) (hn : s.ops ≤ 1000000) :
    Calls Try.prog 33 #[.pointer (some ⟨q, 0, none⟩), encP g.key] w fun e w' => e = .returned (.int .i64 0) ∧ ∃ l' s', PlO w w' fp q d o fr N l' s' ord (a ++ { g with dirty := false } :: b) ∧ PInv C fr l' s' ord (a ++ { g with dirty := false } :: b) ∧ s.ops ≤ s'.ops ∧ s'.ops ≤ s.ops + 1 := by
  obtain ⟨hok, _, hnd⟩ := h.facts
  cases hdt : g.dirty with
  | false =>
    have e : ({ g with dirty := false } : Pg) = g := by cases g; simp only at hdt; subst hdt; rfl
    rw [e]
    refine (h.save_clean (by simp) hdt).mono ?_
    rintro e w' ⟨rfl, hp⟩
    exact ⟨rfl, l, s, hp, hi, Int.le_refl _, by omega⟩
  | true =>
    obtain ⟨A, hA, hi2, hops, hbl⟩ := hi.saved hok hnd
    refine (h.save_dirty hdt hn hbl hA).mono ?_
    rintro e w' ⟨rfl, hp⟩
    exact ⟨rfl, A.1, A.2, hp, hi2, by omega, by omega⟩

set_option maxRecDepth 100000 in
set_option maxHeartbeats 1000000 in
theorem flush_any (h : Pl w fp q d o fr N l s ord gs) (hi : PInv C fr l s ord gs) (hlen : gs.length ≤ 100000) (hn : s.ops + gs.length ≤ 999000) (nm : ByteArray) :
    Calls Try.prog 15 #[.pointer (some ⟨q, 0, none⟩), .string nm] w fun e w' => e = .returned (.int .i64 0) ∧ ∃ l' s' zs, (∀ z, z ∈ zs ↔ ∃ g ∈ gs, g.key.1.1 = nm ∧ g.key.1.2 = z) ∧ PlO w w' fp q d o fr N l' s' ord (cleanL nm zs gs) ∧ PInv C fr l' s' ord (cleanL nm zs gs) ∧ s.ops ≤ s'.ops ∧ s'.ops ≤ s.ops + gs.length := by
  have ST := hide (starts_any h hlen nm)
  have H := hide (And.intro h hi)
  have HN := hide hn
  clear h hi hlen hn
  go_enter Try.func15, Try.ntmps15
  go_wp2_with (go_at_call 32; refine ST.out.mono ?_; rintro e w1 ⟨v, zs, rfl, ow, hsrt, hprm, b1⟩; obtain ⟨va, vc, rfl⟩ : ∃ a c, v = .slice a zs.length c := (by (rcases ow.2 with ⟨e, h0⟩ | ⟨g, c, cur, e, _⟩; exact ⟨none, 0, by rw [e, h0]⟩; exact ⟨_, c, e⟩)); have OW := hide ow; have HP := hide hprm; have B1 := hide b1; clear ow hsrt hprm b1)
  have HMEM : Hid (∀ z, z ∈ zs ↔ ∃ g ∈ gs, g.key.1.1 = nm ∧ g.key.1.2 = z) := fun z => by
    rw [HP.out.mem_iff]
    unfold startsOf
    simp only [List.mem_map, List.mem_filter, decide_eq_true_eq]
    constructor
    · rintro ⟨g, ⟨h1, h2⟩, h3⟩
      exact ⟨g, h1, h2, h3⟩
    · rintro ⟨g, h1, h2, h3⟩
      exact ⟨g, ⟨h1, h2⟩, h3⟩
  have HZL : Hid (zs.length ≤ gs.length) := by show _ ≤ _; rw [HP.out.length_eq]; exact startsOf_len _ _
  have hzb : zs.length ≤ 1000000 := by have h1 := HZL.out; have h2 := HN.out; have := H.out.1.facts.1.ops; omega
  have H1 := hide (H.out.1.below B1.out)
  clear ST
  go_loopw [12] (fun v wr => ∃ i : Nat, i ≤ zs.length ∧ v = .int .i64 i ∧ Hid (∃ l' s', PlO w1 wr fp q d o fr N l' s' ord (cleanL nm (zs.take i) gs) ∧ PInv C fr l' s' ord (cleanL nm (zs.take i) gs) ∧ s.ops ≤ s'.ops ∧ s'.ops ≤ s.ops + i) ∧ Hid (wr.ownsRow w.heap.size 3 1 (.slice va zs.length vc) zs.length (zs.map (Value.int .i64)))) (fun v _ => zs.length - numP v)
  case atStart => exact ⟨0, Nat.zero_le _, rfl, ⟨l, s, by rw [List.take_zero, cleanL_nil]; exact ⟨fp, H1.out, Kept.refl _ _, Newly.refl _ _⟩, by rw [List.take_zero, cleanL_nil]; exact H.out.2, Int.le_refl _, by omega⟩, OW⟩
  case round =>
    obtain ⟨i, hi, rfl, HS, HO⟩ := hrel
    by_cases hlt : i < zs.length
    · obtain ⟨z, hz⟩ : ∃ z, z = zs[i] := ⟨_, rfl⟩
      obtain ⟨l1, s1, ⟨fp1, p1, k1, n1⟩, i1, o1, o2⟩ := HS.out
      obtain ⟨a, g, b, e1, e2, e3, e4⟩ := cleanL_step (zs := zs.take i) H.out.1.facts.2.2 ((HMEM.out z).1 (by rw [hz]; exact List.getElem_mem hlt))
      rw [e1] at p1 i1
      have htk : zs.take (i + 1) = zs.take i ++ [z] := by rw [hz]; exact List.take_succ_eq_append_getElem hlt
      rw [← htk] at e4
      have SV := hide (p1.save_any i1 (by have h1 := HN.out; have h2 := HZL.out; omega))
      have eK : encP g.key = .agg #[.string nm, .int .i64 z] := by simp [encP, e2, e3]
      rw [eK] at SV
      obtain ⟨gr, hgr⟩ : ∃ gr, va = some ⟨gr, 0, none⟩ := by
        rcases HO.out.2 with ⟨e, h0⟩ | ⟨g2, c2, cur, e, _⟩
        · omega
        · simp only [Value.slice.injEq] at e
          exact ⟨g2, e.1⟩
      subst hgr
      have hcell : wr.cell? ⟨gr, i, none⟩ = some (.int .i64 z) := by
        have := World.ownsRow.cells HO.out (g := gr) rfl i (.int .i64 z) (by rw [hz]; simp [hlt])
        rw [Addr.add_lit, Nat.zero_add] at this
        exact this
      have hgl : w.heap.size ≤ gr ∧ gr < w1.heap.size := ⟨(World.ownsRow.lt OW.out gr (by simp [Value.ownBlock])).1, (World.ownsRow.lt OW.out gr (by simp [Value.ownBlock])).2⟩
      have nf1 : gr ∉ fp1 := fun e => by
        rcases n1 gr e with u | u
        · have := H.out.1.lt gr u; omega
        · omega
      have K1 := hide (And.intro k1 (And.intro n1 (And.intro o1 o2)))
      have HE := hide (And.intro e4 nf1)
      have hi2 : (i : Int) < (zs.length : Int) := by omega
      clear p1 i1 k1 n1 o1 o2 e1 e2 e3 e4 eK hz htk nf1 hgl HS
      go_wp2_with (go_at_call 33; refine SV.out.mono ?_; rintro e w2 ⟨rfl, l2, s2, o2⟩; have O2 := hide o2; clear o2)
      go_roundw
      case rel =>
        obtain ⟨⟨fp2, p2, k2, n2⟩, i2, q1, q2⟩ := O2.out
        obtain ⟨k1, n1, o1, o2⟩ := K1.out
        refine ⟨i + 1, by omega, by go_num, ⟨l2, s2, by rw [HE.out.1]; exact ⟨fp2, p2, k1.trans k2 n1, n1.trans n2 k1.size⟩, by rw [HE.out.1]; exact i2, by omega, by omega⟩, ?_⟩
        exact ownsRow_kept HO.out k2 (fun y hy e => by
          simp [own, Value.ownBlock] at hy
          exact HE.out.2 (hy ▸ e))
      case measure => simp [numP]; omega
    · have hi2 : ¬ (i : Int) < (zs.length : Int) := by omega
      have hil : i = zs.length := by omega
      have HIL := hide hil
      clear hil
      go_wp2_with fail
      go_ret
      obtain ⟨l1, s1, ⟨fp1, p1, k1, n1⟩, i1, o1, o2⟩ := HS.out
      rw [HIL.out, List.take_length] at p1 i1
      have hzl := HZL.out
      exact ⟨rfl, l1, s1, zs, HMEM.out, ⟨fp1, p1, (Kept.of_below (fp := fp) B1.out).trans k1 (Newly.refl _ _), fun y hy => (n1 y hy).imp id (fun u => Nat.le_trans B1.out.size u)⟩, i1, o1, by omega⟩

end
end Go.Proofs.Ytbhjdcoehgajcaa.L.P
