/-
  Places as keys, read back; slices.Sort at []int. A lemma file: no statement of the seat is proved here.
-/
import Derived.Test.YtbhjdcoehgajcaaPClos
import Derived.Test.YtbhjdcoehgajcaaShelf6
namespace Go.Proofs.Ytbhjdcoehgajcaa.L.P
open Go.RowKit Go.Maps

set_option maxRecDepth 100000 in
theorem lits_str_inv {d : Nat} {v : Value} {l : List Lit} (h : Try.prog.keyLits (d + 1) 9 [v] = some l) : ∃ s : ByteArray, v = .string s ∧ s.size ≤ maxLen ∧ l = [.string s.data.toList] := by
  cases v <;> simp [Program.keyLits, Try.underlying9] at h
  rename_i s
  exact ⟨s, rfl, h.1, h.2.symm⟩
set_option maxRecDepth 100000 in
theorem lits_int_inv {d : Nat} {v : Value} {l : List Lit} (h : Try.prog.keyLits (d + 1) 3 [v] = some l) : ∃ n : Int, v = .int .i64 n ∧ (Lit.int .i64 n).wf = true ∧ l = [.int .i64 n] := by
  cases v <;> simp [Program.keyLits, Try.underlying3] at h
  rename_i k n
  obtain ⟨⟨rfl, h1⟩, h2⟩ := h
  exact ⟨n, rfl, h1, h2.symm⟩

set_option maxRecDepth 100000 in
theorem keyP_inv {v : Value} {kl : Lit} (h : keyOf Try.prog 54 v = some kl) : ∃ x : Place, v = encP x ∧ kl = litP x := by
  have h0 := h
  unfold keyOf at h
  simp only [Try.underlying54, Try.keyTypeP, Bool.true_and] at h
  split at h
  · rename_i hf
    obtain ⟨ls, hls, _⟩ := Option.map_eq_some_iff.1 h
    cases v <;> simp [Value.formed, Try.underlying54] at hf
    rename_i cs
    rw [Try.cellsP.1] at hf
    obtain ⟨c0, c1, rfl⟩ : ∃ c0 c1, cs = #[c0, c1] := by
      obtain ⟨l⟩ := cs
      match l, hf with
      | [c0, c1], _ => exact ⟨c0, c1, rfl⟩
    rw [Try.sizeP] at hls
    unfold Program.keyLits at hls
    simp [Try.underlying54, Try.cellsP, Value.cells] at hls
    obtain ⟨a, ha, b, hb, _⟩ : ∃ a, Try.prog.keyLits (173 + 1) 9 [c0] = some a ∧ ∃ b, Try.prog.keyLits (173 + 1) 3 [c1] = some b ∧ True := by
      cases ha : Try.prog.keyLits 174 9 [c0] with
      | none => rw [ha] at hls; cases hls
      | some a =>
        cases hb : Try.prog.keyLits 174 3 [c1] with
        | none => rw [ha, hb] at hls; cases hls
        | some b => exact ⟨a, rfl, b, rfl, trivial⟩
    obtain ⟨s, rfl, hs, _⟩ := lits_str_inv ha
    obtain ⟨n, rfl, hn, _⟩ := lits_int_inv hb
    have hmin : IntKind.i64.min = -9223372036854775808 := rfl
    have hmax : IntKind.i64.max = 9223372036854775807 := rfl
    simp only [Lit.wf, Bool.and_eq_true, decide_eq_true_eq] at hn
    refine ⟨⟨(s, n), hs, by simp only; omega, by simp only; omega⟩, rfl, ?_⟩
    have := keyP ⟨(s, n), hs, by simp only; omega, by simp only; omega⟩ trivial
    exact Option.some.inj (h0.symm.trans this)
  · cases h

/-- Which pages came, of those that are gone through. -/
def cameP (left : Lit → Bool) (gs : List Pg) : List Pg := gs.filter fun g => !left (litP g.key)

theorem came_none (gs : List Pg) (left : Lit → Bool) (h : ∀ g ∈ gs, left (litP g.key) = true) : cameP left gs = [] := List.filter_eq_nil_iff.2 fun g hg => by simp [h g hg]
theorem came_all (gs : List Pg) : cameP (fun _ => false) gs = gs := List.filter_eq_self.2 fun _ _ => rfl
theorem litP_same (a b : Place) : (litP a).sameKey (litP b) = decide (a = b) := by
  by_cases e : a = b
  · subst e
    simp [litP, Lit.sameKey]
  · rw [sameKey_ne (fun e2 => e (injP _ _ e2))]
    simp [e]

/-- One more came. -/
theorem came_step {a b : List Pg} {g : Pg} {left : Lit → Bool} (hnd : ((a ++ g :: b).map Pg.key).Nodup) (hl : left (litP g.key) = true) :
    (cameP (fun z => left z && !z.sameKey (litP g.key)) (a ++ g :: b)).Perm (g :: cameP left (a ++ g :: b)) := by
  rw [List.map_append, List.map_cons, List.nodup_append, List.nodup_cons] at hnd
  have hk : ∀ l : List Pg, (∀ x ∈ l, x.key ≠ g.key) → cameP (fun z => left z && !z.sameKey (litP g.key)) l = cameP left l := fun l hl2 => by
    refine List.filter_congr fun x hx => ?_
    simp [litP_same, hl2 x hx]
  have e1 := hk a (fun x hx e => hnd.2.2 _ (List.mem_map.2 ⟨x, hx, rfl⟩) _ (List.mem_cons_self ..) e)
  have e2 := hk b (fun x hx e => hnd.2.1.1 (List.mem_map.2 ⟨x, hx, e⟩))
  unfold cameP at e1 e2 ⊢
  rw [List.filter_append, List.filter_cons, List.filter_append, List.filter_cons, e1, e2]
  simp only [litP_same, hl]
  simp

section
variable {w w' : World} {fp : List Nat} {q d o : Nat} {fr : Int} {N : Nat} {l : List Ab} {s : Ds} {ord : List (Place × Nat)} {gs : List Pg}

set_option maxRecDepth 100000 in
set_option maxHeartbeats 1000000 in
theorem dirty_any (h : Pl w fp q d o fr N l s ord gs) (hlen : gs.length ≤ 1000000) : Calls Try.prog 18 #[.pointer (some ⟨q, 0, none⟩)] w fun e w' => e = .returned (.int .i64 (gs.filter Pg.dirty).length) ∧ Below w.heap.size w w' := by
  obtain ⟨fd, fo, bm, h1, h2, h3, rfl, a1, a2, a3⟩ := h
  obtain ⟨_, _, c2⟩ := h3.cellAt
  obtain ⟨D, hown, hD⟩ := h3.map
  have HF := hide (fun (W : World) (k : Kept [] w W) (g : Pg) (hg : g ∈ gs) => (PoolAt.pageAt (h3.kept k (by simp)) hg).2.1)
  have OW := hide hown
  have HD := hide hD
  have HN := hide h3.keys
  have HLN := hide hlen
  clear h1 h2 h3 hown hD a1 a2 a3 hlen
  go_enter Try.func18, Try.ntmps18
  go_wp2_with (first | (at_range; refine wpList_range_own _ rfl _ 55 rfl 54 61 keyedP Try.underlying55 ptrE bm gs.length D rfl OW.out ?_; intro w0 hrg0 hg0 hs0) | fail)
  have hk0 : Kept [] w w0 := Kept.of_grown hg0
  have HK0 := hide hk0
  have HR0 := hide hrg0
  clear hk0 hrg0 hg0 hs0
  go_frame
  go_loopw [3] (fun v3 wr => ∃ (left : Lit → Bool) (cnt m : Nat), v3 = .int .i64 m ∧ m ≤ gs.length ∧ Hid (wr.ranges Try.prog 54 ptrE bm w.heap.size gs.length D left cnt) ∧ Hid (m = ((cameP left gs).filter Pg.dirty).length) ∧ Hid (Kept [] w wr)) (fun _ wr => wr.rangeLeft bm w.heap.size)
  case atStart =>
    refine ⟨_, _, 0, rfl, Nat.zero_le _, HR0, ?_, HK0⟩
    show 0 = _
    rw [came_none]
    · rfl
    · intro g hg
      have e := HD.out.has g.key
      obtain ⟨a, b, hab⟩ := List.append_of_mem (List.mem_map.2 ⟨g, hg, rfl⟩ : g.fr ∈ gs.map Pg.fr)
      have hnd : ((gs.map Pg.fr).map Fr.key).Nodup := by rw [fr_key]; exact HN.out
      rw [hab] at e hnd
      rw [show g.key = g.fr.key from rfl, find_at hnd] at e
      exact e
  case round =>
    obtain ⟨left, cnt, m, rfl, hm, HR, HM, HK⟩ := hrel
    go_wp2_with (at_next; refine wpList_next_ranges _ rfl _ rfl 54 keyedP ptrE encP (fun c : Option Nat => Value.pointer (c.map fun b => ⟨b, 0, none⟩)) (fun key kl hk => by obtain ⟨x, rfl, _⟩ := keyP_inv hk; exact ⟨x, rfl⟩) ptrE_shape bm w.heap.size gs.length D left cnt rfl HR.out ?_ ?_)
    · intro hc0 hl0
      have HL0 := hide hl0
      clear hc0 hl0
      go_wp2
      go_ret
      have e : left = fun _ => false := funext HL0.out
      have e2 := HM.out
      rw [e, came_all] at e2
      subst e2
      exact ⟨rfl, HK.out.below (Nat.le_refl _) (by simp)⟩
    · intro xa xb xh c kl yd yp w2 cnt2 hkey hlk hv hat hrg2 hlt hg2 hs2 hen
      generalize (⟨(xa, xb), xh⟩ : Place) = x at hkey hlk hv hat hrg2 hlt hg2 hs2 hen ⊢
      clear xh xa xb
      obtain ⟨x', ex, rfl⟩ := keyP_inv hkey
      obtain rfl : x = x' := by
        obtain ⟨⟨a1, a2⟩, a3⟩ := x
        obtain ⟨⟨b1, b2⟩, b3⟩ := x'
        simp [encP] at ex
        obtain ⟨rfl, rfl⟩ := ex
        rfl
      have h1 := hat .nil
      have h2 := HD.out.at_ x
      rw [show D.atKey (litP x) .nil = yd from h1] at h2
      have h3 := HD.out.has x
      rw [has_true_of_atKey (k := litP x) hat] at h3
      obtain ⟨e, he⟩ := Option.isSome_iff_exists.1 h3.symm
      rw [he] at h2
      obtain ⟨hmem, hek⟩ := find_some he
      obtain ⟨g, hgm, rfl⟩ := List.mem_map.1 hmem
      obtain rfl : g.key = x := hek
      simp only at h2
      subst h2
      have hc := ptrE_inv hv
      obtain rfl : c = some g.blk := by
        cases c with
        | none => simp at hc
        | some b => simpa [Pg.fr] using hc
      have hk2 : Kept [] w w2 := HK.out.trans (Kept.of_grown hg2) (fun z hz => by simp at hz; subst hz; exact .inr (Nat.le_refl _))
      have f1 := HF.out w2 hk2 g hgm
      have HK2 := hide hk2
      have HR2 := hide hrg2
      have HLT : Hid (w2.rangeLeft bm w.heap.size < wr.rangeLeft bm w.heap.size) := by rw [hrg2.left_eq, HR.out.left_eq]; exact hlt
      obtain ⟨a, b, hab⟩ := List.append_of_mem hgm
      have PS := hide (by have := came_step (left := left) (a := a) (b := b) (g := g) (by rw [← hab]; exact HN.out) hlk; rw [← hab] at this; exact this : (cameP (fun z => left z && !z.sameKey (litP g.key)) gs).Perm (g :: cameP left gs))
      simp only [Option.map_some] at hen ⊢
      clear h1 h3 he hmem hc hk2 hrg2 hlt hkey hlk hv hat hg2 hs2 HR hab ex
      have HM2 : Hid (((cameP (fun z => left z && !z.sameKey (litP g.key)) gs).filter Pg.dirty).length = (if g.dirty then m + 1 else m)) := by
        show _ = _
        rw [(PS.out.filter Pg.dirty).length_eq, List.filter_cons, HM.out]
        split <;> simp
      have HB := hide (Nat.le_trans (List.length_filter_le Pg.dirty (cameP (fun z => left z && !z.sameKey (litP g.key)) gs)) (List.length_filter_le _ gs))
      have hlen := HLN.out
      obtain ⟨gb, hgb⟩ : ∃ gb, gb = g.blk := ⟨_, rfl⟩
      obtain ⟨dt, hdt⟩ : ∃ dt, dt = g.dirty := ⟨_, rfl⟩
      rw [← hgb, ← hdt] at f1
      rw [← hgb] at hen
      rw [← hdt] at HM2
      clear hgb hdt
      cases dt with
      | true =>
        have hm2 : m + 1 ≤ gs.length := by have := HB.out; rw [HM2.out] at this; simpa using this
        go_wp2
        go_roundw
        case rel => exact ⟨_, cnt2, m + 1, by go_num, hm2, HR2, HM2.out.symm, HK2⟩
        case measure => exact HLT.out
      | false =>
        go_wp2
        go_roundw
        case rel => exact ⟨_, cnt2, m, rfl, hm, HR2, HM2.out.symm, HK2⟩
        case measure => exact HLT.out

end
end Go.Proofs.Ytbhjdcoehgajcaa.L.P
