/-
  The document's cache beside a cache of package lru; rows of texts that are the same. A lemma file: no statement of the seat is proved here.
-/
import Derived.Test.YtokodmeabchmjaaLRef8
import Derived.Test.YtokodmeabchmjaaLAllS
namespace Go.Proofs.Ytokodmeabchmjaa
open Go.RowKit Go.Maps Go.Sort

section
variable {w w' : World} {fp : List Nat} {r : Nat} {lv pv : Value} {fr : Int} {l : List (ByteArray × Nat)}

theorem RefK.use (h : RefK w fp r fr l) (hf : l.length ≤ 1000) (hnd : (l.map Prod.fst).Nodup) (hle : (l.length : Int) ≤ fr) (nm : ByteArray) :
    Calls Try.prog 14 #[.pointer (some ⟨r, 0, none⟩), .string nm] w fun e w' => e = .returned (.tuple #[S.goneV (useA fr l nm).1, .bool (useA fr l nm).1.isSome, .int .i64 (useA fr l nm).2.1]) ∧ RefO w w' fp r fr (useA fr l nm).2.2 := by
  obtain ⟨lv, pv, h, rfl⟩ := h
  rcases placeL_look l nm with ⟨e, hl⟩ | ⟨k, hk, e, hkn, hl⟩
  · by_cases hq : (l.length : Int) = fr
    · exact refUseB h hf hnd nm hl hq
    · have e2 : useA fr l nm = (none, 0, l ++ [(nm, 0)]) := by unfold useA; rw [hl]; simp only; rw [if_neg (by omega)]
      rw [e2]
      exact refUseC h hf nm hl (by omega)
  · have e2 : useA fr l nm = (none, 0, l.eraseIdx k ++ [(nm, l[k].2)]) := by unfold useA; rw [hl]; show (none, 0, delA l nm ++ [(nm, l[k].2)]) = _; rw [← hkn, delA_at hnd hk]
    rw [e2]
    exact refUseA h hf nm hk e

theorem RefK.pin (h : RefK w fp r fr l) (hf : l.length ≤ 1000) (hn : (l.map Prod.fst).Nodup) (hp : ∀ x ∈ l, x.2 ≤ 1000) (nm : ByteArray) :
    Calls Try.prog 16 #[.pointer (some ⟨r, 0, none⟩), .string nm] w fun e w' => e = .returned (.int .i64 (pinA l nm).1) ∧ RefO w w' fp r fr (pinA l nm).2 := by
  obtain ⟨lv, pv, h, rfl⟩ := h
  refine (refPinL h hf hn hp nm).mono ?_
  rintro e w' ⟨rfl, h1, h2⟩
  exact ⟨rfl, _, ⟨_, _, h1, rfl⟩, h2, Newly.refl _ _⟩

theorem RefK.unpin (h : RefK w fp r fr l) (hf : l.length ≤ 1000) (hn : (l.map Prod.fst).Nodup) (hp : ∀ x ∈ l, x.2 ≤ 1000) (nm : ByteArray) :
    Calls Try.prog 18 #[.pointer (some ⟨r, 0, none⟩), .string nm] w fun e w' => e = .returned (.int .i64 (unpinA l nm).1) ∧ RefO w w' fp r fr (unpinA l nm).2 := by
  obtain ⟨lv, pv, h, rfl⟩ := h
  refine (refUnpinL h hf hn hp nm).mono ?_
  rintro e w' ⟨rfl, h1, h2⟩
  exact ⟨rfl, _, ⟨_, _, h1, rfl⟩, h2, Newly.refl _ _⟩

theorem RefK.drop (h : RefK w fp r fr l) (hf : l.length ≤ 1000) (hn : (l.map Prod.fst).Nodup) (hp : ∀ x ∈ l, x.2 ≤ 1000) (nm : ByteArray) :
    Calls Try.prog 20 #[.pointer (some ⟨r, 0, none⟩), .string nm] w fun e w' => e = .returned (.int .i64 (dropA l nm).1) ∧ RefO w w' fp r fr (dropA l nm).2 := by
  obtain ⟨lv, pv, h, rfl⟩ := h
  exact refDropL h hf hn hp nm

theorem RefK.has (h : RefK w fp r fr l) (hf : l.length ≤ 1000) (nm : ByteArray) :
    Calls Try.prog 24 #[.pointer (some ⟨r, 0, none⟩), .string nm] w fun e w' => e = .returned (.bool (lookA l nm).isSome) ∧ w' = w := by
  obtain ⟨lv, pv, h, rfl⟩ := h
  exact refHasL h hf nm

/-- Its keys, as a slice that can be read. -/
theorem RefK.row (h : RefK w fp r fr l) : ∃ lv, w.cell? ⟨r, 1, none⟩ = some lv ∧ IsV w lv (l.map fun x => .string x.1) := by
  obtain ⟨lv, pv, h, rfl⟩ := h
  obtain ⟨a, cap, rfl⟩ := h.formL
  refine ⟨_, h.cellAt.2.1, ?_⟩
  have h1 : ∀ u ∈ (l.map fun x : ByteArray × Nat => Value.string x.1), u.oneCell' = true := by
    intro u hu
    obtain ⟨x, _, rfl⟩ := List.mem_map.1 hu
    rfl
  have := RowV.take h.rows.1 h1 l.length (by simp)
  rwa [List.take_of_length_le (by simp)] at this
end

/-- A row of one's own can be read. -/
theorem isV_own {w : World} {B n : Nat} {t : TypeId} {v : Value} {xs : List Value} (h : w.ownsRow B t 1 v n xs) (hn : xs.length = n) (h1 : ∀ u ∈ xs, u.oneCell' = true) : IsV w v xs := by
  subst hn
  have h0 : RowV w t v xs := by
    refine ⟨h.1, ?_⟩
    rcases h.2 with hq | ⟨g, c, cur, e, hb, rest⟩
    · exact .inl hq
    · exact .inr ⟨g, c, cur, e, Nat.zero_le _, rest⟩
  obtain ⟨a, c, rfl⟩ := h0.form
  have := h0.take h1 xs.length (Nat.le_refl _)
  rwa [List.take_length] at this

set_option maxRecDepth 100000 in
set_option maxHeartbeats 4000000 in
theorem sameL_yes {w : World} {va vb : Value} {xs : List ByteArray} (ha : IsV w va (xs.map Value.string)) (hb : IsV w vb (xs.map Value.string)) (hl : xs.length ≤ 1000000) :
    Calls Try.prog 21 #[va, vb] w fun e w' => e = .returned (.bool true) ∧ Below w.heap.size w w' := by
  obtain ⟨a, ca, rfl, a1, a2, _⟩ := ha
  obtain ⟨b, cb, rfl, b1, b2, _⟩ := hb
  have A1 := hide (And.intro a1 a2)
  have B1 := hide (And.intro b1 b2)
  obtain ⟨n, hn⟩ : ∃ n, n = (xs.map Value.string).length := ⟨_, rfl⟩
  rw [← hn]
  have HN : Hid (xs.length = n) := by show _ = _; rw [hn]; simp
  have hnn : n ≤ 1000000 := by rw [hn]; simpa using hl
  clear a1 a2 b1 b2 hn hl
  go_enter Try.func21, Try.ntmps21
  go_wp2
  go_loopw [5] (fun i wr => ∃ k : Nat, k ≤ n ∧ i = .int .i64 k ∧ Hid (Kept [] w wr)) (fun i _ => n - numOf i)
  case atStart => exact ⟨0, Nat.zero_le _, rfl, Kept.refl _ _⟩
  case round =>
    obtain ⟨k, hk, rfl, KW⟩ := hrel
    by_cases hlt : k < n
    · have hx : (xs.map Value.string)[k]? = some (.string (xs[k]'(by rw [HN.out]; exact hlt))) := by
        rw [List.getElem?_map, List.getElem?_eq_getElem (by rw [HN.out]; exact hlt)]
        rfl
      obtain ⟨x, hxx⟩ : ∃ x, x = xs[k]'(by rw [HN.out]; exact hlt) := ⟨_, rfl⟩
      rw [← hxx] at hx
      have hne : xs.map Value.string ≠ [] := by intro e; rw [e] at hx; simp at hx
      cases a with
      | none => exact absurd (A1.out.1 rfl).1 hne
      | some pa =>
        cases b with
        | none => exact absurd (B1.out.1 rfl).1 hne
        | some pb =>
          have ea := KW.out.cell (A1.out.2 pa rfl k _ hx) (by simp)
          have eb := KW.out.cell (B1.out.2 pb rfl k _ hx) (by simp)
          have hi : (k : Int) < (n : Int) := by omega
          clear hx hxx hne
          go_wp2
          go_quiet (fail)
          go_wp2
          go_roundw
          case rel => exact ⟨k + 1, by omega, by go_num, by first | exact KW | exact KW.out.drewN _ | exact KW.out.drew⟩
          case measure => simp [numOf]; omega
    · have hi : ¬ (k : Int) < (n : Int) := by omega
      go_wp2
      go_ret
      exact ⟨rfl, KW.out.below (Nat.le_refl _) (by simp)⟩

/-! ### Two caches -/

/-- A cache of package lru with the list l beside the document's with the list m, behind all that lay in w0. -/
def Two (w0 w : World) (p r : Nat) (fr : Int) (N : Nat) (l m : List (ByteArray × Nat)) : Prop := ∃ fp fq, Ck kS w fp p fr N l ∧ RefK w fq r fr m ∧ (∀ x ∈ fp, x ∉ fq) ∧ (∀ x, x ∈ fp ∨ x ∈ fq → w0.heap.size ≤ x) ∧ Below w0.heap.size w0 w

section
variable {w0 w w' : World} {p r : Nat} {fr : Int} {N : Nat} {l m : List (ByteArray × Nat)}

theorem Two.bel (h : Two w0 w p r fr N l m) : Below w0.heap.size w0 w := by obtain ⟨_, _, _, _, _, _, h⟩ := h; exact h

theorem Two.below (h : Two w0 w p r fr N l m) (hb : Below w.heap.size w w') : Two w0 w' p r fr N l m := by
  obtain ⟨fp, fq, h1, h2, h3, h4, h5⟩ := h
  exact ⟨fp, fq, h1.below hb, h2.kept (fp2 := []) (Kept.of_below hb) (by simp), h3, h4, below_then h5 hb⟩
theorem Two.drew (h : Two w0 w p r fr N l m) : Two w0 w.drew p r fr N l m := h.below (Below.refl _ w).drew

theorem Two.callL (h : Two w0 w p r fr N l m) {f : Nat} {args : Array Value} {R : Ending → Prop} {N' : Nat} {l' : List (ByteArray × Nat)} (hc : ∀ fp, Ck kS w fp p fr N l → Calls Try.prog f args w fun e w' => R e ∧ Outc kS w w' fp p fr N' l') :
    Calls Try.prog f args w fun e w' => R e ∧ Two w0 w' p r fr N' l' m := by
  obtain ⟨fp, fq, h1, h2, h3, h4, h5⟩ := h
  refine (hc fp h1).mono ?_
  rintro e w' ⟨hr, fp', o1, o2, o3⟩
  refine ⟨hr, fp', fq, o1, h2.kept o2 (fun x hx e => h3 x e hx), fun x hx e => ?_, fun x hx => ?_, h5.trans (o2.below h5.size (fun b hb => h4 b (.inl hb)))⟩
  · rcases o3 x hx with q | q
    · exact h3 x q e
    · have := h2.lt x e; omega
  · rcases hx with hx | hx
    · rcases o3 x hx with q | q
      · exact h4 x (.inl q)
      · exact Nat.le_trans h5.size q
    · exact h4 x (.inr hx)

theorem Two.callR (h : Two w0 w p r fr N l m) {f : Nat} {args : Array Value} {R : Ending → Prop} {m' : List (ByteArray × Nat)} (hc : ∀ fq, RefK w fq r fr m → Calls Try.prog f args w fun e w' => R e ∧ RefO w w' fq r fr m') :
    Calls Try.prog f args w fun e w' => R e ∧ Two w0 w' p r fr N l m' := by
  obtain ⟨fp, fq, h1, h2, h3, h4, h5⟩ := h
  refine (hc fq h2).mono ?_
  rintro e w' ⟨hr, fq', o1, o2, o3⟩
  refine ⟨hr, fp, fq', h1.kept o2 h3, o1, fun x hx e => ?_, fun x hx => ?_, h5.trans (o2.below h5.size (fun b hb => h4 b (.inr hb)))⟩
  · rcases o3 x e with q | q
    · exact h3 x hx q
    · have := h1.lt x hx; omega
  · rcases hx with hx | hx
    · exact h4 x (.inl hx)
    · rcases o3 x hx with q | q
      · exact h4 x (.inr q)
      · exact Nat.le_trans h5.size q

theorem Two.nodup (h : Two w0 w p r fr N l m) : (l.map Prod.fst).Nodup := by
  obtain ⟨_, _, ⟨bh, bl, us, es, h1, _, _, rfl⟩, _⟩ := h
  have := h1.keys
  rw [List.map_map]
  exact this

theorem Two.keys (h : Two w0 w p r fr N l m) {q : Nat} (hm : SortsTo q) (hm2 : q ≤ 1000000) (hl : l.length ≤ q) :
    Calls Try.prog 22 #[.pointer (some ⟨p, 0, none⟩)] w fun e w' => ∃ v, e = .returned v ∧ IsV w' v (l.map fun x => .string x.1) ∧ Two w0 w' p r fr N l m ∧ Below w.heap.size w w' := by
  have h4 := h
  obtain ⟨fp, fq, h1, _⟩ := h
  refine (S.keys_any hm hm2 h1 hl).mono ?_
  rintro e w' ⟨v, rfl, o, b⟩
  refine ⟨v, rfl, isV_own o (by simp) ?_, h4.below b, b⟩
  intro u hu
  obtain ⟨x, _, rfl⟩ := List.mem_map.1 hu
  rfl

theorem Two.has (h : Two w0 w p r fr N l m) (k : ByteArray) (hok : kS.ok k) : Calls Try.prog 23 #[.pointer (some ⟨p, 0, none⟩), .string k] w fun e w' => e = .returned (.bool (lookA l k).isSome) ∧ Two w0 w' p r fr N l m ∧ ∀ o v, w.cell? ⟨r, o, none⟩ = some v → w'.cell? ⟨r, o, none⟩ = some v := by
  obtain ⟨fp, fq, h1, h2, h3, h4, h5⟩ := h
  have hr : r ∈ fq := by obtain ⟨lv, pv, _, rfl⟩ := h2; simp [lfeet]
  refine (S.has_any h1 k hok).mono ?_
  rintro e w' ⟨rfl, fp', o1, o2, o3⟩
  refine ⟨rfl, ⟨fp', fq, o1, h2.kept o2 (fun x hx e => h3 x e hx), fun x hx e => ?_, fun x hx => ?_, h5.trans (o2.below h5.size (fun b hb => h4 b (.inl hb)))⟩, fun o v hv => o2.cell hv (fun e => h3 r e hr)⟩
  · rcases o3 x hx with q | q
    · exact h3 x q e
    · have := h2.lt x e; omega
  · rcases hx with hx | hx
    · rcases o3 x hx with q | q
      · exact h4 x (.inl q)
      · exact Nat.le_trans h5.size q
    · exact h4 x (.inr hx)

theorem Two.hasR (h : Two w0 w p r fr N l m) (hm : m.length ≤ 1000) (k : ByteArray) : Calls Try.prog 24 #[.pointer (some ⟨r, 0, none⟩), .string k] w fun e w' => e = .returned (.bool (lookA m k).isSome) ∧ w' = w := by
  obtain ⟨fp, fq, h1, h2, _⟩ := h
  exact h2.has hm k

theorem goneV_str (g : Option ByteArray) : ∃ s, S.goneV g = .string s := by
  cases g with
  | none => exact ⟨_, rfl⟩
  | some k => exact ⟨k, rfl⟩

theorem same_two {va vb : Value} (ha : IsV w va (l.map fun x => .string x.1)) (hb : IsV w vb (l.map fun x => .string x.1)) (hl : l.length ≤ 1000000) :
    Calls Try.prog 21 #[va, vb] w fun e w' => e = .returned (.bool true) ∧ Below w.heap.size w w' := by
  have e : (l.map fun x => Value.string x.1) = (l.map Prod.fst).map Value.string := by rw [List.map_map]; rfl
  rw [e] at ha hb
  exact sameL_yes ha hb (by simpa using hl)

theorem Two.row (h : Two w0 w p r fr N l m) : ∃ lv, w.cell? ⟨r, 1, none⟩ = some lv ∧ IsV w lv (m.map fun x => .string x.1) := by
  obtain ⟨_, _, _, h2, _⟩ := h
  exact h2.row

theorem Two.new (n : Int) (hb : Below w0.heap.size w0 w) : Calls Try.prog 11 #[.int .i64 n] w fun x w' => ∃ p, x = .returned (.pointer (some ⟨p, 0, none⟩)) ∧
    Calls Try.prog 12 #[.int .i64 n] w' fun y w2 => ∃ r, y = .returned (.pointer (some ⟨r, 0, none⟩)) ∧ Two w0 w2 p r (max n 1) 0 [] [] := by
  refine (S.new_any n w).mono ?_
  rintro x w' ⟨p, fp, rfl, c, b, hf⟩
  refine ⟨p, rfl, (refNewL n w').mono ?_⟩
  rintro y w2 ⟨rfl, h2, b2⟩
  refine ⟨_, rfl, fp, _, c.below b2, ⟨_, _, h2, rfl⟩, fun x hx e => ?_, fun x hx => ?_, below_then (below_then hb b) b2⟩
  · have := c.lt x hx
    simp [lfeet, own, Value.ownBlock] at e
    omega
  · rcases hx with hx | hx
    · exact Nat.le_trans hb.size (hf x hx)
    · simp [lfeet, own, Value.ownBlock] at hx
      rw [hx]
      exact (below_then hb b).size
end

end Go.Proofs.Ytokodmeabchmjaa
