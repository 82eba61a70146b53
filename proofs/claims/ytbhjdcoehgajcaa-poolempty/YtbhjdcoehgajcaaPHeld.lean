/-
  Pools: hold, whatever is held. A lemma file: no statement of the seat is proved here.
-/
import Derived.Test.YtbhjdcoehgajcaaPInv2
namespace Go.Proofs.Ytbhjdcoehgajcaa.L.P
open Go.RowKit Go.Maps

section
variable {C : List UInt8 → Option (List Int)} {w w' : World} {fp : List Nat} {q d o : Nat} {fr : Int} {N : Nat} {l : List Ab} {s : Ds} {ord : List (Place × Nat)} {gs : List Pg}

theorem Pl.facts (h : Pl w fp q d o fr N l s ord gs) : okA l s ∧ (ord.map Prod.fst).Nodup ∧ (gs.map Pg.key).Nodup := by
  obtain ⟨fd, fo, bm, h1, ⟨bh, bl, us, es, c, _, _, rfl⟩, h3, _⟩ := h
  refine ⟨h1.ok, ?_, h3.keys⟩
  have := c.keys
  rw [List.map_map]
  exact this

theorem PInv.count (h : PInv C fr l s ord gs) (h1 : (ord.map Prod.fst).Nodup) (h2 : (gs.map Pg.key).Nodup) : gs.length = ord.length := by
  have hp : (gs.map Pg.key).Perm (ord.map Prod.fst) := (List.perm_ext_iff_of_nodup h2 h1).2 fun k => by
    rw [List.mem_map, List.mem_map]
    exact (h.keys k).symm
  simpa using hp.length_eq

/-- What hold leaves. -/
def Held (C : List UInt8 → Option (List Int)) (w w' : World) (fp : List Nat) (q d o : Nat) (fr : Int) (N : Nat) (s : Ds) (gs : List Pg) (k : Place) (gb : Nat) : Prop :=
  ∃ N' l' s' ord' a g b, PlO w w' fp q d o fr N' l' s' ord' (a ++ g :: b) ∧ g.blk = gb ∧ g.key = k ∧ PInv C fr l' s' ord' (a ++ g :: b) ∧ N' ≤ N + 1 ∧ s'.ops ≤ s.ops + 2 ∧ s.ops ≤ s'.ops ∧
    (((gs.length : Int) < fr ∨ ∃ g ∈ gs, g.key = k) → s'.ops + (gs.length : Int) = s.ops + ((a ++ g :: b).length : Int))

/-- hold, behind use, of a page that is not held. -/
theorem hold_rest {N' : Nat} {l' : List Ab} {s' : Ds} {ord0 : List (Place × Nat)} {gs' : List Pg} (h : Pl w fp q d o fr N l s ord gs) (hi : PInv C fr l' s' ord0 gs') (hn : s'.ops ≤ 1000000) {k : Place} {c : List Int} {j : Nat} (hc : C k.1.1.data.toList = some c) (hj : k.1.2 = ((64 * j : Nat) : Int)) (hlt : 64 * j < c.length)
    (hl : (ord0.length : Int) < fr) (hno : ∀ g ∈ gs', g.key ≠ k) (hlen : gs'.length < maxLen) (hN : N' ≤ N + 1) (ho1 : s'.ops ≤ s.ops + 1) (ho2 : s.ops ≤ s'.ops) (hcnt : ((gs.length : Int) < fr ∨ ∃ g ∈ gs, g.key = k) → s'.ops = s.ops ∧ gs'.length = gs.length)
    (hu : ∀ W, Pl W fp q d o fr N l s ord gs → Calls Try.prog 60 #[.pointer (some ⟨q, 0, none⟩), encP k] W fun e W' => e = .returned (.int .i64 0) ∧ PlO W W' fp q d o fr N' l' s' (ord0 ++ [(k, 0)]) gs') :
    Calls Try.prog 46 #[.pointer (some ⟨q, 0, none⟩), encP k, .int .i64 ((min 64 (c.length - 64 * j) : Nat) : Int)] w fun e w' => ∃ gb, e = .returned (.tuple #[.pointer (some ⟨gb, 0, none⟩), .int .i64 0]) ∧ Held C w w' fp q d o fr N s gs k gb := by
  obtain ⟨x, hx, hxl, hbs⟩ := hi.bytes hc hj hno
  have hcl := (hi.has _ _ hc).2
  have hb : beginA l' s' = (l', { s' with ops := s'.ops + 1 }) := begin_eq hi.left
  have he : errA (beginA l' s') k.1.1.data.toList = none := by rw [hb]; exact err_none (s := { s' with ops := s'.ops + 1 }) hi.up hx
  refine (hold_new h k (64 * j) (min 64 (c.length - 64 * j)) hj (by omega) (by omega) hn he (by rw [hb]; exact hx) (by rw [hxl]; omega) (by omega) hno hlen hu).mono ?_
  rintro e w' ⟨gb, v, rfl, hp⟩
  rw [hbs, hb] at hp
  refine ⟨gb, rfl, N', l', { s' with ops := s'.ops + 1 }, ord0 ++ [(k, 0)], gs', ⟨k, gb, v, seg c j, false⟩, [], hp, rfl, rfl, ?_, hN, by show s'.ops + 1 ≤ s.ops + 2; omega, by show s.ops ≤ s'.ops + 1; omega, fun hq => ?_⟩
  · exact (hi.snoc (g := ⟨k, gb, v, seg c j, false⟩) hc hj hlt rfl rfl hl).begins
  · obtain ⟨e1, e2⟩ := hcnt hq
    show s'.ops + 1 + (gs.length : Int) = s.ops + ((gs' ++ [_]).length : Int)
    rw [e1, ← e2]
    simp
    omega

theorem hold_any (h : Pl w fp q d o fr N l s ord gs) (hi : PInv C fr l s ord gs) (hN : N + 1 ≤ 1000000) (hn : s.ops + 2 ≤ 1000000) (hfr : fr ≤ 100000) {k : Place} {c : List Int} {j : Nat} (hc : C k.1.1.data.toList = some c) (hj : k.1.2 = ((64 * j : Nat) : Int)) (hlt : 64 * j < c.length) :
    Calls Try.prog 46 #[.pointer (some ⟨q, 0, none⟩), encP k, .int .i64 ((min 64 (c.length - 64 * j) : Nat) : Int)] w fun e w' => ∃ gb, e = .returned (.tuple #[.pointer (some ⟨gb, 0, none⟩), .int .i64 0]) ∧ Held C w w' fp q d o fr N s gs k gb := by
  obtain ⟨hok, hno1, hno2⟩ := h.facts
  have hcount := hi.count hno1 hno2
  have hmax : (100000 : Nat) < maxLen := by unfold maxLen; omega
  have hone := hi.one
  have hle := hi.len
  have hfn : fr ≤ (ord.length : Int) → firstA ord ≠ none := fun hq => by
    obtain ⟨y, r, _, e⟩ := first_ne hi.pins (by omega)
    rw [e]
    simp
  by_cases hin : ∃ g ∈ gs, g.key = k
  · obtain ⟨hu, hi2⟩ := hi.used hin
    obtain ⟨g, hg, rfl⟩ := hin
    obtain ⟨a, b, rfl⟩ := List.append_of_mem hg
    obtain ⟨c2, j2, e1, e2, e3, e4⟩ := hi.page g hg
    rw [hc] at e1
    cases e1
    have ej : j2 = j := by omega
    subst ej
    refine (hold_in h _ (by rw [e4, seg_len]; exact Int.le_refl _) (by omega) (fun W pl => use_keep pl hN g.key hfn hu)).mono ?_
    rintro e w' ⟨rfl, hp⟩
    exact ⟨g.blk, rfl, N + 1, l, s, _, a, g, b, hp, rfl, rfl, hi2, Nat.le_refl _, by omega, Int.le_refl _, fun _ => rfl⟩
  · have hnk : ∀ g ∈ gs, g.key ≠ k := fun g hg e => hin ⟨g, hg, e⟩
    have hlook : lookA ord k = none := L.look_none fun y hy e => hin ((hi.keys k).1 ⟨y, hy, e⟩)
    by_cases hroom : (ord.length : Int) < fr
    · have hu : useA fr ord k = (none, 0, ord ++ [(k, 0)]) := by
        unfold useA
        rw [hlook]
        simp only
        rw [if_neg (by omega)]
      exact hold_rest h hi (by omega) hc hj hlt hroom hnk (by omega) (Nat.le_refl _) (by omega) (Int.le_refl _) (fun _ => ⟨rfl, rfl⟩) (fun W pl => use_keep pl hN k hfn hu)
    · obtain ⟨y, r, rfl, hf⟩ := first_ne hi.pins (by omega)
      obtain ⟨g, hg, hgk⟩ := (hi.keys y.1).1 ⟨y, by simp, rfl⟩
      obtain ⟨a, b, rfl⟩ := List.append_of_mem hg
      have hu : useA fr (y :: r) k = (some g.key, 0, delA (y :: r) g.key ++ [(k, 0)]) := by
        unfold useA
        rw [hlook]
        simp only
        rw [if_pos (by omega), hf, hgk]
      have hds := delA_short ((hi.keys g.key).2 ⟨g, by simp, rfl⟩)
      have hnk2 : ∀ z ∈ a ++ b, z.key ≠ k := fun z hz => hnk z (by rcases List.mem_append.1 hz with hz | hz <;> simp [hz])
      have hlen2 : (a ++ b).length < maxLen := by
        have e1 : (a ++ b).length + 1 = (a ++ g :: b).length := by simp; omega
        have e2 : (((a ++ g :: b).length : Nat) : Int) ≤ 100000 := by rw [hcount]; omega
        omega
      have hcn : ¬ ((((a ++ g :: b).length : Nat) : Int) < fr ∨ ∃ z ∈ a ++ g :: b, z.key = k) := by
        intro hq
        rcases hq with hq | hq
        · rw [hcount] at hq; omega
        · exact hin hq
      cases hdt : g.dirty with
      | false =>
        exact hold_rest h (hi.gone hno2 hdt) (by omega) hc hj hlt (by omega) hnk2 hlen2 (Nat.le_refl _) (by omega) (Int.le_refl _) (fun hq => absurd hq hcn)
          (fun W pl => use_out (x := g.dirty) pl hN k hfn hu (fun W2 fq pl2 => pl2.save_clean (by simp) hdt))
      | true =>
        obtain ⟨A, hA, hi2, hops, hbl⟩ := hi.saved hok hno2
        have hi3 := hi2.gone (by simpa using hno2) rfl
        exact hold_rest h hi3 (by omega) hc hj hlt (by have : (({ g with dirty := false } : Pg)).key = g.key := rfl; rw [this]; omega) hnk2 hlen2 (Nat.le_refl _) (by omega) (by omega) (fun hq => absurd hq hcn)
          (fun W pl => use_out (x := false) pl hN k hfn hu (fun W2 fq pl2 => pl2.save_dirty hdt (by omega) hbl hA))

end
end Go.Proofs.Ytbhjdcoehgajcaa.L.P
