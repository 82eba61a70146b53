/-
  Lemma texts, one behind the other: PStay, PDrops. No statement of the seat is proved here.
-/
import Derived.Test.YtbhjdcoehgajcaaGI
namespace Go.Proofs.Ytbhjdcoehgajcaa.L.P
open Go.RowKit Go.Maps

/-- Every dirty page of the one was dirty in the other. -/
def Cleaner (gs' gs : List Pg) : Prop := ∀ g ∈ gs', g.dirty = true → ∃ g0 ∈ gs, g0.key = g.key ∧ g0.dirty = true

section
variable {C : List UInt8 → Option (List Int)} {w w' : World} {fp : List Nat} {q d o : Nat} {fr : Int} {N : Nat} {l : List Ab} {s : Ds} {ord : List (Place × Nat)} {gs : List Pg}

/-- hold, where no page has to go: the disk's files stay. -/
theorem hold_stay (h : Pl w fp q d o fr N l s ord gs) (hi : PInv C fr l s ord gs) (hN : N + 1 ≤ 1000000) (hn : s.ops + 2 ≤ 1000000) (hfr : fr ≤ 100000) {k : Place} {c : List Int} {j : Nat} (hc : C k.1.1.data.toList = some c) (hj : k.1.2 = ((64 * j : Nat) : Int)) (hlt : 64 * j < c.length) (hq : (gs.length : Int) < fr ∨ ∃ g ∈ gs, g.key = k) :
    Calls Try.prog 46 #[.pointer (some ⟨q, 0, none⟩), encP k, .int .i64 ((min 64 (c.length - 64 * j) : Nat) : Int)] w fun e w' => ∃ gb, e = .returned (.tuple #[.pointer (some ⟨gb, 0, none⟩), .int .i64 0]) ∧
      ∃ N' s' ord' a g b, PlO w w' fp q d o fr N' l s' ord' (a ++ g :: b) ∧ g.blk = gb ∧ g.key = k ∧ PInv C fr l s' ord' (a ++ g :: b) ∧ N' ≤ N + 1 ∧ s'.ops ≤ s.ops + 2 ∧ s.ops ≤ s'.ops ∧ Cleaner (a ++ g :: b) gs := by
  obtain ⟨hok, hno1, hno2⟩ := h.facts
  have hcount := hi.count hno1 hno2
  have hmax : (100000 : Nat) < maxLen := by unfold maxLen; omega
  have hone := hi.one
  have hle := hi.len
  have hfn : fr ≤ (ord.length : Int) → firstA ord ≠ none := fun hq => by
    obtain ⟨y, r, _, e⟩ := first_ne hi.pins (by omega)
    rw [e]
    simp
  by_cases hin : ∃ g ∈ gs, g.key = k
  · obtain ⟨hu, hi2⟩ := hi.used hin
    obtain ⟨g, hg, rfl⟩ := hin
    obtain ⟨a, b, rfl⟩ := List.append_of_mem hg
    obtain ⟨c2, j2, e1, e2, e3, e4⟩ := hi.page g hg
    rw [hc] at e1
    cases e1
    have ej : j2 = j := by omega
    subst ej
    refine (hold_in h _ (by rw [e4, seg_len]; exact Int.le_refl _) (by omega) (fun W pl => use_keep pl hN g.key hfn hu)).mono ?_
    rintro e w' ⟨rfl, hp⟩
    exact ⟨g.blk, rfl, N + 1, s, _, a, g, b, hp, rfl, rfl, hi2, Nat.le_refl _, by omega, Int.le_refl _, fun z hz hd => ⟨z, hz, rfl, hd⟩⟩
  · have hnk : ∀ g ∈ gs, g.key ≠ k := fun g hg e => hin ⟨g, hg, e⟩
    have hlook : lookA ord k = none := L.look_none fun y hy e => hin ((hi.keys k).1 ⟨y, hy, e⟩)
    have hroom : (ord.length : Int) < fr := by
      rcases hq with hq | hq
      · rw [hcount] at hq; exact hq
      · exact absurd hq hin
    have hu : useA fr ord k = (none, 0, ord ++ [(k, 0)]) := by
      unfold useA
      rw [hlook]
      simp only
      rw [if_neg (by omega)]
    obtain ⟨x, hx, hxl, hbs⟩ := hi.bytes hc hj hnk
    have hcl := (hi.has _ _ hc).2
    have hb : beginA l s = (l, { s with ops := s.ops + 1 }) := begin_eq hi.left
    have he : errA (beginA l s) k.1.1.data.toList = none := by rw [hb]; exact err_none (s := { s with ops := s.ops + 1 }) hi.up hx
    refine (hold_new h k (64 * j) (min 64 (c.length - 64 * j)) hj (by omega) (by omega) (by omega) he (by rw [hb]; exact hx) (by rw [hxl]; omega) (by omega) hnk (by omega) (fun W pl => use_keep pl hN k hfn hu)).mono ?_
    rintro e w' ⟨gb, v, rfl, hp⟩
    rw [hbs, hb] at hp
    refine ⟨gb, rfl, N + 1, { s with ops := s.ops + 1 }, ord ++ [(k, 0)], gs, ⟨k, gb, v, seg c j, false⟩, [], hp, rfl, rfl, ?_, Nat.le_refl _, by show s.ops + 1 ≤ s.ops + 2; omega, by show s.ops ≤ s.ops + 1; omega, fun z hz hd => ?_⟩
    · exact (hi.snoc (g := ⟨k, gb, v, seg c j, false⟩) hc hj hlt rfl rfl hroom).begins
    · rcases List.mem_append.1 hz with hz | hz
      · exact ⟨z, hz, rfl, hd⟩
      · simp at hz
        subst hz
        cases hd
end

/-- While bytes are read: how many are done. -/
def RdS (C : List UInt8 → Option (List Int)) (w2 : World) (fp : List Nat) (q d o : Nat) (fr : Int) (N : Nat) (P : Int) (V : Value) (bx : Nat) (c : List Int) (at_ n : Nat) (l : List Ab) (gs : List Pg) (done : Nat) (W : World) : Prop :=
  ∃ fp1 N1 s1 ord1 gs1, Pl W fp1 q d o fr N1 l s1 ord1 gs1 ∧ PInv C fr l s1 ord1 gs1 ∧ N1 ≤ N + done ∧ P ≤ s1.ops ∧ s1.ops ≤ P + 2 * done ∧ Kept (fp ++ own V) w2 W ∧ Newly w2 fp fp1 ∧ W.cell? ⟨bx, 0, none⟩ = some V ∧ done ≤ n + 63 ∧ (0 < done → gs1 ≠ []) ∧ Cleaner gs1 gs ∧
    RowB W V ((c.drop at_).take (min done n) ++ zs0 (n - done))

section
variable {C : List UInt8 → Option (List Int)} {w w' : World} {fp : List Nat} {q d o : Nat} {fr : Int} {N : Nat} {l : List Ab} {s : Ds} {ord : List (Place × Nat)} {gs : List Pg}

/-- One page of what is read. -/
theorem read_pageS {w2 W : World} {P : Int} {V : Value} {bx at_ n D F : Nat} {nm : ByteArray} {c : List Int} (hnm : nm.size ≤ maxLen) (hF : Bd C F) (hf2 : (F : Int) ≤ fr) (hc : C nm.data.toList = some c) (hfr : fr ≤ 100000) (hN : N + n ≤ 999999) (hP : P + 2 * n ≤ 999000) (hf : at_ + n ≤ c.length) (hcl : c.length ≤ 100000) (hD : D < n)
    (hV : ∃ g, V = .slice (some ⟨g, 0, none⟩) n n) (hb2 : bx < w2.heap.size) (hv2 : ∀ y ∈ own V, y < w2.heap.size ∧ y ∉ fp ∧ y ≠ bx) (hbf : bx ∉ fp) (hI : RdS C w2 fp q d o fr N P V bx c at_ n l gs D W) :
    ∃ k : Place, k.1.1 = nm ∧ k.1.2 = ((at_ + D - (at_ + D) % 64 : Nat) : Int) ∧
      Calls Try.prog 46 #[.pointer (some ⟨q, 0, none⟩), encP k, .int .i64 (min 64 (c.length - (at_ + D - (at_ + D) % 64)) : Nat)] W fun e W1 => ∃ gb, e = .returned (.tuple #[.pointer (some ⟨gb, 0, none⟩), .int .i64 0]) ∧
        Calls Try.prog 30 (#[.pointer (some ⟨gb, 0, none⟩), .int .i64 ((at_ + D) % 64 : Nat), .int .i64 D] ++ #[.pointer (some ⟨bx, 0, none⟩)]) W1 fun e W2 => e = .returned (.tuple #[]) ∧ RdS C w2 fp q d o fr N P V bx c at_ n l gs (D + (64 - (at_ + D) % 64)) W2 := by
  obtain ⟨fp1, N1, s1, ord1, gs1, p1, i1, n1, o1, o2, k1, w1, bc, _, _, cn, br⟩ := hI
  obtain ⟨j, hj⟩ : ∃ j, j = (at_ + D) / 64 := ⟨_, rfl⟩
  have ej : at_ + D - (at_ + D) % 64 = 64 * j := by omega
  rw [ej]
  refine ⟨⟨(nm, ((64 * j : Nat) : Int)), hnm, by simp only; omega, by simp only; omega⟩, rfl, rfl, ?_⟩
  have nin : ∀ y, y < w2.heap.size → y ∉ fp → y ∉ fp1 := fun y h1 h2 e => by
    rcases w1 y e with u | u
    · exact h2 u
    · omega
  refine (hold_stay p1 i1 (by omega) (by omega) hfr (k := ⟨(nm, ((64 * j : Nat) : Int)), hnm, by simp only; omega, by simp only; omega⟩) (c := c) (j := j) hc rfl (by omega) (held_or p1 i1 hF hf2 ⟨c, j, hc, rfl, by omega⟩)).mono ?_
  rintro e W1 ⟨gb, rfl, N2, s2, ord2, a, g, b, ⟨fp2, p2, k2, m2⟩, rfl, hgk, i2, n2, o3, o4, hcn⟩
  refine ⟨g.blk, rfl, ?_⟩
  obtain ⟨c2, j2, e1, e2, e3, e4⟩ := i2.page g (by simp)
  rw [hgk] at e1 e2
  have ec : some c2 = some c := e1.symm.trans hc
  cases ec
  have e2' : ((64 * j : Nat) : Int) = ((64 * j2 : Nat) : Int) := e2
  have ejj : j2 = j := by omega
  subst ejj
  obtain ⟨g0, _, _, gr, gin, gown⟩ := p2.page (g := g) (by simp)
  obtain ⟨va, vc, hv, _⟩ := gr.isB.form
  obtain ⟨vg, rfl⟩ := hV
  have nin2 : ∀ y, y < w2.heap.size → y ∉ fp → y ∉ fp2 := fun y h1 h2 e => by
    rcases m2 y e with u | u
    · exact nin y h1 h2 u
    · have := k1.size; omega
  have hvv := hv2 vg (by simp [own, Value.ownBlock])
  have bc2 := k2.cell bc (nin bx hb2 hbf)
  have br2 := br.kept k2 (fun y hy => nin y (hv2 y hy).1 (hv2 y hy).2.1)
  have hmin : min D n = D := by omega
  rw [hmin] at br2
  rw [hv] at g0
  have hsl : (seg c j2).length = min 64 (c.length - 64 * j2) := seg_len _ _
  refine (read1_any g.blk ((at_ + D) % 64) D bx n n g.bs.length vc (some ⟨vg, 0, none⟩) va _ g.bs bc2 g0 br2 (by rw [List.length_append, zs0_length]; simp; omega) (hv ▸ gr.isB) (by omega) (by rw [e4, hsl]; omega) (fun e => by
      have := (hv2 bx e).2.2
      exact this rfl) (fun e => by
      simp [own, Value.ownBlock] at e
      exact nin2 vg hvv.1 hvv.2.1 (e ▸ gin))).mono ?_
  rintro e W2 ⟨rfl, r3, k3⟩
  refine ⟨rfl, fp2, N2, s2, ord2, a ++ g :: b, p2.kept k3 (fun y hy e => ?_), i2, by omega, by omega, by omega, ?_, fun y hy => ?_, k3.cell bc2 (fun e => (hv2 bx e).2.2 rfl), by omega, fun _ => by simp, fun z hz hd => ?_, ?_⟩
  · have := hv2 y e
    exact nin2 y this.1 this.2.1 hy
  · exact (k1.trans k2 (fun y hy => (w1 y hy).imp (fun u => by simp [u]) id)).trans k3 (fun y hy => .inl (by simp [hy]))
  · rcases m2 y hy with u | u
    · exact w1 y u
    · exact .inr (Nat.le_trans k1.size u)
  · obtain ⟨z1, hz1, e8, hd1⟩ := hcn z hz hd
    obtain ⟨z0, hz0, e9, hd0⟩ := cn z1 hz1 hd1
    exact ⟨z0, hz0, e9.trans e8, hd0⟩
  · rw [e4, hj, read_step hf hD] at r3
    exact r3

set_option maxRecDepth 100000 in
set_option maxHeartbeats 1000000 in
/-- ReadAt of bytes that there are. -/
theorem readAt_stay {F : Nat} (hF : Bd C F) (hf2 : (F : Int) ≤ fr) (h : Pl w fp q d o fr N l s ord gs) (hi : PInv C fr l s ord gs) (nm : ByteArray) (hnm : nm.size ≤ maxLen) {c : List Int} (hc : C nm.data.toList = some c) (hfr : fr ≤ 100000) (at_ n : Nat) (hf : at_ + n ≤ c.length) (hN : N + n ≤ 999000) (hP : s.ops + 2 * n ≤ 998000) :
    Calls Try.prog 13 #[.pointer (some ⟨q, 0, none⟩), .string nm, .int .i64 at_, .int .i64 n] w fun e w' => ∃ v, e = .returned (.tuple #[v, .int .i64 0]) ∧ RowB w' v ((c.drop at_).take n) ∧
      ∃ fp' N' s' ord' gs', Pl w' fp' q d o fr N' l s' ord' gs' ∧ PInv C fr l s' ord' gs' ∧ N' ≤ N + n + 63 ∧ s'.ops ≤ s.ops + 1 + 2 * (n + 63) ∧ Kept fp w w' ∧ Newly w fp fp' ∧ Cleaner gs' gs ∧ ∀ y ∈ own v, w.heap.size ≤ y ∧ y ∉ fp' := by
  obtain ⟨⟨x, hx⟩, hcl⟩ := hi.has _ _ hc
  obtain ⟨c2, hc2, hxl, _⟩ := hi.file _ _ hx
  rw [hc] at hc2
  cases hc2
  have hb := begin_eq (l := l) hi.left
  have hz : sizeA (beginA l s) nm.data.toList = ((c.length : Int), 0) := by
    rw [hb]
    unfold sizeA
    rw [err_none (s := { s with ops := s.ops + 1 }) hi.up hx]
    have hx2 : Go.Proofs.Ytbhjdcoehgajcaa.lookA l nm.data.toList = some x := hx
    dsimp only
    rw [hx2]
    dsimp only
    rw [hxl]
  have WI := hide (within_ok h (by omega) nm hnm (at_ : Int) (n : Int) hz (by omega) (by omega) (by omega) (by omega))
  rw [hb] at WI
  have hmf := Try.mf
  have HI := hide hi.begins
  have HC := hide (And.intro hc (And.intro hnm (And.intro hfr (And.intro hf hcl))))
  have HB := hide (And.intro hN hP)
  have HF := hide (And.intro hF hf2)
  have hn9 : n ≤ 1000000 := by omega
  clear h hi hx hc hz hb hxl hfr hF hf2
  go_enter Try.func13, Try.ntmps13
  go_wp2_with (first | (go_at_call 28; refine WI.out.mono ?_; rintro e w1 ⟨rfl, o1⟩; have O1 := hide o1; clear o1) | (at_make; refine wp_makeB _ rfl _ _ rfl n (n : Int) (n : Int) rfl rfl rfl rfl (by omega) ?_; intro w2 r2 b2; have R2 := hide r2; have B2 := hide b2; clear r2 b2))
  obtain ⟨fp1, p1, k1, n1⟩ := O1.out
  have hv1 : ∀ y ∈ own (.slice (some ⟨w1.heap.size, 0, none⟩) n n), y = w1.heap.size := fun y hy => by simp [own, Value.ownBlock] at hy; omega
  have hw12 : w1.heap.size < w2.heap.size := R2.out.lt w1.heap.size (by simp [own, Value.ownBlock])
  have b3 : Below w2.heap.size w2 (w2.alloc (.cells #[.slice (some ⟨w1.heap.size, 0, none⟩) n n] 28)) := (Below.refl _ w2).alloc (Nat.le_refl _) _
  have hc3 : (w2.alloc (.cells #[.slice (some ⟨w1.heap.size, 0, none⟩) n n] 28)).cell? ⟨w2.heap.size, 0, none⟩ = some (.slice (some ⟨w1.heap.size, 0, none⟩) n n) := cell_of_heap (heap_alloc_new w2 (.cells #[.slice (some ⟨w1.heap.size, 0, none⟩) n n] 28)) 0
  have hs3 : (w2.alloc (.cells #[.slice (some ⟨w1.heap.size, 0, none⟩) n n] 28)).heap.size = w2.heap.size + 1 := by simp
  have p3 := (p1.below B2.out).below b3
  have r3 := R2.out.kept (Kept.of_below (fp := []) b3) (by simp)
  have B3 := hide (below_then B2.out b3)
  generalize w2.alloc (.cells #[.slice (some ⟨w1.heap.size, 0, none⟩) n n] 28) = W3 at b3 hc3 hs3 p3 r3 B3 ⊢
  have EA := hide (each_any (w := W3) q at_ n c.length nm (by have := HC.out.2.2.2; omega) hn9 (by have := HC.out.2.2.2; omega) HC.out.2.2.2.1 30 #[.pointer (some ⟨w2.heap.size, 0, none⟩)] eRead1
    (RdS C W3 fp1 q d o fr N (s.ops + 1) (.slice (some ⟨w1.heap.size, 0, none⟩) n n) w2.heap.size c at_ n l gs)
    ⟨fp1, N, _, ord, gs, p3, HI.out, Nat.le_refl _, Int.le_refl _, by show s.ops + 1 ≤ s.ops + 1 + 2 * ((0 : Nat) : Int); omega, Kept.refl _ _, Newly.refl _ _, hc3, by omega, fun h => absurd h (Nat.lt_irrefl _), fun z hz hd => ⟨z, hz, rfl, hd⟩, by simpa using r3⟩
    (fun done W hd hI => read_pageS HC.out.2.1 HF.out.1 HF.out.2 HC.out.1 HC.out.2.2.1 (by have := HB.out.1; omega) (by have := HB.out.2; omega) HC.out.2.2.2.1 HC.out.2.2.2.2 hd ⟨_, rfl⟩ (by omega)
      (fun y hy => ⟨by rw [hv1 y hy]; omega, fun e => by have := p1.lt y e; rw [hv1 y hy] at this; omega, by rw [hv1 y hy]; omega⟩) (fun e => by have := p1.lt _ e; omega) hI))
  have K1 := hide (And.intro k1 (And.intro n1 p1.lt))
  clear p1 k1 n1 hc3 p3 r3 b3
  refine EA.out.mono ?_
  rintro e W4 ⟨rfl, done, hdn, fp4, N4, s4, ord4, gs4, p4, i4, n4, o4, o5, k4, m4, c4, d4, _, g4, r4⟩
  have Z4 := hide (And.intro p4 (And.intro i4 (And.intro n4 (And.intro o5 (And.intro k4 (And.intro m4 (And.intro g4 r4)))))))
  clear p4 i4 n4 o4 o5 k4 m4 r4 g4 EA
  go_wp2_with fail
  go_ret2
  obtain ⟨p4, i4, n4, o5, k4, m4, g4, r4⟩ := Z4.out
  obtain ⟨k1, n1, lt1⟩ := K1.out
  rw [Nat.min_eq_right hdn, Nat.sub_eq_zero_of_le hdn] at r4
  have hw1 := k1.size
  have q1 : Kept fp w W3 := k1.trans (Kept.of_below (fp := fp) B3.out) (Newly.refl _ _)
  have hs1 := B3.out.size
  refine ⟨_, rfl, by simpa [zs0] using r4, fp4, N4, s4, ord4, gs4, p4, i4, by omega, by omega, q1.trans k4 (fun y hy => ?_), n1.trans m4 q1.size, g4, fun y hy => ⟨by rw [hv1 y hy]; exact hw1, fun e => ?_⟩⟩
  · rcases List.mem_append.1 hy with u | u
    · exact n1 y u
    · exact .inr (by rw [hv1 y u]; exact hw1)
  · rcases m4 y e with u | u
    · have := lt1 y u
      rw [hv1 y hy] at this
      omega
    · rw [hv1 y hy] at u
      omega

end
end Go.Proofs.Ytbhjdcoehgajcaa.L.P

namespace Go.Proofs.Ytbhjdcoehgajcaa.L.P
open Go.RowKit Go.Maps

section
variable {C : List UInt8 → Option (List Int)} {w w' : World} {fp : List Nat} {q d o : Nat} {fr : Int} {N : Nat} {l : List Ab} {s : Ds} {ord : List (Place × Nat)} {gs : List Pg}

/-- While bytes are written: how many are done. -/
def WrS (C : List UInt8 → Option (List Int)) (w2 : World) (fp : List Nat) (q d o : Nat) (fr : Int) (N : Nat) (P : Int) (U : Value) (bx : Nat) (nm : List UInt8) (c buf : List Int) (at_ : Nat) (l : List Ab) (done : Nat) (W : World) : Prop :=
  ∃ fp1 N1 s1 ord1 gs1, Pl W fp1 q d o fr N1 l s1 ord1 gs1 ∧ PInv (putC C nm (putA c at_ (buf.take (min done buf.length)))) fr l s1 ord1 gs1 ∧ N1 ≤ N + done ∧ P ≤ s1.ops ∧ s1.ops ≤ P + 2 * done ∧ Kept fp w2 W ∧ Newly w2 fp fp1 ∧ W.cell? ⟨bx, 0, none⟩ = some U ∧ done ≤ buf.length + 63

theorem write_pageS {w2 W : World} {P : Int} {ua : Option Addr} {bx at_ uc D F : Nat} {nm : ByteArray} {c buf : List Int} (hnm : nm.size ≤ maxLen) (hBd : ∀ c' : List Int, c'.length = c.length → Bd (putC C nm.data.toList c') F) (hf2 : (F : Int) ≤ fr) (hfr : fr ≤ 100000) (hN : N + buf.length ≤ 999999) (hP : P + 2 * buf.length ≤ 999000) (hf : at_ + buf.length ≤ c.length) (hcl : c.length ≤ 100000) (hD : D < buf.length)
    (hb2 : bx < w2.heap.size) (hbf : bx ∉ fp) (hu : IsB w2 (.slice ua buf.length uc) buf) (hux : ∀ x ∈ own (.slice ua buf.length uc), x ∉ fp) (hI : WrS C w2 fp q d o fr N P (.slice ua buf.length uc) bx nm.data.toList c buf at_ l D W) :
    ∃ k : Place, k.1.1 = nm ∧ k.1.2 = ((at_ + D - (at_ + D) % 64 : Nat) : Int) ∧
      Calls Try.prog 46 #[.pointer (some ⟨q, 0, none⟩), encP k, .int .i64 (min 64 (c.length - (at_ + D - (at_ + D) % 64)) : Nat)] W fun e W1 => ∃ gb, e = .returned (.tuple #[.pointer (some ⟨gb, 0, none⟩), .int .i64 0]) ∧
        Calls Try.prog 31 (#[.pointer (some ⟨gb, 0, none⟩), .int .i64 ((at_ + D) % 64 : Nat), .int .i64 D] ++ #[.pointer (some ⟨bx, 0, none⟩)]) W1 fun e W2 => e = .returned (.tuple #[]) ∧ WrS C w2 fp q d o fr N P (.slice ua buf.length uc) bx nm.data.toList c buf at_ l (D + (64 - (at_ + D) % 64)) W2 := by
  obtain ⟨fp1, N1, s1, ord1, gs1, p1, i1, n1, o1, o2, k1, w1, bc, _⟩ := hI
  obtain ⟨j, hj⟩ : ∃ j, j = (at_ + D) / 64 := ⟨_, rfl⟩
  have ej : at_ + D - (at_ + D) % 64 = 64 * j := by omega
  have hmin : min D buf.length = D := by omega
  rw [hmin] at i1
  have hcD := write_len (c := c) (buf := buf) (at_ := at_) (D := D) hf (by omega)
  rw [ej]
  refine ⟨⟨(nm, ((64 * j : Nat) : Int)), hnm, by simp only; omega, by simp only; omega⟩, rfl, rfl, ?_⟩
  have nin : ∀ y, y < w2.heap.size → y ∉ fp → y ∉ fp1 := fun y h1 h2 e => by
    rcases w1 y e with u | u
    · exact h2 u
    · omega
  have hcc : putC C nm.data.toList (putA c at_ (buf.take D)) nm.data.toList = some (putA c at_ (buf.take D)) := by unfold putC; rw [if_pos rfl]
  have ha := hold_stay p1 i1 (by omega) (by omega) hfr (k := ⟨(nm, ((64 * j : Nat) : Int)), hnm, by simp only; omega, by simp only; omega⟩) (c := putA c at_ (buf.take D)) (j := j) hcc rfl (by rw [hcD]; omega) (held_or p1 i1 (hBd _ hcD) hf2 ⟨_, j, hcc, rfl, by rw [hcD]; omega⟩)
  rw [hcD] at ha
  refine ha.mono ?_
  rintro e W1 ⟨gb, rfl, N2, s2, ord2, a, g, b, ⟨fp2, p2, k2, m2⟩, rfl, hgk, i2, n2, o3, o4, _⟩
  refine ⟨g.blk, rfl, ?_⟩
  obtain ⟨c2, j2, e1, e2, e3, e4⟩ := i2.page g (by simp)
  rw [hgk] at e1 e2
  have ec : some c2 = some (putA c at_ (buf.take D)) := e1.symm.trans hcc
  cases ec
  have e2' : ((64 * j : Nat) : Int) = ((64 * j2 : Nat) : Int) := e2
  have ejj : j2 = j := by omega
  subst ejj
  obtain ⟨g0, _, _, gr, gin, gown⟩ := p2.page (g := g) (by simp)
  obtain ⟨gc, gnb⟩ := p2.page2 (g := g) (by simp)
  obtain ⟨va, vc, hv, _⟩ := gr.isB.form
  have nin2 : ∀ y, y < w2.heap.size → y ∉ fp → y ∉ fp2 := fun y h1 h2 e => by
    rcases m2 y e with u | u
    · exact nin y h1 h2 u
    · have := k1.size; omega
  have bc2 := k2.cell bc (nin bx hb2 hbf)
  have hne : buf ≠ [] := fun e => by rw [e] at hD; simp at hD
  have hu2 := (hu.kept k1 (fun _ => hux)).kept k2 (fun _ y hy => nin y (hu.lt hne y hy) (hux y hy))
  have hsl : (seg (putA c at_ (buf.take D)) j2).length = min 64 (c.length - 64 * j2) := by rw [seg_len, hcD]
  have gv := hv
  rw [hv] at g0 gc
  refine (write1_any g.blk ((at_ + D) % 64) D bx buf.length uc g.bs.length vc ua va buf g.bs bc2 g0 (hv ▸ gr) rfl hu2 (by omega) (by rw [e4, hsl]; omega) (fun e => nin2 bx hb2 hbf (gown bx (by rw [hv]; exact e))) (fun e => gnb (by rw [hv]; exact e)) gc).mono ?_
  rintro e W2 ⟨rfl, w3, rfl, r3, k3⟩
  rw [← hv] at r3 k3
  obtain ⟨p4, k4⟩ := p2.write k3 r3
  have hnd := p2.facts.2.2
  have hstep := write_same (c := c) (buf := buf) (at_ := at_) (D := D) hf hD
  have i4 := i2.write hnd (c2 := putA c at_ (buf.take (min (D + (64 - (at_ + D) % 64)) buf.length))) (j := j2) (by rw [hgk]; exact hcc) (by rw [hgk]) (by rw [write_len hf (by omega), hcD]) (fun i hi => write_other hf hD (by rw [← hj]; exact hi))
  have hname : g.key.1.1.data.toList = nm.data.toList := by rw [hgk]
  rw [hname] at i4
  have ebs : g.bs.take ((at_ + D) % 64) ++ ((buf.drop D).take (g.bs.length - (at_ + D) % 64) ++ g.bs.drop ((at_ + D) % 64 + (buf.drop D).length)) = seg (putA c at_ (buf.take (min (D + (64 - (at_ + D) % 64)) buf.length))) j2 := by
    rw [e4, hj]
    exact hstep
  rw [ebs] at p4
  have epp : putC (putC C nm.data.toList (putA c at_ (buf.take D))) nm.data.toList (putA c at_ (buf.take (min (D + (64 - (at_ + D) % 64)) buf.length))) = putC C nm.data.toList (putA c at_ (buf.take (min (D + (64 - (at_ + D) % 64)) buf.length))) := by
    funext y
    unfold putC
    split <;> rfl
  refine ⟨rfl, fp2, N2, s2, ord2, _, p4, by rw [← epp]; exact i4, by omega, by omega, by omega, ?_, fun y hy => ?_, k4.cell bc2 (nin2 bx hb2 hbf), by omega⟩
  · exact (k1.trans k2 w1).trans k4 (fun y hy => by
      rcases m2 y hy with u | u
      · exact w1 y u
      · exact .inr (Nat.le_trans k1.size u))
  · rcases m2 y hy with u | u
    · exact w1 y u
    · exact .inr (Nat.le_trans k1.size u)

set_option maxRecDepth 100000 in
set_option maxHeartbeats 1000000 in
/-- WriteAt of bytes that fit. -/
theorem writeAt_stay {F : Nat} {c : List Int} (nm : ByteArray) (hBd : ∀ c' : List Int, c'.length = c.length → Bd (putC C nm.data.toList c') F) (hf2 : (F : Int) ≤ fr) (h : Pl w fp q d o fr N l s ord gs) (hi : PInv C fr l s ord gs) (hnm : nm.size ≤ maxLen) (hc : C nm.data.toList = some c) (hfr : fr ≤ 100000) (at_ : Nat) (ua : Option Addr) (uc : Nat) (buf : List Int) (hu : IsB w (.slice ua buf.length uc) buf) (hux : buf ≠ [] → ∀ x ∈ own (.slice ua buf.length uc), x ∉ fp) (hf : at_ + buf.length ≤ c.length) (hN : N + buf.length ≤ 999000) (hP : s.ops + 2 * buf.length ≤ 998000) :
    Calls Try.prog 14 #[.pointer (some ⟨q, 0, none⟩), .string nm, .int .i64 at_, .slice ua buf.length uc] w fun e w' => e = .returned (.int .i64 0) ∧
      ∃ fp' N' s' ord' gs', Pl w' fp' q d o fr N' l s' ord' gs' ∧ PInv (putC C nm.data.toList (putA c at_ buf)) fr l s' ord' gs' ∧ N' ≤ N + buf.length + 63 ∧ s'.ops ≤ s.ops + 1 + 2 * (buf.length + 63) ∧ Kept fp w w' ∧ Newly w fp fp' := by
  obtain ⟨⟨x, hx⟩, hcl⟩ := hi.has _ _ hc
  obtain ⟨c2, hc2, hxl, _⟩ := hi.file _ _ hx
  rw [hc] at hc2
  cases hc2
  have hb := begin_eq (l := l) hi.left
  have hz : sizeA (beginA l s) nm.data.toList = ((c.length : Int), 0) := by
    rw [hb]
    unfold sizeA
    rw [err_none (s := { s with ops := s.ops + 1 }) hi.up hx]
    have hx2 : Go.Proofs.Ytbhjdcoehgajcaa.lookA l nm.data.toList = some x := hx
    dsimp only
    rw [hx2]
    dsimp only
    rw [hxl]
  have b0 : Below w.heap.size w (w.alloc (.cells #[.slice ua buf.length uc] 28)) := (Below.refl _ w).alloc (Nat.le_refl _) _
  have hc0 : (w.alloc (.cells #[.slice ua buf.length uc] 28)).cell? ⟨w.heap.size, 0, none⟩ = some (.slice ua buf.length uc) := cell_of_heap (heap_alloc_new w (.cells #[.slice ua buf.length uc] 28)) 0
  obtain ⟨n, hn⟩ : ∃ n, n = buf.length := ⟨_, rfl⟩
  have WI := hide (within_ok (h.below b0) (by omega) nm hnm (at_ : Int) (buf.length : Int) hz (by omega) (by omega) (by omega) (by omega))
  rw [hb] at WI
  have hmf := Try.mf
  have HI : Hid (PInv (putC C nm.data.toList (putA c at_ (buf.take (min 0 buf.length)))) fr l { s with ops := s.ops + 1 } ord gs) := by
    have e : putC C nm.data.toList (putA c at_ (buf.take (min 0 buf.length))) = C := by
      funext y
      unfold putC
      split
      · rename_i e
        rw [e, hc]
        simp [putA]
      · rfl
    rw [e]
    exact hi.begins
  have HC := hide (And.intro hnm (And.intro hfr (And.intro hf hcl)))
  have HB := hide (And.intro hN hP)
  have HF := hide (And.intro hBd hf2)
  have HU := hide (And.intro (hu.below b0) hux)
  have HL := hide h.lt
  have HS : Hid ((w.alloc (.cells #[.slice ua buf.length uc] 28)).heap.size = w.heap.size + 1) := by show _ = _; simp
  have B0 := hide b0
  have hn9 : buf.length ≤ 1000000 := by omega
  clear h hi hx hc hz hb hxl hfr hu hux b0 hBd hf2
  generalize hW0 : w.alloc (.cells #[.slice ua buf.length uc] 28) = W0 at WI hc0 HU HS B0
  have HW0 := hide hW0
  go_enter Try.func14, Try.ntmps14
  go_wp2_with fail
  refine WI.out.mono ?_
  rintro e w1 ⟨rfl, o1⟩
  obtain ⟨fp1, p1, k1, n1⟩ := o1
  have nf : w.heap.size ∉ fp := fun e => by have := HL.out _ e; omega
  have hc1 := k1.cell hc0 nf
  have nf1 : ∀ y, y < W0.heap.size → y ∉ fp → y ∉ fp1 := fun y h1 h2 e => by
    rcases n1 y e with u | u
    · exact h2 u
    · omega
  have hs0 := HS.out
  have hk1 := k1.size
  have hu1 := HU.out.1.kept k1 (fun hne => HU.out.2 hne)
  have hux1 : ∀ x ∈ own (.slice ua buf.length uc), buf ≠ [] → x ∉ fp1 := fun x hx hne => nf1 x (HU.out.1.lt hne x hx) (HU.out.2 hne x hx)
  have EA : Hid (Calls Try.prog 29 #[.pointer (some ⟨q, 0, none⟩), .string nm, .int .i64 at_, .int .i64 (buf.length : Int), .int .i64 (c.length : Int), .func (.func 31) #[] #[.pointer (some ⟨w.heap.size, 0, none⟩)]] w1 fun e w' => e = .returned (.int .i64 0) ∧ ∃ done, buf.length ≤ done ∧ WrS C w1 fp1 q d o fr N (s.ops + 1) (.slice ua buf.length uc) w.heap.size nm.data.toList c buf at_ l done w') :=
    each_any (w := w1) q at_ buf.length c.length nm (by have := HC.out.2.2; omega) hn9 (by have := HC.out.2.2; omega) HC.out.2.2.1 31 #[.pointer (some ⟨w.heap.size, 0, none⟩)] eWrite1
      (WrS C w1 fp1 q d o fr N (s.ops + 1) (.slice ua buf.length uc) w.heap.size nm.data.toList c buf at_ l)
      ⟨fp1, N, _, ord, gs, p1, HI.out, Nat.le_refl _, Int.le_refl _, by show s.ops + 1 ≤ s.ops + 1 + 2 * ((0 : Nat) : Int); omega, Kept.refl _ _, Newly.refl _ _, hc1, by omega⟩
      (fun done W hd hI => write_pageS HC.out.1 HF.out.1 HF.out.2 HC.out.2.1 (by have := HB.out.1; omega) (by have := HB.out.2; omega) HC.out.2.2.1 HC.out.2.2.2 hd (by omega) (nf1 _ (by omega) nf) hu1
        (fun x hx => hux1 x hx (fun e => by rw [e] at hd; simp at hd)) hI)
  have K1 := hide (And.intro k1 n1)
  clear p1 k1 n1 hu1 hux1 hc0 hW0
  go_wp2_with fail
  refine EA.out.mono ?_
  rintro e W4 ⟨rfl, done, hdn, fp4, N4, s4, ord4, gs4, p4, i4, n4, o4, o5, k4, m4, c4, d4⟩
  have Z4 := hide (And.intro p4 (And.intro i4 (And.intro n4 (And.intro o5 (And.intro k4 m4)))))
  clear p4 i4 n4 o4 o5 k4 m4 EA
  go_wp2_with fail
  go_ret
  obtain ⟨p4, i4, n4, o5, k4, m4⟩ := Z4.out
  obtain ⟨k1, n1⟩ := K1.out
  rw [Nat.min_eq_right hdn, List.take_length] at i4
  have q1 : Kept fp w w1 := (Kept.of_below (fp := fp) B0.out).trans k1 (Newly.refl _ _)
  have q2 : Newly w fp fp1 := fun y hy => (n1 y hy).imp id (fun u => Nat.le_trans B0.out.size u)
  exact ⟨rfl, fp4, N4, s4, ord4, gs4, p4, i4, by omega, by omega, q1.trans k4 q2, q2.trans m4 q1.size⟩

end

/-- What the file a has, beside an empty one. -/
def CA (c : List Int) : List UInt8 → Option (List Int) := Ct c (allOf fB 0)
theorem CA_a (c : List Int) : CA c (⟨#[97]⟩ : ByteArray).data.toList = some c := rfl
theorem CA_put (c c' : List Int) : putC (CA c) (⟨#[97]⟩ : ByteArray).data.toList c' = CA c' := Ct_put false c (allOf fB 0) c'

/-- A pool of the call's own; its disk's file a has c1. -/
def Ld (w0 w : World) (hs : List Nat) (q d : Nat) (fr : Int) (c c1 : List Int) (m : Nat) : Prop :=
  ∃ fp o N l s ord gs, Pl w fp q d o fr N l s ord gs ∧ PInv (CA c) fr l s ord gs ∧ N ≤ m ∧ s.ops ≤ (m : Int) ∧ (∃ x, DLook l [97] = some x ∧ x.2.1 = c1) ∧ Below w0.heap.size w0 w ∧ (∀ x ∈ fp, w0.heap.size ≤ x) ∧ ∀ x ∈ hs, x < w.heap.size ∧ x ∉ fp
/-- A pool of the call's own no page of which is dirty. -/
def Le (w0 w : World) (hs : List Nat) (q d : Nat) (fr : Int) (c : List Int) (m : Nat) : Prop :=
  ∃ fp o N l s ord gs, Pl w fp q d o fr N l s ord gs ∧ PInv (CA c) fr l s ord gs ∧ N ≤ m ∧ s.ops ≤ (m : Int) ∧ (∀ g ∈ gs, g.dirty = false) ∧ Below w0.heap.size w0 w ∧ (∀ x ∈ fp, w0.heap.size ≤ x) ∧ ∀ x ∈ hs, x < w.heap.size ∧ x ∉ fp

section
variable {w0 w w' : World} {hs : List Nat} {q d : Nat} {fr : Int} {D : List UInt8 → Prop} {E : Prop} {m : Nat} {c c1 : List Int}

theorem Lp.ld (h : Lp w0 w hs q d fr (CA c) D E m) (hD : ¬ D [97]) : Ld w0 w hs q d fr c c m := by
  obtain ⟨fp, o, N, l, s, ord, gs, p, i, a1, a2, a3, a4, a5, a6, a7⟩ := h
  obtain ⟨x, hx, e⟩ := i.onDisk (CA_a c) (fun g hg e => by
    cases hg2 : g.dirty with
    | false => rfl
    | true => exact absurd (by have := a3 g hg hg2; rw [e] at this; exact this) hD)
  exact ⟨fp, o, N, l, s, ord, gs, p, i, a1, a2, ⟨x, hx, e⟩, a5, a6, a7⟩

theorem Ld.write (h : Ld w0 w hs q d fr c c1 m) (hcl : c.length = 300) (hf2 : (5 : Int) ≤ fr) (hfr : fr ≤ 100000) (at_ n : Nat) (ua : Option Addr) (uc : Nat) (buf : List Int) (hn : buf.length = n) (hu : IsB w (.slice ua n uc) buf) (hux : buf ≠ [] → ∀ x ∈ own (.slice ua n uc), x < w0.heap.size) (hf : at_ + n ≤ 300) (hm : m + 2 * n ≤ 900000) :
    Calls Try.prog 14 #[.pointer (some ⟨q, 0, none⟩), .string ⟨#[97]⟩, .int .i64 at_, .slice ua n uc] w fun e w' => e = .returned (.int .i64 0) ∧
      Ld w0 w' hs q d fr (putA c at_ buf) c1 (m + 2 * n + 127) ∧ Beside hs w w' := by
  subst hn
  obtain ⟨fp, o, N, l, s, ord, gs, p, i, a1, a2, a3, a5, a6, a7⟩ := h
  refine (writeAt_stay (F := 5) ⟨#[97]⟩ (fun c' hc' => by rw [CA_put]; exact Bd_five c' (hc'.trans hcl)) hf2 p i (strP 97) (CA_a c) hfr at_ ua uc buf hu (fun hne x hx e => ?_) (by omega) (by omega) (by omega)).mono ?_
  · have := hux hne x hx
    have := a6 x e
    omega
  rintro e w' ⟨rfl, fp', N', s', ord', gs', p', i', n', o', k, nw⟩
  rw [CA_put] at i'
  obtain ⟨s1, s2, s3, s4⟩ := side a5 a6 a7 k nw
  exact ⟨rfl, ⟨fp', o, N', l, s', ord', gs', p', i', by omega, by omega, a3, s1, s2, s3⟩, s4⟩

theorem CA_page {l : List Ab} {s : Ds} {ord : List (Place × Nat)} {gs : List Pg} (i : PInv (CA c) fr l s ord gs) {g : Pg} (hg : g ∈ gs) : g.key.1.1 = ⟨#[97]⟩ := by
  obtain ⟨c2, j, e1, e2, e3, _⟩ := i.page g hg
  unfold CA Ct at e1
  split at e1
  · rename_i e
    exact ByteArray.ext (Array.ext' e)
  · split at e1
    · cases e1
      simp [allOf] at e3
    · cases e1

theorem Ld.drop (h : Ld w0 w hs q d fr c c1 m) (hfr : fr ≤ 100000) :
    Calls Try.prog 19 #[.pointer (some ⟨q, 0, none⟩), .string ⟨#[97]⟩] w fun e w' => e = .returned (.tuple #[]) ∧ Le w0 w' hs q d fr c1 m ∧ Beside hs w w' := by
  obtain ⟨fp, o, N, l, s, ord, gs, p, i, a1, a2, ⟨x, hx, rfl⟩, a5, a6, a7⟩ := h
  obtain ⟨f1, f2, f3⟩ := p.facts
  have ct := i.count f2 f3
  have hl := i.len
  refine (drop_pool p i (by omega) ⟨#[97]⟩).mono ?_
  rintro e w' ⟨rfl, zs, hz, fp', p', k, nw⟩
  obtain ⟨s1, s2, s3, s4⟩ := side a5 a6 a7 k nw
  have i' := i.dropped (fun g hg e => (hz _).2 ⟨g, hg, e, rfl⟩) hx
  have e2 : putC (CA c) (⟨#[97]⟩ : ByteArray).data.toList x.2.1 = CA x.2.1 := CA_put _ _
  rw [e2] at i'
  refine ⟨rfl, ⟨fp', o, N, l, s, _, _, p', i', a1, a2, fun g hg => ?_, s1, s2, s3⟩, s4⟩
  obtain ⟨hg1, hg2⟩ := lessP_mem.1 hg
  have e3 := CA_page i hg1
  exact absurd ⟨e3, (hz _).2 ⟨g, hg1, e3, rfl⟩⟩ hg2

theorem Le.read (h : Le w0 w hs q d fr c m) (hcl : c.length = 300) (hf2 : (5 : Int) ≤ fr) (hfr : fr ≤ 100000) (hm : m ≤ 900000) :
    Calls Try.prog 13 #[.pointer (some ⟨q, 0, none⟩), .string ⟨#[97]⟩, .int .i64 0, .int .i64 300] w fun e w' => ∃ a u, e = .returned (.tuple #[.slice a 300 u, .int .i64 0]) ∧ IsB w' (.slice a 300 u) c ∧ Le w0 w' hs q d fr c (m + 1000) ∧ Beside hs w w' := by
  obtain ⟨fp, o, N, l, s, ord, gs, p, i, a1, a2, a3, a5, a6, a7⟩ := h
  refine (readAt_stay (F := 5) (Bd_five c hcl) hf2 p i ⟨#[97]⟩ (strP 97) (CA_a c) hfr 0 300 (by omega) (by omega) (by omega)).mono ?_
  rintro e w' ⟨v, rfl, r, fp', N', s', ord', gs', p', i', n', o', k, nw, cl, ov⟩
  obtain ⟨s1, s2, s3, s4⟩ := side a5 a6 a7 k nw
  rw [List.drop_zero, List.take_of_length_le (by omega)] at r
  obtain ⟨a, u, rfl, _⟩ := r.isB.form
  have ri := r.isB
  rw [hcl] at ri ⊢
  refine ⟨a, u, rfl, ri, ⟨fp', o, N', l, s', ord', gs', p', i', by omega, by omega, fun g hg => ?_, s1, s2, s3⟩, s4⟩
  cases hd : g.dirty with
  | false => rfl
  | true =>
    obtain ⟨g0, h0, _, hd0⟩ := cl g hg hd
    rw [a3 g0 h0] at hd0
    cases hd0

theorem Le.dirty (h : Le w0 w hs q d fr c m) (hfr : fr ≤ 100000) : Calls Try.prog 18 #[.pointer (some ⟨q, 0, none⟩)] w fun e w' => e = .returned (.int .i64 0) ∧ Below w0.heap.size w0 w' := by
  obtain ⟨fp, o, N, l, s, ord, gs, p, i, a1, a2, a3, a5, a6, a7⟩ := h
  obtain ⟨f1, f2, f3⟩ := p.facts
  have ct := i.count f2 f3
  have hl := i.len
  refine (dirty_any p (by omega)).mono ?_
  rintro e w' ⟨rfl, hb⟩
  have e0 : (gs.filter Pg.dirty).length = 0 := by
    rw [List.length_eq_zero_iff, List.filter_eq_nil_iff]
    intro g hg hd
    rw [a3 g hg] at hd
    cases hd
  rw [e0]
  exact ⟨rfl, a5.trans (hb.mono a5.size)⟩

end
end Go.Proofs.Ytbhjdcoehgajcaa.L.P
