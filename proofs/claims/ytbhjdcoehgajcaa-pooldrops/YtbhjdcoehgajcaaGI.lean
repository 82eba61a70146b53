/-
  Lemma texts, one behind the other: PCnt, PFrames. No statement of the seat is proved here.
-/
import Derived.Test.YtbhjdcoehgajcaaGH
namespace Go.Proofs.Ytbhjdcoehgajcaa.L.P
open Go.RowKit Go.Maps

/-- A place of a page that there may be. -/
def PgKey (C : List UInt8 → Option (List Int)) (k : Place) : Prop := ∃ c j, C k.1.1.data.toList = some c ∧ k.1.2 = ((64 * j : Nat) : Int) ∧ 64 * j < c.length
/-- There are at most F of them. -/
def Bd (C : List UInt8 → Option (List Int)) (F : Nat) : Prop := ∀ ks : List Place, ks.Nodup → (∀ k ∈ ks, PgKey C k) → ks.length ≤ F

section
variable {C : List UInt8 → Option (List Int)} {w w' : World} {fp : List Nat} {q d o : Nat} {fr : Int} {N : Nat} {l : List Ab} {s : Ds} {ord : List (Place × Nat)} {gs : List Pg}

theorem Bd.pages {F : Nat} (hF : Bd C F) (h : Pl w fp q d o fr N l s ord gs) (i : PInv C fr l s ord gs) : gs.length ≤ F := by
  have := hF (gs.map Pg.key) h.facts.2.2 (fun k hk => by
    obtain ⟨g, hg, rfl⟩ := List.mem_map.1 hk
    obtain ⟨c, j, e1, e2, e3, _⟩ := i.page g hg
    exact ⟨c, j, e1, e2, e3⟩)
  simpa using this

theorem held_or {F : Nat} {k : Place} (h : Pl w fp q d o fr N l s ord gs) (i : PInv C fr l s ord gs) (hF : Bd C F) (hf : (F : Int) ≤ fr) (hk : PgKey C k) : (gs.length : Int) < fr ∨ ∃ g ∈ gs, g.key = k := by
  by_cases hin : ∃ g ∈ gs, g.key = k
  · exact .inr hin
  · left
    have := hF (k :: gs.map Pg.key) (List.nodup_cons.2 ⟨fun hm => by
      obtain ⟨g, hg, e⟩ := List.mem_map.1 hm
      exact hin ⟨g, hg, e⟩, h.facts.2.2⟩) (fun k2 hk2 => by
      rcases List.mem_cons.1 hk2 with rfl | hk2
      · exact hk
      · obtain ⟨g, hg, rfl⟩ := List.mem_map.1 hk2
        obtain ⟨c, j, e1, e2, e3, _⟩ := i.page g hg
        exact ⟨c, j, e1, e2, e3⟩)
    simp at this
    omega
end

theorem len_sub {α : Type} [DecidableEq α] (l m : List α) (hl : l.Nodup) (h : ∀ x ∈ l, x ∈ m) : l.length ≤ m.length := by
  induction l generalizing m with
  | nil => simp
  | cons x l ih =>
    obtain ⟨h1, h2⟩ := List.nodup_cons.1 hl
    have := ih (m.erase x) h2 (fun y hy => (List.mem_erase_of_ne (a := y) (b := x) (fun e => h1 (by rw [← e]; exact hy))).2 (h y (by simp [hy])))
    have hx := List.length_erase_of_mem (h x (by simp))
    have hp := List.length_pos_of_mem (h x (by simp))
    simp
    omega

/-- Five pages, of a file of three hundred bytes beside an empty one. -/
theorem Bd_five (c : List Int) (hc : c.length = 300) : Bd (Ct c (allOf fB 0)) 5 := by
  intro ks hn hk
  have key : ∀ k ∈ ks, k.1.1 = ⟨#[97]⟩ ∧ k.1.2 ∈ ([0, 64, 128, 192, 256] : List Int) := fun k hk2 => by
    obtain ⟨c2, j, e1, e2, e3⟩ := hk k hk2
    unfold Ct at e1
    split at e1
    · rename_i e
      cases e1
      refine ⟨ByteArray.ext (Array.ext' e), ?_⟩
      rw [e2]
      have : j = 0 ∨ j = 1 ∨ j = 2 ∨ j = 3 ∨ j = 4 := by omega
      rcases this with rfl | rfl | rfl | rfl | rfl <;> simp
    · split at e1
      · cases e1
        simp [allOf] at e3
      · cases e1
  have := len_sub (ks.map fun k => k.1.2) [0, 64, 128, 192, 256] (by
    rw [List.Nodup, List.pairwise_map]
    refine List.Pairwise.imp_of_mem ?_ hn
    intro a b ha hb hab e
    apply hab
    apply Subtype.ext
    apply Prod.ext
    · rw [(key a ha).1, (key b hb).1]
    · exact e) (fun z hz => by
    obtain ⟨k, hk2, rfl⟩ := List.mem_map.1 hz
    exact (key k hk2).2)
  simpa using this

/-- While bytes are read: how many are done. -/
def RdC (C : List UInt8 → Option (List Int)) (w2 : World) (fp : List Nat) (q d o : Nat) (fr : Int) (N : Nat) (P : Int) (V : Value) (bx : Nat) (c : List Int) (at_ n G0 : Nat) (done : Nat) (W : World) : Prop :=
  ∃ fp1 N1 l1 s1 ord1 gs1, Pl W fp1 q d o fr N1 l1 s1 ord1 gs1 ∧ PInv C fr l1 s1 ord1 gs1 ∧ N1 ≤ N + done ∧ P ≤ s1.ops ∧ s1.ops ≤ P + 2 * done ∧ Kept (fp ++ own V) w2 W ∧ Newly w2 fp fp1 ∧ W.cell? ⟨bx, 0, none⟩ = some V ∧ done ≤ n + 63 ∧ (0 < done → gs1 ≠ []) ∧ (∀ F : Nat, Bd C F → (F : Int) ≤ fr → s1.ops + (G0 : Int) = P + (gs1.length : Int)) ∧
    RowB W V ((c.drop at_).take (min done n) ++ zs0 (n - done))

section
variable {C : List UInt8 → Option (List Int)} {w w' : World} {fp : List Nat} {q d o : Nat} {fr : Int} {N : Nat} {l : List Ab} {s : Ds} {ord : List (Place × Nat)} {gs : List Pg}

/-- One page of what is read. -/
theorem read_pageC {w2 W : World} {P : Int} {V : Value} {bx at_ n D G0 : Nat} {nm : ByteArray} {c : List Int} (hnm : nm.size ≤ maxLen) (hc : C nm.data.toList = some c) (hfr : fr ≤ 100000) (hN : N + n ≤ 999999) (hP : P + 2 * n ≤ 999000) (hf : at_ + n ≤ c.length) (hcl : c.length ≤ 100000) (hD : D < n)
    (hV : ∃ g, V = .slice (some ⟨g, 0, none⟩) n n) (hb2 : bx < w2.heap.size) (hv2 : ∀ y ∈ own V, y < w2.heap.size ∧ y ∉ fp ∧ y ≠ bx) (hbf : bx ∉ fp) (hI : RdC C w2 fp q d o fr N P V bx c at_ n G0 D W) :
    ∃ k : Place, k.1.1 = nm ∧ k.1.2 = ((at_ + D - (at_ + D) % 64 : Nat) : Int) ∧
      Calls Try.prog 46 #[.pointer (some ⟨q, 0, none⟩), encP k, .int .i64 (min 64 (c.length - (at_ + D - (at_ + D) % 64)) : Nat)] W fun e W1 => ∃ gb, e = .returned (.tuple #[.pointer (some ⟨gb, 0, none⟩), .int .i64 0]) ∧
        Calls Try.prog 30 (#[.pointer (some ⟨gb, 0, none⟩), .int .i64 ((at_ + D) % 64 : Nat), .int .i64 D] ++ #[.pointer (some ⟨bx, 0, none⟩)]) W1 fun e W2 => e = .returned (.tuple #[]) ∧ RdC C w2 fp q d o fr N P V bx c at_ n G0 (D + (64 - (at_ + D) % 64)) W2 := by
  obtain ⟨fp1, N1, l1, s1, ord1, gs1, p1, i1, n1, o1, o2, k1, w1, bc, _, _, cn, br⟩ := hI
  obtain ⟨j, hj⟩ : ∃ j, j = (at_ + D) / 64 := ⟨_, rfl⟩
  have ej : at_ + D - (at_ + D) % 64 = 64 * j := by omega
  rw [ej]
  refine ⟨⟨(nm, ((64 * j : Nat) : Int)), hnm, by simp only; omega, by simp only; omega⟩, rfl, rfl, ?_⟩
  have nin : ∀ y, y < w2.heap.size → y ∉ fp → y ∉ fp1 := fun y h1 h2 e => by
    rcases w1 y e with u | u
    · exact h2 u
    · omega
  refine (hold_any p1 i1 (by omega) (by omega) hfr (k := ⟨(nm, ((64 * j : Nat) : Int)), hnm, by simp only; omega, by simp only; omega⟩) (c := c) (j := j) hc rfl (by omega)).mono ?_
  rintro e W1 ⟨gb, rfl, N2, l2, s2, ord2, a, g, b, ⟨fp2, p2, k2, m2⟩, rfl, hgk, i2, n2, o3, o4, hcn⟩
  refine ⟨g.blk, rfl, ?_⟩
  obtain ⟨c2, j2, e1, e2, e3, e4⟩ := i2.page g (by simp)
  rw [hgk] at e1 e2
  have ec : some c2 = some c := e1.symm.trans hc
  cases ec
  have e2' : ((64 * j : Nat) : Int) = ((64 * j2 : Nat) : Int) := e2
  have ejj : j2 = j := by omega
  subst ejj
  obtain ⟨g0, _, _, gr, gin, gown⟩ := p2.page (g := g) (by simp)
  obtain ⟨va, vc, hv, _⟩ := gr.isB.form
  obtain ⟨vg, rfl⟩ := hV
  have nin2 : ∀ y, y < w2.heap.size → y ∉ fp → y ∉ fp2 := fun y h1 h2 e => by
    rcases m2 y e with u | u
    · exact nin y h1 h2 u
    · have := k1.size; omega
  have hvv := hv2 vg (by simp [own, Value.ownBlock])
  have bc2 := k2.cell bc (nin bx hb2 hbf)
  have br2 := br.kept k2 (fun y hy => nin y (hv2 y hy).1 (hv2 y hy).2.1)
  have hmin : min D n = D := by omega
  rw [hmin] at br2
  rw [hv] at g0
  have hsl : (seg c j2).length = min 64 (c.length - 64 * j2) := seg_len _ _
  refine (read1_any g.blk ((at_ + D) % 64) D bx n n g.bs.length vc (some ⟨vg, 0, none⟩) va _ g.bs bc2 g0 br2 (by rw [List.length_append, zs0_length]; simp; omega) (hv ▸ gr.isB) (by omega) (by rw [e4, hsl]; omega) (fun e => by
      have := (hv2 bx e).2.2
      exact this rfl) (fun e => by
      simp [own, Value.ownBlock] at e
      exact nin2 vg hvv.1 hvv.2.1 (e ▸ gin))).mono ?_
  rintro e W2 ⟨rfl, r3, k3⟩
  refine ⟨rfl, fp2, N2, l2, s2, ord2, a ++ g :: b, p2.kept k3 (fun y hy e => ?_), i2, by omega, by omega, by omega, ?_, fun y hy => ?_, k3.cell bc2 (fun e => (hv2 bx e).2.2 rfl), by omega, fun _ => by simp, fun F hF hf2 => ?_, ?_⟩
  · have := hv2 y e
    exact nin2 y this.1 this.2.1 hy
  · exact (k1.trans k2 (fun y hy => (w1 y hy).imp (fun u => by simp [u]) id)).trans k3 (fun y hy => .inl (by simp [hy]))
  · rcases m2 y hy with u | u
    · exact w1 y u
    · exact .inr (Nat.le_trans k1.size u)
  · have h1 := cn F hF hf2
    have h2 := hcn (held_or p1 i1 hF hf2 ⟨c, j2, hc, rfl, by omega⟩)
    omega
  · rw [e4, hj, read_step hf hD] at r3
    exact r3

set_option maxRecDepth 100000 in
set_option maxHeartbeats 1000000 in
/-- ReadAt of bytes that there are. -/
theorem readAt_cnt (h : Pl w fp q d o fr N l s ord gs) (hi : PInv C fr l s ord gs) (nm : ByteArray) (hnm : nm.size ≤ maxLen) {c : List Int} (hc : C nm.data.toList = some c) (hfr : fr ≤ 100000) (at_ n : Nat) (hf : at_ + n ≤ c.length) (hN : N + n ≤ 999000) (hP : s.ops + 2 * n ≤ 998000) :
    Calls Try.prog 13 #[.pointer (some ⟨q, 0, none⟩), .string nm, .int .i64 at_, .int .i64 n] w fun e w' => ∃ v, e = .returned (.tuple #[v, .int .i64 0]) ∧ RowB w' v ((c.drop at_).take n) ∧
      ∃ fp' N' l' s' ord' gs', Pl w' fp' q d o fr N' l' s' ord' gs' ∧ PInv C fr l' s' ord' gs' ∧ N' ≤ N + n + 63 ∧ s'.ops ≤ s.ops + 1 + 2 * (n + 63) ∧ Kept fp w w' ∧ Newly w fp fp' ∧ (∀ F : Nat, Bd C F → (F : Int) ≤ fr → s'.ops + (gs.length : Int) = s.ops + 1 + (gs'.length : Int)) ∧ ∀ y ∈ own v, w.heap.size ≤ y ∧ y ∉ fp' := by
  obtain ⟨⟨x, hx⟩, hcl⟩ := hi.has _ _ hc
  obtain ⟨c2, hc2, hxl, _⟩ := hi.file _ _ hx
  rw [hc] at hc2
  cases hc2
  have hb := begin_eq (l := l) hi.left
  have hz : sizeA (beginA l s) nm.data.toList = ((c.length : Int), 0) := by
    rw [hb]
    unfold sizeA
    rw [err_none (s := { s with ops := s.ops + 1 }) hi.up hx]
    have hx2 : Go.Proofs.Ytbhjdcoehgajcaa.lookA l nm.data.toList = some x := hx
    dsimp only
    rw [hx2]
    dsimp only
    rw [hxl]
  have WI := hide (within_ok h (by omega) nm hnm (at_ : Int) (n : Int) hz (by omega) (by omega) (by omega) (by omega))
  rw [hb] at WI
  have hmf := Try.mf
  have HI := hide hi.begins
  have HC := hide (And.intro hc (And.intro hnm (And.intro hfr (And.intro hf hcl))))
  have HB := hide (And.intro hN hP)
  have hn9 : n ≤ 1000000 := by omega
  clear h hi hx hc hz hb hxl hfr
  go_enter Try.func13, Try.ntmps13
  go_wp2_with (first | (go_at_call 28; refine WI.out.mono ?_; rintro e w1 ⟨rfl, o1⟩; have O1 := hide o1; clear o1) | (at_make; refine wp_makeB _ rfl _ _ rfl n (n : Int) (n : Int) rfl rfl rfl rfl (by omega) ?_; intro w2 r2 b2; have R2 := hide r2; have B2 := hide b2; clear r2 b2))
  obtain ⟨fp1, p1, k1, n1⟩ := O1.out
  have hv1 : ∀ y ∈ own (.slice (some ⟨w1.heap.size, 0, none⟩) n n), y = w1.heap.size := fun y hy => by simp [own, Value.ownBlock] at hy; omega
  have hw12 : w1.heap.size < w2.heap.size := R2.out.lt w1.heap.size (by simp [own, Value.ownBlock])
  have b3 : Below w2.heap.size w2 (w2.alloc (.cells #[.slice (some ⟨w1.heap.size, 0, none⟩) n n] 28)) := (Below.refl _ w2).alloc (Nat.le_refl _) _
  have hc3 : (w2.alloc (.cells #[.slice (some ⟨w1.heap.size, 0, none⟩) n n] 28)).cell? ⟨w2.heap.size, 0, none⟩ = some (.slice (some ⟨w1.heap.size, 0, none⟩) n n) := cell_of_heap (heap_alloc_new w2 (.cells #[.slice (some ⟨w1.heap.size, 0, none⟩) n n] 28)) 0
  have hs3 : (w2.alloc (.cells #[.slice (some ⟨w1.heap.size, 0, none⟩) n n] 28)).heap.size = w2.heap.size + 1 := by simp
  have p3 := (p1.below B2.out).below b3
  have r3 := R2.out.kept (Kept.of_below (fp := []) b3) (by simp)
  have B3 := hide (below_then B2.out b3)
  generalize w2.alloc (.cells #[.slice (some ⟨w1.heap.size, 0, none⟩) n n] 28) = W3 at b3 hc3 hs3 p3 r3 B3 ⊢
  have EA := hide (each_any (w := W3) q at_ n c.length nm (by have := HC.out.2.2.2; omega) hn9 (by have := HC.out.2.2.2; omega) HC.out.2.2.2.1 30 #[.pointer (some ⟨w2.heap.size, 0, none⟩)] eRead1
    (RdC C W3 fp1 q d o fr N (s.ops + 1) (.slice (some ⟨w1.heap.size, 0, none⟩) n n) w2.heap.size c at_ n gs.length)
    ⟨fp1, N, l, _, ord, gs, p3, HI.out, Nat.le_refl _, Int.le_refl _, by show s.ops + 1 ≤ s.ops + 1 + 2 * ((0 : Nat) : Int); omega, Kept.refl _ _, Newly.refl _ _, hc3, by omega, fun h => absurd h (Nat.lt_irrefl _), fun _ _ _ => rfl, by simpa using r3⟩
    (fun done W hd hI => read_pageC HC.out.2.1 HC.out.1 HC.out.2.2.1 (by have := HB.out.1; omega) (by have := HB.out.2; omega) HC.out.2.2.2.1 HC.out.2.2.2.2 hd ⟨_, rfl⟩ (by omega)
      (fun y hy => ⟨by rw [hv1 y hy]; omega, fun e => by have := p1.lt y e; rw [hv1 y hy] at this; omega, by rw [hv1 y hy]; omega⟩) (fun e => by have := p1.lt _ e; omega) hI))
  have K1 := hide (And.intro k1 (And.intro n1 p1.lt))
  clear p1 k1 n1 hc3 p3 r3 b3
  refine EA.out.mono ?_
  rintro e W4 ⟨rfl, done, hdn, fp4, N4, l4, s4, ord4, gs4, p4, i4, n4, o4, o5, k4, m4, c4, d4, _, g4, r4⟩
  have Z4 := hide (And.intro p4 (And.intro i4 (And.intro n4 (And.intro o5 (And.intro k4 (And.intro m4 (And.intro g4 r4)))))))
  clear p4 i4 n4 o4 o5 k4 m4 r4 g4 EA
  go_wp2_with fail
  go_ret2
  obtain ⟨p4, i4, n4, o5, k4, m4, g4, r4⟩ := Z4.out
  obtain ⟨k1, n1, lt1⟩ := K1.out
  rw [Nat.min_eq_right hdn, Nat.sub_eq_zero_of_le hdn] at r4
  have hw1 := k1.size
  have q1 : Kept fp w W3 := k1.trans (Kept.of_below (fp := fp) B3.out) (Newly.refl _ _)
  have hs1 := B3.out.size
  refine ⟨_, rfl, by simpa [zs0] using r4, fp4, N4, l4, s4, ord4, gs4, p4, i4, by omega, by omega, q1.trans k4 (fun y hy => ?_), n1.trans m4 q1.size, g4, fun y hy => ⟨by rw [hv1 y hy]; exact hw1, fun e => ?_⟩⟩
  · rcases List.mem_append.1 hy with u | u
    · exact n1 y u
    · exact .inr (by rw [hv1 y u]; exact hw1)
  · rcases m4 y e with u | u
    · have := lt1 y u
      rw [hv1 y hy] at this
      omega
    · rw [hv1 y hy] at u
      omega

end
end Go.Proofs.Ytbhjdcoehgajcaa.L.P

namespace Go.Proofs.Ytbhjdcoehgajcaa.L.P
open Go.RowKit Go.Maps

/-- A pool of the call's own that has been asked i times: so many operations, and one for each page that it holds. -/
def Lf (w0 w : World) (hs : List Nat) (q d : Nat) (fr : Int) (C : List UInt8 → Option (List Int)) (b0 : Int) (i : Nat) (G : Nat → Prop) : Prop :=
  ∃ fp o N l s ord gs, Pl w fp q d o fr N l s ord gs ∧ PInv C fr l s ord gs ∧ N ≤ 64 * i ∧ s.ops = b0 + i + gs.length ∧ G gs.length ∧ Below w0.heap.size w0 w ∧ (∀ x ∈ fp, w0.heap.size ≤ x) ∧ ∀ x ∈ hs, x < w.heap.size ∧ x ∉ fp

section
variable {w0 w w' : World} {hs : List Nat} {q d : Nat} {fr : Int} {C : List UInt8 → Option (List Int)} {b0 : Int} {i : Nat} {G : Nat → Prop}

theorem Lf.bel (h : Lf w0 w hs q d fr C b0 i G) : Below w0.heap.size w0 w := by
  obtain ⟨fp, o, N, l, s, ord, gs, p, iv, a1, a2, a3, a5, a6, a7⟩ := h
  exact a5

theorem Lf.new {l : List Ab} {s : Ds} (h : Sd w0.heap.size w0 w d l s) (n : Int) (hup : s.down = false) (hleft : s.left = 0) (hlen : ∀ nm x, DLook l nm = some x → x.2.1.length ≤ 100000) (hm : s.ops = b0) (hC : (fun nm => (DLook l nm).map fun x => x.2.1) = C) :
    Calls Try.prog 11 #[.pointer (some ⟨d, 0, none⟩), .int .i64 n] w fun e w' => ∃ q, e = .returned (.pointer (some ⟨q, 0, none⟩)) ∧ Lf w0 w' [] q d (max n 1) C b0 0 (fun g => g = 0) := by
  obtain ⟨fd, hd, b, f, hB⟩ := h
  refine (new_pool hd n).mono ?_
  rintro e w' ⟨q, o, fp, rfl, p, hb, hn⟩
  refine ⟨q, rfl, fp, o, 0, l, s, [], [], p, hC ▸ PInv.new hup hleft hlen, Nat.zero_le _, by simp [hm], rfl, b.trans (hb.mono hB), fun x hx => ?_, by simp⟩
  rcases hn x hx with u | u
  · exact f x u
  · exact Nat.le_trans hB u

theorem Lf.any (h : Lf w0 w hs q d fr C b0 i G) {h2 : List Nat} (hh : ∀ x ∈ h2, x ∈ hs) : Lf w0 w h2 q d fr C b0 i (fun _ => True) := by
  obtain ⟨fp, o, N, l, s, ord, gs, p, iv, a1, a2, a3, a5, a6, a7⟩ := h
  exact ⟨fp, o, N, l, s, ord, gs, p, iv, a1, a2, trivial, a5, a6, fun x hx => a7 x (hh x hx)⟩

theorem Lf.drewN (h : Lf w0 w hs q d fr C b0 i G) (n : Nat) : Lf w0 (w.drewN n) hs q d fr C b0 i G := by
  have hb : Below w.heap.size w (w.drewN n) := below_drewN (Below.refl _ w) n
  obtain ⟨fp, o, N, l, s, ord, gs, p, iv, a1, a2, a3, a5, a6, a7⟩ := h
  exact ⟨fp, o, N, l, s, ord, gs, p.below hb, iv, a1, a2, a3, a5.trans (hb.mono a5.size), a6, fun x hx => ⟨Nat.lt_of_lt_of_le (a7 x hx).1 hb.size, (a7 x hx).2⟩⟩

theorem Lf.hold (h : Lf w0 w hs q d fr C b0 i G) (hb : Below w.heap.size w w') (h2 : List Nat) (hn : ∀ x ∈ h2, w.heap.size ≤ x ∧ x < w'.heap.size) : Lf w0 w' (hs ++ h2) q d fr C b0 i G := by
  obtain ⟨fp, o, N, l, s, ord, gs, p, iv, a1, a2, a3, a5, a6, a7⟩ := h
  refine ⟨fp, o, N, l, s, ord, gs, p.below hb, iv, a1, a2, a3, a5.trans (hb.mono a5.size), a6, fun x hx => ?_⟩
  rcases List.mem_append.1 hx with u | u
  · exact ⟨Nat.lt_of_lt_of_le (a7 x u).1 hb.size, (a7 x u).2⟩
  · exact ⟨(hn x u).2, fun e => by have := p.lt x e; have := (hn x u).1; omega⟩

theorem Lf.read (h : Lf w0 w hs q d fr C b0 i G) {F : Nat} (hF : Bd C F) (hf : (F : Int) ≤ fr) (hfr : fr ≤ 100000) (hi : i ≤ 1000) (hF2 : F ≤ 100) (hb0 : b0 ≤ 1000) (nm : ByteArray) (hnm : nm.size ≤ maxLen) {c : List Int} (hc : C nm.data.toList = some c) (at_ : Nat) (hat : at_ < c.length) :
    Calls Try.prog 13 #[.pointer (some ⟨q, 0, none⟩), .string nm, .int .i64 at_, .int .i64 1] w fun e w' => ∃ g u, e = .returned (.tuple #[.slice (some ⟨g, 0, none⟩) 1 u, .int .i64 0]) ∧ w'.cell? ⟨g, 0, none⟩ = some (.int .u8 c[at_]) ∧
      Lf w0 w' hs q d fr C b0 (i + 1) (fun _ => True) ∧ Beside hs w w' := by
  obtain ⟨fp, o, N, l, s, ord, gs, p, iv, a1, a2, a3, a5, a6, a7⟩ := h
  have hg := hF.pages p iv
  refine (readAt_cnt p iv nm hnm hc hfr at_ 1 (by omega) (by omega) (by omega)).mono ?_
  rintro e w' ⟨v, rfl, r, fp', N', l', s', ord', gs', p', i', n', o', k, nw, cn, ov⟩
  obtain ⟨s1, s2, s3, s4⟩ := side a5 a6 a7 k nw
  have e1 : (c.drop at_).take 1 = [c[at_]] := by rw [List.drop_eq_getElem_cons hat]; rfl
  rw [e1] at r
  have hcn := cn F hF hf
  rcases r.form with ⟨_, e2⟩ | ⟨g, u, rfl, _⟩
  · simp at e2
  · have hcell : w'.cell? ⟨g, 0, none⟩ = some (.int .u8 c[at_]) := by
      obtain ⟨a2, c2, e3, _, _, h3, _⟩ := r.isB
      simp only [Value.slice.injEq] at e3
      have := h3 ⟨g, 0, none⟩ e3.1.symm 0 (by simp)
      simpa [Addr.add] using this
    exact ⟨g, u, rfl, hcell, ⟨fp', o, N', l', s', ord', gs', p', i', by omega, by omega, trivial, s1, s2, s3⟩, s4⟩

theorem Lf.ops (h : Lf w0 w hs q d fr C b0 i G) : Calls Try.prog 20 #[.pointer (some ⟨d, 0, none⟩)] w fun e w' => ∃ g : Nat, G g ∧ (∀ F, Bd C F → g ≤ F) ∧ e = .returned (.int .i64 (b0 + i + g)) ∧ w' = w := by
  obtain ⟨fp, o, N, l, s, ord, gs, p, iv, a1, a2, a3, a5, a6, a7⟩ := h
  have hp := fun F (hF : Bd C F) => hF.pages p iv
  obtain ⟨fd, fo, bm, h1, h2, h3, rfl, b1, b2, b3⟩ := p
  refine h1.ops.mono ?_
  rintro e w' ⟨rfl, rfl⟩
  exact ⟨gs.length, a3, hp, by rw [a2], rfl⟩

theorem Lf.resident (h : Lf w0 w hs q d fr C b0 i G) {F : Nat} (hF : Bd C F) : Calls Try.prog 17 #[.pointer (some ⟨q, 0, none⟩)] w fun e w' => ∃ n : Nat, e = .returned (.int .i64 n) ∧ w' = w ∧ n ≤ F := by
  obtain ⟨fp, o, N, l, s, ord, gs, p, iv, a1, a2, a3, a5, a6, a7⟩ := h
  refine (resident_any p).mono ?_
  rintro e w' ⟨rfl, rfl⟩
  exact ⟨gs.length, rfl, rfl, hF.pages p iv⟩

end
end Go.Proofs.Ytbhjdcoehgajcaa.L.P
