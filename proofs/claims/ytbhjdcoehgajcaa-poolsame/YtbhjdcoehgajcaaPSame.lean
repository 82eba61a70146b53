/-
  Two pools over two disks, beside each other. A lemma file: no statement of the seat is proved here.
-/
import Derived.Test.YtbhjdcoehgajcaaGH
namespace Go.Proofs.Ytbhjdcoehgajcaa.L.P
open Go.RowKit Go.Maps

/-- A pool as Lp tells of it, its blocks named. -/
def Lq (w0 w : World) (fp hs : List Nat) (q d : Nat) (fr : Int) (C : List UInt8 → Option (List Int)) (D : List UInt8 → Prop) (m : Nat) : Prop :=
  ∃ o N l s ord gs, Pl w fp q d o fr N l s ord gs ∧ PInv C fr l s ord gs ∧ N ≤ m ∧ s.ops ≤ (m : Int) ∧ (∀ g ∈ gs, g.dirty = true → D g.key.1.1.data.toList) ∧ Below w0.heap.size w0 w ∧ (∀ x ∈ fp, w0.heap.size ≤ x) ∧ ∀ x ∈ hs, x < w.heap.size ∧ x ∉ fp

/-- Two pools: the first one (p, over c) beside the second one (q, over d). -/
def P2 (w0 w : World) (hs : List Nat) (p c : Nat) (fr : Int) (C : List UInt8 → Option (List Int)) (D : List UInt8 → Prop) (m : Nat) (q d : Nat) (gr : Int) (C' : List UInt8 → Option (List Int)) (D' : List UInt8 → Prop) (m' : Nat) : Prop :=
  ∃ gp, Lp w0 w (hs ++ gp) p c fr C D False m ∧ Lq w0 w gp hs q d gr C' D' m'

section
variable {w0 w w' : World} {hs : List Nat} {p c : Nat} {fr : Int} {C : List UInt8 → Option (List Int)} {D : List UInt8 → Prop} {m : Nat} {q d : Nat} {gr : Int} {C' : List UInt8 → Option (List Int)} {D' : List UInt8 → Prop} {m' : Nat}

theorem P2.bel (h : P2 w0 w hs p c fr C D m q d gr C' D' m') : Below w0.heap.size w0 w := by
  obtain ⟨gp, h1, h2⟩ := h
  exact h1.bel

theorem P2.swap (h : P2 w0 w hs p c fr C D m q d gr C' D' m') : P2 w0 w hs q d gr C' D' m' p c fr C D m := by
  obtain ⟨gp, ⟨fp, o, N, l, s, ord, gs, p1, i1, a1, a2, a3, a4, a5, a6, a7⟩, o', N', l', s', ord', gs', p2, i2, b1, b2, b3, b5, b6, b7⟩ := h
  refine ⟨fp, ⟨gp, o', N', l', s', ord', gs', p2, i2, b1, b2, b3, False.elim, b5, b6, fun x hx => ?_⟩, o, N, l, s, ord, gs, p1, i1, a1, a2, a3, a5, a6, fun x hx => a7 x (List.mem_append.2 (.inl hx))⟩
  rcases List.mem_append.1 hx with u | u
  · exact b7 x u
  · exact ⟨p1.lt x u, fun e => (a7 x (List.mem_append.2 (.inr e))).2 u⟩

theorem P2.below (h : P2 w0 w hs p c fr C D m q d gr C' D' m') (hb : Below w.heap.size w w') : P2 w0 w' hs p c fr C D m q d gr C' D' m' := by
  obtain ⟨gp, h1, o', N', l', s', ord', gs', p2, i2, b1, b2, b3, b5, b6, b7⟩ := h
  exact ⟨gp, h1.below hb, o', N', l', s', ord', gs', p2.below hb, i2, b1, b2, b3, b5.trans (hb.mono b5.size), b6, fun x hx => ⟨Nat.lt_of_lt_of_le (b7 x hx).1 hb.size, (b7 x hx).2⟩⟩

theorem P2.drewN (h : P2 w0 w hs p c fr C D m q d gr C' D' m') (n : Nat) : P2 w0 (w.drewN n) hs p c fr C D m q d gr C' D' m' := h.below (below_drewN (Below.refl _ w) n)

theorem P2.less {h2 : List Nat} (h : P2 w0 w hs p c fr C D m q d gr C' D' m') (hh : ∀ x ∈ h2, x ∈ hs) : P2 w0 w h2 p c fr C D m q d gr C' D' m' := by
  obtain ⟨gp, h1, o', N', l', s', ord', gs', p2, i2, b1, b2, b3, b5, b6, b7⟩ := h
  refine ⟨gp, h1.less (fun x hx => ?_), o', N', l', s', ord', gs', p2, i2, b1, b2, b3, b5, b6, fun x hx => b7 x (hh x hx)⟩
  rcases List.mem_append.1 hx with u | u
  · exact List.mem_append.2 (.inl (hh x u))
  · exact List.mem_append.2 (.inr u)

/-- A new block is held. -/
theorem P2.boxed (h : P2 w0 w hs p c fr C D m q d gr C' D' m') (ob : Obj) : P2 w0 (w.alloc ob) (hs ++ [w.heap.size]) p c fr C D m q d gr C' D' m' := by
  have hb : Below w.heap.size w (w.alloc ob) := (Below.refl _ w).alloc (Nat.le_refl _) _
  obtain ⟨gp, h1, o', N', l', s', ord', gs', p2, i2, b1, b2, b3, b5, b6, b7⟩ := h
  refine ⟨gp, (h1.hold hb [w.heap.size] (by simp)).less (fun x hx => ?_), o', N', l', s', ord', gs', p2.below hb, i2, b1, b2, b3, b5.trans (hb.mono b5.size), b6, fun x hx => ?_⟩
  · simp only [List.mem_append] at hx ⊢
    rcases hx with (u | u) | u
    · exact .inl (.inl u)
    · exact .inr u
    · exact .inl (.inr u)
  · rcases List.mem_append.1 hx with u | u
    · exact ⟨Nat.lt_of_lt_of_le (b7 x u).1 hb.size, (b7 x u).2⟩
    · simp only [List.mem_singleton] at u
      subst u
      exact ⟨by simp, fun e => Nat.lt_irrefl _ (p2.lt _ e)⟩

theorem P2.more (h : P2 w0 w hs p c fr C D m q d gr C' D' m') {n n' : Nat} (hm : m ≤ n) (hm' : m' ≤ n') : P2 w0 w hs p c fr C (fun _ => True) n q d gr C' (fun _ => True) n' := by
  obtain ⟨gp, ⟨fp, o, N, l, s, ord, gs, p1, i1, a1, a2, a3, a4, a5, a6, a7⟩, o', N', l', s', ord', gs', p2, i2, b1, b2, b3, b5, b6, b7⟩ := h
  exact ⟨gp, ⟨fp, o, N, l, s, ord, gs, p1, i1, by omega, by omega, fun _ _ _ => trivial, a4, a5, a6, a7⟩, o', N', l', s', ord', gs', p2, i2, by omega, by omega, fun _ _ _ => trivial, b5, b6, b7⟩

/-- Something was done with the first one: the second one is as it was. -/
theorem P2.on {gp ev : List Nat} {C1 : List UInt8 → Option (List Int)} {D1 : List UInt8 → Prop} {E1 : Prop} {m1 : Nat} (h2 : Lq w0 w gp hs q d gr C' D' m') (l : Lp w0 w' ((hs ++ gp) ++ ev) p c fr C1 D1 E1 m1) (b : Beside (hs ++ gp) w w') (hev : ∀ x ∈ ev, w.heap.size ≤ x) : P2 w0 w' (hs ++ ev) p c fr C1 D1 m1 q d gr C' D' m' := by
  obtain ⟨o', N', l', s', ord', gs', p2, i2, b1, b2, b3, b5, b6, b7⟩ := h2
  obtain ⟨fp, o, N, l1, s, ord, gs, p1, i1, a1, a2, a3, a4, a5, a6, a7⟩ := l
  obtain ⟨zp, k, n⟩ := b
  refine ⟨gp, ⟨fp, o, N, l1, s, ord, gs, p1, i1, a1, a2, a3, False.elim, a5, a6, fun x hx => a7 x ?_⟩, o', N', l', s', ord', gs', p2.kept k (fun x hx => n x (List.mem_append.2 (.inr hx))), i2, b1, b2, b3, a5, b6, fun x hx => ?_⟩
  · simp only [List.mem_append] at hx ⊢
    rcases hx with (u | u) | u
    · exact .inl (.inl u)
    · exact .inr u
    · exact .inl (.inr u)
  · rcases List.mem_append.1 hx with u | u
    · exact ⟨Nat.lt_of_lt_of_le (b7 x u).1 k.size, (b7 x u).2⟩
    · exact ⟨(a7 x (List.mem_append.2 (.inr u))).1, fun e => by have := p2.lt x e; have := hev x u; omega⟩

theorem Beside.fewer {h2 : List Nat} (h : Beside hs w w') (hh : ∀ x ∈ h2, x ∈ hs) : Beside h2 w w' := by
  obtain ⟨fp, k, n⟩ := h
  exact ⟨fp, k, fun x hx => n x (hh x hx)⟩

theorem P2.on0 {gp : List Nat} {C1 : List UInt8 → Option (List Int)} {D1 : List UInt8 → Prop} {E1 : Prop} {m1 : Nat} (h2 : Lq w0 w gp hs q d gr C' D' m') (l : Lp w0 w' (hs ++ gp) p c fr C1 D1 E1 m1) (b : Beside (hs ++ gp) w w') : P2 w0 w' hs p c fr C1 D1 m1 q d gr C' D' m' := by
  have := P2.on (ev := []) h2 (by rw [List.append_nil]; exact l) b (by simp)
  simpa using this

theorem P2.read {px py : List Int} (h : P2 w0 w hs p c fr (Ct px py) D m q d gr C' D' m') (o : Bool) (at_ n : Nat) (hf : at_ + n ≤ (sel o px py).length) (hfr : fr ≤ 100000) (hm : m + 2 * n ≤ 998000) :
    Calls Try.prog 13 #[.pointer (some ⟨p, 0, none⟩), .string (nmO o), .int .i64 at_, .int .i64 n] w fun e w' => ∃ a cp, e = .returned (.tuple #[.slice a n cp, .int .i64 0]) ∧ IsB w' (.slice a n cp) (((sel o px py).drop at_).take n) ∧
      P2 w0 w' (hs ++ own (.slice a n cp)) p c fr (Ct px py) (fun _ => True) (m + 2 * n + 127) q d gr C' D' m' ∧ Beside hs w w' := by
  obtain ⟨gp, h1, h2⟩ := h
  refine (h1.read (nmO o) (nmO_size o) (Ct_sel o px py) hfr at_ n hf hm).mono ?_
  rintro e w' ⟨v, rfl, r, l, b, nv⟩
  obtain ⟨a, cp, rfl, _⟩ := r.isB.form
  have ri := r.isB
  have hl : (((sel o px py).drop at_).take n).length = n := by rw [List.length_take, List.length_drop]; omega
  have l2 := P2.on h2 l b nv
  rw [hl] at ri l2 ⊢
  exact ⟨a, cp, rfl, ri, l2, b.fewer (fun x hx => List.mem_append.2 (.inl hx))⟩

theorem P2.read_arg {px py : List Int} (h : P2 w0 w hs p c fr (Ct px py) D m q d gr C' D' m') (o : Bool) (at_ n : Int) (hm : m ≤ 900000) (hat : at_ ≤ 9223372036854775807) (hb : at_ < 0 ∨ n < 0 ∨ ((sel o px py).length : Int) - at_ < n) :
    Calls Try.prog 13 #[.pointer (some ⟨p, 0, none⟩), .string (nmO o), .int .i64 at_, .int .i64 n] w fun e w' => e = .returned (.tuple #[.slice none 0 0, .int .i64 1]) ∧
      P2 w0 w' hs p c fr (Ct px py) D (m + 1) q d gr C' D' m' ∧ Beside hs w w' := by
  obtain ⟨gp, h1, h2⟩ := h
  refine (h1.read_arg hm (nmO o) (nmO_size o) (Ct_sel o px py) at_ n hat hb).mono ?_
  rintro e w' ⟨rfl, l, b⟩
  exact ⟨rfl, P2.on0 h2 l b, b.fewer (fun x hx => List.mem_append.2 (.inl hx))⟩

theorem P2.write {px py : List Int} (h : P2 w0 w hs p c fr (Ct px py) D m q d gr C' D' m') (o : Bool) (at_ : Nat) (ua : Option Addr) (n uc : Nat) (buf : List Int) (hn : buf.length = n) (hu : IsB w (.slice ua n uc) buf) (hux : buf ≠ [] → ∀ z ∈ own (.slice ua n uc), z < w0.heap.size) (hf : at_ + n ≤ (sel o px py).length) (hfr : fr ≤ 100000) (hm : m + 2 * n ≤ 998000) :
    Calls Try.prog 14 #[.pointer (some ⟨p, 0, none⟩), .string (nmO o), .int .i64 at_, .slice ua n uc] w fun e w' => e = .returned (.int .i64 0) ∧
      P2 w0 w' hs p c fr (Ct (sel o (putA (sel o px py) at_ buf) px) (sel o py (putA (sel o px py) at_ buf))) (fun _ => True) (m + 2 * n + 127) q d gr C' D' m' ∧ Beside hs w w' := by
  subst hn
  obtain ⟨gp, h1, h2⟩ := h
  refine (h1.write (nmO o) (nmO_size o) (Ct_sel o px py) hfr at_ ua uc buf hu (fun hne z hz => .inl (hux hne z hz)) hf hm).mono ?_
  rintro e w' ⟨rfl, l, b⟩
  rw [Ct_put] at l
  exact ⟨rfl, P2.on0 h2 l b, b.fewer (fun x hx => List.mem_append.2 (.inl hx))⟩

theorem P2.write_arg {px py : List Int} (h : P2 w0 w hs p c fr (Ct px py) D m q d gr C' D' m') (o : Bool) (at_ : Int) (ua : Option Addr) (n uc : Nat) (hm : m ≤ 900000) (hat : at_ ≤ 9223372036854775807) (hb : at_ < 0 ∨ ((sel o px py).length : Int) - at_ < n) :
    Calls Try.prog 14 #[.pointer (some ⟨p, 0, none⟩), .string (nmO o), .int .i64 at_, .slice ua n uc] w fun e w' => e = .returned (.int .i64 1) ∧
      P2 w0 w' hs p c fr (Ct px py) D (m + 1) q d gr C' D' m' ∧ Beside hs w w' := by
  obtain ⟨gp, h1, h2⟩ := h
  refine (h1.write_arg hm (nmO o) (nmO_size o) (Ct_sel o px py) at_ ua n uc hat hb).mono ?_
  rintro e w' ⟨rfl, l, b⟩
  exact ⟨rfl, P2.on0 h2 l b, b.fewer (fun x hx => List.mem_append.2 (.inl hx))⟩

theorem P2.flush (h : P2 w0 w hs p c fr C D m q d gr C' D' m') (o : Bool) (hfr : fr ≤ 100000) (hm : m ≤ 800000) :
    Calls Try.prog 15 #[.pointer (some ⟨p, 0, none⟩), .string (nmO o)] w fun e w' => e = .returned (.int .i64 0) ∧ P2 w0 w' hs p c fr C (fun z => D z ∧ z ≠ (nmO o).data.toList) (m + fr.toNat) q d gr C' D' m' ∧ Beside hs w w' := by
  obtain ⟨gp, h1, h2⟩ := h
  refine (h1.flush hfr hm (nmO o)).mono ?_
  rintro e w' ⟨rfl, l, b⟩
  exact ⟨rfl, P2.on0 h2 l b, b.fewer (fun x hx => List.mem_append.2 (.inl hx))⟩

theorem P2.dread {px py : List Int} (h : P2 w0 w hs p c fr (Ct px py) D m q d gr C' D' m') (o : Bool) (hD : ¬ D (nmO o).data.toList) (n : Nat) (hn : n = (sel o px py).length) (hm : m ≤ 900000) :
    Calls Try.prog 16 #[.pointer (some ⟨c, 0, none⟩), .string (nmO o), .int .i64 0, .int .i64 n] w fun e w' => ∃ a cp, e = .returned (.tuple #[.slice a n cp, .int .i64 0]) ∧ IsB w' (.slice a n cp) (sel o px py) ∧
      P2 w0 w' (hs ++ own (.slice a n cp)) p c fr (Ct px py) D (m + 1) q d gr C' D' m' ∧ Beside hs w w' := by
  obtain ⟨gp, h1, h2⟩ := h
  refine (h1.dread hm (nmO o) (nmO_size o) (Ct_sel o px py) hD 0 n (by omega)).mono ?_
  rintro e w' ⟨v, rfl, r, l, b, nv⟩
  rw [List.drop_zero, hn, List.take_length] at r
  obtain ⟨a, cp, rfl, _⟩ := r.isB.form
  have ri := r.isB
  have l2 := P2.on h2 l b nv
  rw [← hn] at ri l2 ⊢
  exact ⟨a, cp, rfl, ri, l2, b.fewer (fun x hx => List.mem_append.2 (.inl hx))⟩

theorem Beside.isB {v : Value} {bs : List Int} (h : Beside hs w w') (hr : IsB w v bs) (hv : ∀ x ∈ own v, x ∈ hs) : IsB w' v bs := by
  obtain ⟨fp, k, n⟩ := h
  exact hr.kept k (fun _ x hx => n x (hv x hx))
end

/-- Two disks, and a pool over each. -/
def Two2 (w0 w : World) (c d : Nat) (l l' : List Ab) (s s' : Ds) : Prop := ∃ fc fd, Dk w fc c l s ∧ Dk w fd d l' s' ∧ Below w0.heap.size w0 w ∧ (∀ x ∈ fc, w0.heap.size ≤ x ∧ x ∉ fd) ∧ (∀ x ∈ fd, w0.heap.size ≤ x)

theorem Two2.of {w0 w1 w2 : World} {c d : Nat} {l l' : List Ab} {s s' : Ds} (h1 : Sd w0.heap.size w0 w1 c l s) (h2 : Sd w1.heap.size w1 w2 d l' s') : Two2 w0 w2 c d l l' s s' := by
  obtain ⟨fc, dc, b1, f1, e1⟩ := h1
  obtain ⟨fd, dd, b2, f2, e2⟩ := h2
  exact ⟨fc, fd, dc.below b2, dd, b1.trans (b2.mono e1), fun x hx => ⟨f1 x hx, fun e => by have := f2 x e; have := dc.lt x hx; omega⟩, fun x hx => by have := f2 x hx; omega⟩

/-- The first pool is made. -/
theorem Two2.new {w0 w : World} {c d : Nat} {l l' : List Ab} {s s' : Ds} {C : List UInt8 → Option (List Int)} {m : Nat} (h : Two2 w0 w c d l l' s s') (n : Int) (hup : s.down = false) (hleft : s.left = 0) (hlen : ∀ nm x, DLook l nm = some x → x.2.1.length ≤ 100000) (hm : s.ops ≤ (m : Int)) (hC : (fun nm => (DLook l nm).map fun x => x.2.1) = C) :
    Calls Try.prog 11 #[.pointer (some ⟨c, 0, none⟩), .int .i64 n] w fun e w' => ∃ p, e = .returned (.pointer (some ⟨p, 0, none⟩)) ∧ ∃ fd, Lp w0 w' fd p c (max n 1) C (fun _ => False) False m ∧ Dk w' fd d l' s' ∧ ∀ x ∈ fd, w0.heap.size ≤ x := by
  obtain ⟨fc, fd, dc, dd, b, f1, f2⟩ := h
  refine (new_pool dc n).mono ?_
  rintro e w' ⟨q, o, fp, rfl, p, hb, hn⟩
  refine ⟨q, rfl, fd, ⟨fp, o, 0, l, s, [], [], p, hC ▸ PInv.new hup hleft hlen, Nat.zero_le _, hm, by simp, False.elim, b.trans (hb.mono b.size), fun x hx => ?_, fun x hx => ⟨Nat.lt_of_lt_of_le (dd.lt x hx) hb.size, fun e => ?_⟩⟩, dd.below hb, f2⟩
  · rcases hn x hx with u | u
    · exact (f1 x u).1
    · exact Nat.le_trans b.size u
  · rcases hn x e with u | u
    · exact (f1 x u).2 hx
    · have := dd.lt x hx; omega

/-- The second one. -/
theorem new_second {w0 w : World} {p c d : Nat} {fr : Int} {fd : List Nat} {l : List Ab} {s : Ds} {C C' : List UInt8 → Option (List Int)} {D : List UInt8 → Prop} {m m' : Nat} (h : Lp w0 w fd p c fr C D False m) (hd : Dk w fd d l s) (hfd : ∀ x ∈ fd, w0.heap.size ≤ x) (n : Int) (hup : s.down = false) (hleft : s.left = 0) (hlen : ∀ nm x, DLook l nm = some x → x.2.1.length ≤ 100000) (hm : s.ops ≤ (m' : Int)) (hC : (fun nm => (DLook l nm).map fun x => x.2.1) = C') :
    Calls Try.prog 11 #[.pointer (some ⟨d, 0, none⟩), .int .i64 n] w fun e w' => ∃ q, e = .returned (.pointer (some ⟨q, 0, none⟩)) ∧ P2 w0 w' [] p c fr C D m q d (max n 1) C' (fun _ => False) m' := by
  refine (new_pool hd n).mono ?_
  rintro e w' ⟨q, o', gp, rfl, p2, hb, hn⟩
  obtain ⟨fp, o, N, l1, s1, ord, gs, p1, i1, a1, a2, a3, a4, a5, a6, a7⟩ := h
  refine ⟨q, rfl, gp, ⟨fp, o, N, l1, s1, ord, gs, p1.below hb, i1, a1, a2, a3, a4, a5.trans (hb.mono a5.size), a6, fun x hx => ?_⟩, o', 0, l, s, [], [], p2, hC ▸ PInv.new hup hleft hlen, Nat.zero_le _, hm, by simp, a5.trans (hb.mono a5.size), fun x hx => ?_, by simp⟩
  · have hx : x ∈ gp := by simpa using hx
    refine ⟨p2.lt x hx, fun e => ?_⟩
    rcases hn x hx with u | u
    · exact (a7 x u).2 e
    · have := p1.lt x e; omega
  · rcases hn x hx with u | u
    · exact hfd x u
    · exact Nat.le_trans a5.size u

end Go.Proofs.Ytbhjdcoehgajcaa.L.P
