/-
  A pool of a law's own. A lemma file: no statement of the seat is proved here.
-/
import Derived.Test.YtbhjdcoehgajcaaPDrop
import Derived.Test.YtbhjdcoehgajcaaDShown
namespace Go.Proofs.Ytbhjdcoehgajcaa.L.P
open Go.RowKit Go.Maps

/-- What lies on the blocks hs, stays. -/
def Beside (hs : List Nat) (w w' : World) : Prop := ∃ fp, Kept fp w w' ∧ ∀ x ∈ hs, x ∉ fp

theorem Beside.row {hs : List Nat} {w w' : World} (h : Beside hs w w') {v : Value} {bs : List Int} (hr : RowB w v bs) (hv : ∀ x ∈ own v, x ∈ hs) : RowB w' v bs := by
  obtain ⟨fp, k, n⟩ := h
  exact hr.kept k (fun x hx => n x (hv x hx))

/-- A pool of the call's own: all of it is new, the blocks hs are not its own, C is what its files have, D the files that may have dirty pages, E: it holds a page. -/
def Lp (w0 w : World) (hs : List Nat) (q d : Nat) (fr : Int) (C : List UInt8 → Option (List Int)) (D : List UInt8 → Prop) (E : Prop) (m : Nat) : Prop :=
  ∃ fp o N l s ord gs, Pl w fp q d o fr N l s ord gs ∧ PInv C fr l s ord gs ∧ N ≤ m ∧ s.ops ≤ (m : Int) ∧ (∀ g ∈ gs, g.dirty = true → D g.key.1.1.data.toList) ∧ (E → gs ≠ []) ∧ Below w0.heap.size w0 w ∧ (∀ x ∈ fp, w0.heap.size ≤ x) ∧ ∀ x ∈ hs, x < w.heap.size ∧ x ∉ fp

theorem side {w0 w w' : World} {fp fp' hs : List Nat} (hb : Below w0.heap.size w0 w) (hf : ∀ x ∈ fp, w0.heap.size ≤ x) (hh : ∀ x ∈ hs, x < w.heap.size ∧ x ∉ fp) (k : Kept fp w w') (n : Newly w fp fp') :
    Below w0.heap.size w0 w' ∧ (∀ x ∈ fp', w0.heap.size ≤ x) ∧ (∀ x ∈ hs, x < w'.heap.size ∧ x ∉ fp') ∧ Beside hs w w' := by
  refine ⟨hb.trans (k.below hb.size hf), fun x hx => ?_, fun x hx => ⟨Nat.lt_of_lt_of_le (hh x hx).1 k.size, fun e => ?_⟩, fp, k, fun x hx => (hh x hx).2⟩
  · rcases n x hx with u | u
    · exact hf x u
    · exact Nat.le_trans hb.size u
  · rcases n x e with u | u
    · exact (hh x hx).2 u
    · have := (hh x hx).1; omega

section
variable {w0 w w' : World} {hs : List Nat} {q d : Nat} {fr : Int} {C : List UInt8 → Option (List Int)} {D : List UInt8 → Prop} {E : Prop} {m : Nat}

theorem Lp.bel (h : Lp w0 w hs q d fr C D E m) : Below w0.heap.size w0 w := by
  obtain ⟨fp, o, N, l, s, ord, gs, p, i, a1, a2, a3, a4, a5, a6, a7⟩ := h
  exact a5

theorem Lp.below (h : Lp w0 w hs q d fr C D E m) (hb : Below w.heap.size w w') : Lp w0 w' hs q d fr C D E m := by
  obtain ⟨fp, o, N, l, s, ord, gs, p, i, a1, a2, a3, a4, a5, a6, a7⟩ := h
  exact ⟨fp, o, N, l, s, ord, gs, p.below hb, i, a1, a2, a3, a4, a5.trans (hb.mono a5.size), a6, fun x hx => ⟨Nat.lt_of_lt_of_le (a7 x hx).1 hb.size, (a7 x hx).2⟩⟩

/-- More blocks are held, that are new. -/
theorem Lp.hold (h : Lp w0 w hs q d fr C D E m) (hb : Below w.heap.size w w') (h2 : List Nat) (hn : ∀ x ∈ h2, w.heap.size ≤ x ∧ x < w'.heap.size) : Lp w0 w' (hs ++ h2) q d fr C D E m := by
  obtain ⟨fp, o, N, l, s, ord, gs, p, i, a1, a2, a3, a4, a5, a6, a7⟩ := h
  refine ⟨fp, o, N, l, s, ord, gs, p.below hb, i, a1, a2, a3, a4, a5.trans (hb.mono a5.size), a6, fun x hx => ?_⟩
  rcases List.mem_append.1 hx with u | u
  · exact ⟨Nat.lt_of_lt_of_le (a7 x u).1 hb.size, (a7 x u).2⟩
  · exact ⟨(hn x u).2, fun e => by have := p.lt x e; have := (hn x u).1; omega⟩

theorem Lp.new {l : List Ab} {s : Ds} (h : Sd w0.heap.size w0 w d l s) (n : Int) (hup : s.down = false) (hleft : s.left = 0) (hlen : ∀ nm x, DLook l nm = some x → x.2.1.length ≤ 100000) (hm : s.ops ≤ (m : Int)) (hC : (fun nm => (DLook l nm).map fun x => x.2.1) = C) :
    Calls Try.prog 11 #[.pointer (some ⟨d, 0, none⟩), .int .i64 n] w fun e w' => ∃ q, e = .returned (.pointer (some ⟨q, 0, none⟩)) ∧ Lp w0 w' [] q d (max n 1) C (fun _ => False) False m := by
  obtain ⟨fd, hd, b, f, hB⟩ := h
  refine (new_pool hd n).mono ?_
  rintro e w' ⟨q, o, fp, rfl, p, hb, hn⟩
  refine ⟨q, rfl, fp, o, 0, l, s, [], [], p, hC ▸ PInv.new hup hleft hlen, Nat.zero_le _, hm, by simp, False.elim, b.trans (hb.mono hB), fun x hx => ?_, by simp⟩
  rcases hn x hx with u | u
  · exact f x u
  · exact Nat.le_trans hB u

theorem Lp.read (h : Lp w0 w hs q d fr C D E m) (nm : ByteArray) (hnm : nm.size ≤ maxLen) {c : List Int} (hc : C nm.data.toList = some c) (hfr : fr ≤ 100000) (at_ n : Nat) (hf : at_ + n ≤ c.length) (hm : m + 2 * n ≤ 998000) :
    Calls Try.prog 13 #[.pointer (some ⟨q, 0, none⟩), .string nm, .int .i64 at_, .int .i64 n] w fun e w' => ∃ v, e = .returned (.tuple #[v, .int .i64 0]) ∧ RowB w' v ((c.drop at_).take n) ∧
      Lp w0 w' (hs ++ own v) q d fr C (fun _ => True) (0 < n) (m + 2 * n + 127) ∧ Beside hs w w' ∧ ∀ x ∈ own v, w.heap.size ≤ x := by
  obtain ⟨fp, o, N, l, s, ord, gs, p, i, a1, a2, a3, a4, a5, a6, a7⟩ := h
  refine (readAt_ok p i nm hnm hc hfr at_ n hf (by omega) (by omega)).mono ?_
  rintro e w' ⟨v, rfl, r, fp', N', l', s', ord', gs', p', i', n', o', k, nw, ne, ov⟩
  obtain ⟨s1, s2, s3, s4⟩ := side a5 a6 a7 k nw
  refine ⟨v, rfl, r, ⟨fp', o, N', l', s', ord', gs', p', i', by omega, by omega, fun _ _ _ => trivial, ne, s1, s2, fun x hx => ?_⟩, s4, fun x hx => (ov x hx).1⟩
  rcases List.mem_append.1 hx with u | u
  · exact s3 x u
  · exact ⟨r.lt x u, (ov x u).2⟩

theorem Lp.write (h : Lp w0 w hs q d fr C D E m) (nm : ByteArray) (hnm : nm.size ≤ maxLen) {c : List Int} (hc : C nm.data.toList = some c) (hfr : fr ≤ 100000) (at_ : Nat) (ua : Option Addr) (uc : Nat) (buf : List Int) (hu : IsB w (.slice ua buf.length uc) buf) (hux : ∀ x ∈ own (.slice ua buf.length uc), x < w0.heap.size ∨ x ∈ hs) (hf : at_ + buf.length ≤ c.length) (hm : m + 2 * buf.length ≤ 998000) :
    Calls Try.prog 14 #[.pointer (some ⟨q, 0, none⟩), .string nm, .int .i64 at_, .slice ua buf.length uc] w fun e w' => e = .returned (.int .i64 0) ∧
      Lp w0 w' hs q d fr (putC C nm.data.toList (putA c at_ buf)) (fun _ => True) False (m + 2 * buf.length + 127) ∧ Beside hs w w' := by
  obtain ⟨fp, o, N, l, s, ord, gs, p, i, a1, a2, a3, a4, a5, a6, a7⟩ := h
  refine (writeAt_ok p i nm hnm hc hfr at_ ua uc buf hu (fun x hx e => ?_) hf (by omega) (by omega)).mono ?_
  · rcases hux x hx with u | u
    · have := a6 x e; omega
    · exact (a7 x u).2 e
  rintro e w' ⟨rfl, fp', N', l', s', ord', gs', p', i', n', o', k, nw⟩
  obtain ⟨s1, s2, s3, s4⟩ := side a5 a6 a7 k nw
  exact ⟨rfl, ⟨fp', o, N', l', s', ord', gs', p', i', by omega, by omega, fun _ _ _ => trivial, False.elim, s1, s2, s3⟩, s4⟩

theorem Lp.flush (h : Lp w0 w hs q d fr C D E m) (hfr : fr ≤ 100000) (hm : m ≤ 800000) (nm : ByteArray) :
    Calls Try.prog 15 #[.pointer (some ⟨q, 0, none⟩), .string nm] w fun e w' => e = .returned (.int .i64 0) ∧ Lp w0 w' hs q d fr C (fun x => D x ∧ x ≠ nm.data.toList) E (m + fr.toNat) ∧ Beside hs w w' := by
  obtain ⟨fp, o, N, l, s, ord, gs, p, i, a1, a2, a3, a4, a5, a6, a7⟩ := h
  obtain ⟨f1, f2, f3⟩ := p.facts
  have ct := i.count f2 f3
  have hl := i.len
  refine (flush_any p i (by omega) (by omega) nm).mono ?_
  rintro e w' ⟨rfl, l', s', zs, hz, ⟨fp', p', k, nw⟩, i', o1, o2⟩
  obtain ⟨s1, s2, s3, s4⟩ := side a5 a6 a7 k nw
  refine ⟨rfl, ⟨fp', o, N, l', s', ord, _, p', i', by omega, by omega, fun g hg hd => ?_, fun he => ?_, s1, s2, s3⟩, s4⟩
  · obtain ⟨g0, h0, rfl⟩ := List.mem_map.1 hg
    split at hd
    · cases hd
    · rename_i hn
      rw [if_neg hn]
      refine ⟨a3 g0 h0 hd, fun e => hn ?_⟩
      have e2 : g0.key.1.1 = nm := by
        apply ByteArray.ext
        exact Array.ext' e
      exact ⟨e2, (hz _).2 ⟨g0, h0, e2, rfl⟩⟩
  · intro e
    have := congrArg List.length e
    simp [cleanL] at this
    exact a4 he this

/-- The disk's own ReadAt, where no page of the file is dirty. -/
theorem Lp.dread (h : Lp w0 w hs q d fr C D E m) (hm : m ≤ 900000) (nm : ByteArray) (hnm : nm.size ≤ maxLen) {c : List Int} (hc : C nm.data.toList = some c) (hD : ¬ D nm.data.toList) (at_ n : Nat) (hf : at_ + n ≤ c.length) :
    Calls Try.prog 16 #[.pointer (some ⟨d, 0, none⟩), .string nm, .int .i64 (at_ : Int), .int .i64 (n : Int)] w fun e w' => ∃ v, e = .returned (.tuple #[v, .int .i64 0]) ∧ RowB w' v ((c.drop at_).take n) ∧
      Lp w0 w' (hs ++ own v) q d fr C D E (m + 1) ∧ Beside hs w w' ∧ ∀ x ∈ own v, w.heap.size ≤ x := by
  obtain ⟨fp, o, N, l, s, ord, gs, p, i, a1, a2, a3, a4, a5, a6, a7⟩ := h
  obtain ⟨x, hx, rfl⟩ := i.onDisk hc (fun g hg e => by
    cases hg2 : g.dirty with
    | false => rfl
    | true => exact absurd (e ▸ a3 g hg hg2) hD)
  have be := begin_eq (l := l) i.left
  refine (p.read (by omega) nm hnm (x := x) (by rw [be]; exact err_none (s := { s with ops := s.ops + 1 }) i.up hx) (by rw [be]; exact hx) at_ n hf).mono ?_
  rintro e w' ⟨v, rfl, r, fp', p', k, nw, ov⟩
  rw [be] at p'
  obtain ⟨s1, s2, s3, s4⟩ := side a5 a6 a7 k nw
  refine ⟨v, rfl, r, ⟨fp', o, N, l, _, ord, gs, p', i.begins, by omega, by show s.ops + 1 ≤ _; omega, a3, a4, s1, s2, fun x hx => ?_⟩, s4, fun x hx => (ov x hx).1⟩
  rcases List.mem_append.1 hx with u | u
  · exact s3 x u
  · exact ⟨r.lt x u, (ov x u).2⟩

theorem Lp.resident (h : Lp w0 w hs q d fr C D E m) : Calls Try.prog 17 #[.pointer (some ⟨q, 0, none⟩)] w fun e w' => ∃ n : Nat, e = .returned (.int .i64 n) ∧ w' = w ∧ (n : Int) ≤ fr ∧ (E → 1 ≤ n) := by
  obtain ⟨fp, o, N, l, s, ord, gs, p, i, a1, a2, a3, a4, a5, a6, a7⟩ := h
  refine (resident_any p).mono ?_
  rintro e w' ⟨rfl, rfl⟩
  obtain ⟨f1, f2, f3⟩ := p.facts
  refine ⟨gs.length, rfl, rfl, by have := i.count f2 f3; have := i.len; omega, fun he => ?_⟩
  have := a4 he
  cases gs with
  | nil => exact absurd rfl this
  | cons a b => simp

/-- Dirty; none, where no file that there is may have dirty pages. -/
theorem Lp.dirty (h : Lp w0 w hs q d fr C D E m) (hfr : fr ≤ 100000) : Calls Try.prog 18 #[.pointer (some ⟨q, 0, none⟩)] w fun e w' => ∃ n : Nat, e = .returned (.int .i64 n) ∧ Below w.heap.size w w' ∧ (n : Int) ≤ fr ∧ ((∀ x c, C x = some c → ¬ D x) → n = 0) := by
  obtain ⟨fp, o, N, l, s, ord, gs, p, i, a1, a2, a3, a4, a5, a6, a7⟩ := h
  obtain ⟨f1, f2, f3⟩ := p.facts
  have ct := i.count f2 f3
  have hl := i.len
  refine (dirty_any p (by omega)).mono ?_
  rintro e w' ⟨rfl, hb⟩
  have hle := List.length_filter_le Pg.dirty gs
  refine ⟨_, rfl, hb, by omega, fun hn => ?_⟩
  rw [List.length_eq_zero_iff, List.filter_eq_nil_iff]
  intro g hg hd
  obtain ⟨c, j, hc, _⟩ := i.page g hg
  exact hn _ c hc (a3 g hg hd)

theorem Lp.drop (h : Lp w0 w hs q d fr C D E m) (hfr : fr ≤ 100000) (nm : ByteArray) {c : List Int} (hc : C nm.data.toList = some c) :
    Calls Try.prog 19 #[.pointer (some ⟨q, 0, none⟩), .string nm] w fun e w' => e = .returned (.tuple #[]) ∧ (∃ c', Lp w0 w' hs q d fr (putC C nm.data.toList c') (fun x => D x ∧ x ≠ nm.data.toList) False m ∧ c'.length = c.length) ∧ Beside hs w w' := by
  obtain ⟨fp, o, N, l, s, ord, gs, p, i, a1, a2, a3, a4, a5, a6, a7⟩ := h
  obtain ⟨f1, f2, f3⟩ := p.facts
  have ct := i.count f2 f3
  have hl := i.len
  refine (drop_pool p i (by omega) nm).mono ?_
  rintro e w' ⟨rfl, zs, hz, fp', p', k, nw⟩
  obtain ⟨s1, s2, s3, s4⟩ := side a5 a6 a7 k nw
  obtain ⟨⟨x, hx⟩, _⟩ := i.has _ _ hc
  obtain ⟨c2, hc2, hlen, _⟩ := i.file _ _ hx
  rw [hc] at hc2
  cases hc2
  refine ⟨rfl, ⟨x.2.1, ⟨fp', o, N, l, s, _, _, p', i.dropped (fun g hg e => (hz _).2 ⟨g, hg, e, rfl⟩) hx, a1, a2, fun g hg hd => ?_, False.elim, s1, s2, s3⟩, hlen.symm⟩, s4⟩
  obtain ⟨hg1, hg2⟩ := lessP_mem.1 hg
  refine ⟨a3 g hg1 hd, fun e => hg2 ?_⟩
  have e2 : g.key.1.1 = nm := by
    apply ByteArray.ext
    exact Array.ext' e
  exact ⟨e2, (hz _).2 ⟨g, hg1, e2, rfl⟩⟩

end
end Go.Proofs.Ytbhjdcoehgajcaa.L.P
