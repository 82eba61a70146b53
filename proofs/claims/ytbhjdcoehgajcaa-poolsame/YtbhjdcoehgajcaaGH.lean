/-
  Lemma texts, one behind the other: PLaw, PArg, PShown, PRow, PMade, PEmpty, PDown, PBytes, PStep, PKeep. No statement of the seat is proved here.
-/
import Derived.Test.YtbhjdcoehgajcaaGG
import Derived.Test.YtbhjdcoehgajcaaGD
import Derived.Lib.SlBytesConst
import Derived.WalkKit
import Derived.ProofKit
import Derived.OpenShut
import Derived.ShutString
import Derived.Deep.Slices
import Derived.Deep.Strs
import Derived.Lib.SmallJoins
namespace Go.Proofs.Ytbhjdcoehgajcaa.L.P
open Go.RowKit Go.Maps

/-- What lies on the blocks hs, stays. -/
def Beside (hs : List Nat) (w w' : World) : Prop := ∃ fp, Kept fp w w' ∧ ∀ x ∈ hs, x ∉ fp

theorem Beside.row {hs : List Nat} {w w' : World} (h : Beside hs w w') {v : Value} {bs : List Int} (hr : RowB w v bs) (hv : ∀ x ∈ own v, x ∈ hs) : RowB w' v bs := by
  obtain ⟨fp, k, n⟩ := h
  exact hr.kept k (fun x hx => n x (hv x hx))

/-- A pool of the call's own: all of it is new, the blocks hs are not its own, C is what its files have, D the files that may have dirty pages, E: it holds a page. -/
def Lp (w0 w : World) (hs : List Nat) (q d : Nat) (fr : Int) (C : List UInt8 → Option (List Int)) (D : List UInt8 → Prop) (E : Prop) (m : Nat) : Prop :=
  ∃ fp o N l s ord gs, Pl w fp q d o fr N l s ord gs ∧ PInv C fr l s ord gs ∧ N ≤ m ∧ s.ops ≤ (m : Int) ∧ (∀ g ∈ gs, g.dirty = true → D g.key.1.1.data.toList) ∧ (E → gs ≠ []) ∧ Below w0.heap.size w0 w ∧ (∀ x ∈ fp, w0.heap.size ≤ x) ∧ ∀ x ∈ hs, x < w.heap.size ∧ x ∉ fp

theorem side {w0 w w' : World} {fp fp' hs : List Nat} (hb : Below w0.heap.size w0 w) (hf : ∀ x ∈ fp, w0.heap.size ≤ x) (hh : ∀ x ∈ hs, x < w.heap.size ∧ x ∉ fp) (k : Kept fp w w') (n : Newly w fp fp') :
    Below w0.heap.size w0 w' ∧ (∀ x ∈ fp', w0.heap.size ≤ x) ∧ (∀ x ∈ hs, x < w'.heap.size ∧ x ∉ fp') ∧ Beside hs w w' := by
  refine ⟨hb.trans (k.below hb.size hf), fun x hx => ?_, fun x hx => ⟨Nat.lt_of_lt_of_le (hh x hx).1 k.size, fun e => ?_⟩, fp, k, fun x hx => (hh x hx).2⟩
  · rcases n x hx with u | u
    · exact hf x u
    · exact Nat.le_trans hb.size u
  · rcases n x e with u | u
    · exact (hh x hx).2 u
    · have := (hh x hx).1; omega

section
variable {w0 w w' : World} {hs : List Nat} {q d : Nat} {fr : Int} {C : List UInt8 → Option (List Int)} {D : List UInt8 → Prop} {E : Prop} {m : Nat}

theorem Lp.bel (h : Lp w0 w hs q d fr C D E m) : Below w0.heap.size w0 w := by
  obtain ⟨fp, o, N, l, s, ord, gs, p, i, a1, a2, a3, a4, a5, a6, a7⟩ := h
  exact a5

theorem Lp.below (h : Lp w0 w hs q d fr C D E m) (hb : Below w.heap.size w w') : Lp w0 w' hs q d fr C D E m := by
  obtain ⟨fp, o, N, l, s, ord, gs, p, i, a1, a2, a3, a4, a5, a6, a7⟩ := h
  exact ⟨fp, o, N, l, s, ord, gs, p.below hb, i, a1, a2, a3, a4, a5.trans (hb.mono a5.size), a6, fun x hx => ⟨Nat.lt_of_lt_of_le (a7 x hx).1 hb.size, (a7 x hx).2⟩⟩

/-- More blocks are held, that are new. -/
theorem Lp.hold (h : Lp w0 w hs q d fr C D E m) (hb : Below w.heap.size w w') (h2 : List Nat) (hn : ∀ x ∈ h2, w.heap.size ≤ x ∧ x < w'.heap.size) : Lp w0 w' (hs ++ h2) q d fr C D E m := by
  obtain ⟨fp, o, N, l, s, ord, gs, p, i, a1, a2, a3, a4, a5, a6, a7⟩ := h
  refine ⟨fp, o, N, l, s, ord, gs, p.below hb, i, a1, a2, a3, a4, a5.trans (hb.mono a5.size), a6, fun x hx => ?_⟩
  rcases List.mem_append.1 hx with u | u
  · exact ⟨Nat.lt_of_lt_of_le (a7 x u).1 hb.size, (a7 x u).2⟩
  · exact ⟨(hn x u).2, fun e => by have := p.lt x e; have := (hn x u).1; omega⟩

theorem Lp.new {l : List Ab} {s : Ds} (h : Sd w0.heap.size w0 w d l s) (n : Int) (hup : s.down = false) (hleft : s.left = 0) (hlen : ∀ nm x, DLook l nm = some x → x.2.1.length ≤ 100000) (hm : s.ops ≤ (m : Int)) (hC : (fun nm => (DLook l nm).map fun x => x.2.1) = C) :
    Calls Try.prog 11 #[.pointer (some ⟨d, 0, none⟩), .int .i64 n] w fun e w' => ∃ q, e = .returned (.pointer (some ⟨q, 0, none⟩)) ∧ Lp w0 w' [] q d (max n 1) C (fun _ => False) False m := by
  obtain ⟨fd, hd, b, f, hB⟩ := h
  refine (new_pool hd n).mono ?_
  rintro e w' ⟨q, o, fp, rfl, p, hb, hn⟩
  refine ⟨q, rfl, fp, o, 0, l, s, [], [], p, hC ▸ PInv.new hup hleft hlen, Nat.zero_le _, hm, by simp, False.elim, b.trans (hb.mono hB), fun x hx => ?_, by simp⟩
  rcases hn x hx with u | u
  · exact f x u
  · exact Nat.le_trans hB u

theorem Lp.read (h : Lp w0 w hs q d fr C D E m) (nm : ByteArray) (hnm : nm.size ≤ maxLen) {c : List Int} (hc : C nm.data.toList = some c) (hfr : fr ≤ 100000) (at_ n : Nat) (hf : at_ + n ≤ c.length) (hm : m + 2 * n ≤ 998000) :
    Calls Try.prog 13 #[.pointer (some ⟨q, 0, none⟩), .string nm, .int .i64 at_, .int .i64 n] w fun e w' => ∃ v, e = .returned (.tuple #[v, .int .i64 0]) ∧ RowB w' v ((c.drop at_).take n) ∧
      Lp w0 w' (hs ++ own v) q d fr C (fun _ => True) (0 < n) (m + 2 * n + 127) ∧ Beside hs w w' ∧ ∀ x ∈ own v, w.heap.size ≤ x := by
  obtain ⟨fp, o, N, l, s, ord, gs, p, i, a1, a2, a3, a4, a5, a6, a7⟩ := h
  refine (readAt_ok p i nm hnm hc hfr at_ n hf (by omega) (by omega)).mono ?_
  rintro e w' ⟨v, rfl, r, fp', N', l', s', ord', gs', p', i', n', o', k, nw, ne, ov⟩
  obtain ⟨s1, s2, s3, s4⟩ := side a5 a6 a7 k nw
  refine ⟨v, rfl, r, ⟨fp', o, N', l', s', ord', gs', p', i', by omega, by omega, fun _ _ _ => trivial, ne, s1, s2, fun x hx => ?_⟩, s4, fun x hx => (ov x hx).1⟩
  rcases List.mem_append.1 hx with u | u
  · exact s3 x u
  · exact ⟨r.lt x u, (ov x u).2⟩

theorem Lp.write (h : Lp w0 w hs q d fr C D E m) (nm : ByteArray) (hnm : nm.size ≤ maxLen) {c : List Int} (hc : C nm.data.toList = some c) (hfr : fr ≤ 100000) (at_ : Nat) (ua : Option Addr) (uc : Nat) (buf : List Int) (hu : IsB w (.slice ua buf.length uc) buf) (hux : buf ≠ [] → ∀ x ∈ own (.slice ua buf.length uc), x < w0.heap.size ∨ x ∈ hs) (hf : at_ + buf.length ≤ c.length) (hm : m + 2 * buf.length ≤ 998000) :
    Calls Try.prog 14 #[.pointer (some ⟨q, 0, none⟩), .string nm, .int .i64 at_, .slice ua buf.length uc] w fun e w' => e = .returned (.int .i64 0) ∧
      Lp w0 w' hs q d fr (putC C nm.data.toList (putA c at_ buf)) (fun _ => True) False (m + 2 * buf.length + 127) ∧ Beside hs w w' := by
  obtain ⟨fp, o, N, l, s, ord, gs, p, i, a1, a2, a3, a4, a5, a6, a7⟩ := h
  refine (writeAt_ok p i nm hnm hc hfr at_ ua uc buf hu (fun hne x hx e => ?_) hf (by omega) (by omega)).mono ?_
  · rcases hux hne x hx with u | u
    · have := a6 x e; omega
    · exact (a7 x u).2 e
  rintro e w' ⟨rfl, fp', N', l', s', ord', gs', p', i', n', o', k, nw⟩
  obtain ⟨s1, s2, s3, s4⟩ := side a5 a6 a7 k nw
  exact ⟨rfl, ⟨fp', o, N', l', s', ord', gs', p', i', by omega, by omega, fun _ _ _ => trivial, False.elim, s1, s2, s3⟩, s4⟩

theorem Lp.flush (h : Lp w0 w hs q d fr C D E m) (hfr : fr ≤ 100000) (hm : m ≤ 800000) (nm : ByteArray) :
    Calls Try.prog 15 #[.pointer (some ⟨q, 0, none⟩), .string nm] w fun e w' => e = .returned (.int .i64 0) ∧ Lp w0 w' hs q d fr C (fun x => D x ∧ x ≠ nm.data.toList) E (m + fr.toNat) ∧ Beside hs w w' := by
  obtain ⟨fp, o, N, l, s, ord, gs, p, i, a1, a2, a3, a4, a5, a6, a7⟩ := h
  obtain ⟨f1, f2, f3⟩ := p.facts
  have ct := i.count f2 f3
  have hl := i.len
  refine (flush_any p i (by omega) (by omega) nm).mono ?_
  rintro e w' ⟨rfl, l', s', zs, hz, ⟨fp', p', k, nw⟩, i', o1, o2⟩
  obtain ⟨s1, s2, s3, s4⟩ := side a5 a6 a7 k nw
  refine ⟨rfl, ⟨fp', o, N, l', s', ord, _, p', i', by omega, by omega, fun g hg hd => ?_, fun he => ?_, s1, s2, s3⟩, s4⟩
  · obtain ⟨g0, h0, rfl⟩ := List.mem_map.1 hg
    split at hd
    · cases hd
    · rename_i hn
      rw [if_neg hn]
      refine ⟨a3 g0 h0 hd, fun e => hn ?_⟩
      have e2 : g0.key.1.1 = nm := by
        apply ByteArray.ext
        exact Array.ext' e
      exact ⟨e2, (hz _).2 ⟨g0, h0, e2, rfl⟩⟩
  · intro e
    have := congrArg List.length e
    simp [cleanL] at this
    exact a4 he this

/-- The disk's own ReadAt, where no page of the file is dirty. -/
theorem Lp.dread (h : Lp w0 w hs q d fr C D E m) (hm : m ≤ 900000) (nm : ByteArray) (hnm : nm.size ≤ maxLen) {c : List Int} (hc : C nm.data.toList = some c) (hD : ¬ D nm.data.toList) (at_ n : Nat) (hf : at_ + n ≤ c.length) :
    Calls Try.prog 16 #[.pointer (some ⟨d, 0, none⟩), .string nm, .int .i64 (at_ : Int), .int .i64 (n : Int)] w fun e w' => ∃ v, e = .returned (.tuple #[v, .int .i64 0]) ∧ RowB w' v ((c.drop at_).take n) ∧
      Lp w0 w' (hs ++ own v) q d fr C D E (m + 1) ∧ Beside hs w w' ∧ ∀ x ∈ own v, w.heap.size ≤ x := by
  obtain ⟨fp, o, N, l, s, ord, gs, p, i, a1, a2, a3, a4, a5, a6, a7⟩ := h
  obtain ⟨x, hx, rfl⟩ := i.onDisk hc (fun g hg e => by
    cases hg2 : g.dirty with
    | false => rfl
    | true => exact absurd (e ▸ a3 g hg hg2) hD)
  have be := begin_eq (l := l) i.left
  refine (p.read (by omega) nm hnm (x := x) (by rw [be]; exact err_none (s := { s with ops := s.ops + 1 }) i.up hx) (by rw [be]; exact hx) at_ n hf).mono ?_
  rintro e w' ⟨v, rfl, r, fp', p', k, nw, ov⟩
  rw [be] at p'
  obtain ⟨s1, s2, s3, s4⟩ := side a5 a6 a7 k nw
  refine ⟨v, rfl, r, ⟨fp', o, N, l, _, ord, gs, p', i.begins, by omega, by show s.ops + 1 ≤ _; omega, a3, a4, s1, s2, fun x hx => ?_⟩, s4, fun x hx => (ov x hx).1⟩
  rcases List.mem_append.1 hx with u | u
  · exact s3 x u
  · exact ⟨r.lt x u, (ov x u).2⟩

theorem Lp.resident (h : Lp w0 w hs q d fr C D E m) : Calls Try.prog 17 #[.pointer (some ⟨q, 0, none⟩)] w fun e w' => ∃ n : Nat, e = .returned (.int .i64 n) ∧ w' = w ∧ (n : Int) ≤ fr ∧ (E → 1 ≤ n) := by
  obtain ⟨fp, o, N, l, s, ord, gs, p, i, a1, a2, a3, a4, a5, a6, a7⟩ := h
  refine (resident_any p).mono ?_
  rintro e w' ⟨rfl, rfl⟩
  obtain ⟨f1, f2, f3⟩ := p.facts
  refine ⟨gs.length, rfl, rfl, by have := i.count f2 f3; have := i.len; omega, fun he => ?_⟩
  have := a4 he
  cases gs with
  | nil => exact absurd rfl this
  | cons a b => simp

/-- Dirty; none, where no file that there is may have dirty pages. -/
theorem Lp.dirty (h : Lp w0 w hs q d fr C D E m) (hfr : fr ≤ 100000) : Calls Try.prog 18 #[.pointer (some ⟨q, 0, none⟩)] w fun e w' => ∃ n : Nat, e = .returned (.int .i64 n) ∧ Below w.heap.size w w' ∧ (n : Int) ≤ fr ∧ ((∀ x c, C x = some c → ¬ D x) → n = 0) := by
  obtain ⟨fp, o, N, l, s, ord, gs, p, i, a1, a2, a3, a4, a5, a6, a7⟩ := h
  obtain ⟨f1, f2, f3⟩ := p.facts
  have ct := i.count f2 f3
  have hl := i.len
  refine (dirty_any p (by omega)).mono ?_
  rintro e w' ⟨rfl, hb⟩
  have hle := List.length_filter_le Pg.dirty gs
  refine ⟨_, rfl, hb, by omega, fun hn => ?_⟩
  rw [List.length_eq_zero_iff, List.filter_eq_nil_iff]
  intro g hg hd
  obtain ⟨c, j, hc, _⟩ := i.page g hg
  exact hn _ c hc (a3 g hg hd)

theorem Lp.drop (h : Lp w0 w hs q d fr C D E m) (hfr : fr ≤ 100000) (nm : ByteArray) {c : List Int} (hc : C nm.data.toList = some c) :
    Calls Try.prog 19 #[.pointer (some ⟨q, 0, none⟩), .string nm] w fun e w' => e = .returned (.tuple #[]) ∧ (∃ c', Lp w0 w' hs q d fr (putC C nm.data.toList c') (fun x => D x ∧ x ≠ nm.data.toList) False m ∧ c'.length = c.length) ∧ Beside hs w w' := by
  obtain ⟨fp, o, N, l, s, ord, gs, p, i, a1, a2, a3, a4, a5, a6, a7⟩ := h
  obtain ⟨f1, f2, f3⟩ := p.facts
  have ct := i.count f2 f3
  have hl := i.len
  refine (drop_pool p i (by omega) nm).mono ?_
  rintro e w' ⟨rfl, zs, hz, fp', p', k, nw⟩
  obtain ⟨s1, s2, s3, s4⟩ := side a5 a6 a7 k nw
  obtain ⟨⟨x, hx⟩, _⟩ := i.has _ _ hc
  obtain ⟨c2, hc2, hlen, _⟩ := i.file _ _ hx
  rw [hc] at hc2
  cases hc2
  refine ⟨rfl, ⟨x.2.1, ⟨fp', o, N, l, s, _, _, p', i.dropped (fun g hg e => (hz _).2 ⟨g, hg, e, rfl⟩) hx, a1, a2, fun g hg hd => ?_, False.elim, s1, s2, s3⟩, hlen.symm⟩, s4⟩
  obtain ⟨hg1, hg2⟩ := lessP_mem.1 hg
  refine ⟨a3 g hg1 hd, fun e => hg2 ?_⟩
  have e2 : g.key.1.1 = nm := by
    apply ByteArray.ext
    exact Array.ext' e
  exact ⟨e2, (hz _).2 ⟨g, hg1, e2, rfl⟩⟩

end
end Go.Proofs.Ytbhjdcoehgajcaa.L.P

namespace Go.Proofs.Ytbhjdcoehgajcaa.L.P
open Go.RowKit Go.Maps

/-- A new block of bytes. -/
theorem isB_new (w : World) (bs : List Int) (m : Nat × Nat) (h : ∀ z ∈ bs, 0 ≤ z ∧ z ≤ 255) : IsB (w.alloc (.cells (bs.map (Value.int .u8)).toArray 5 m)) (.slice (some ⟨w.heap.size, 0, none⟩) bs.length bs.length) bs := by
  refine ⟨_, _, rfl, Nat.le_refl _, by simp, fun x hx j hj => ?_, h⟩
  simp only [Option.some.injEq] at hx
  subst hx
  rw [Addr.add_lit]
  rw [World.cell?_alloc_mark]
  simp [hj]

theorem strP (b : UInt8) : (⟨#[b]⟩ : ByteArray).size ≤ maxLen := by
  show 1 ≤ maxLen
  unfold maxLen
  omega

section
variable {w0 w w' : World} {hs : List Nat} {q d : Nat} {fr : Int} {C : List UInt8 → Option (List Int)} {D : List UInt8 → Prop} {E : Prop} {m : Nat} {l : List Ab} {s : Ds} {ord : List (Place × Nat)} {gs : List Pg}

theorem PInv.sizeOf (i : PInv C fr l s ord gs) {nm : List UInt8} {c : List Int} (hc : C nm = some c) : sizeA (beginA l s) nm = ((c.length : Int), 0) := by
  obtain ⟨⟨x, hx⟩, _⟩ := i.has _ _ hc
  obtain ⟨c2, hc2, hl, _⟩ := i.file _ _ hx
  rw [hc] at hc2
  cases hc2
  rw [begin_eq i.left]
  unfold sizeA
  rw [err_none (s := { s with ops := s.ops + 1 }) i.up hx]
  have hx2 : Go.Proofs.Ytbhjdcoehgajcaa.lookA l nm = some x := hx
  dsimp only
  rw [hx2]
  simp [hl]

theorem PInv.noSize (i : PInv C fr l s ord gs) {nm : List UInt8} (hc : C nm = none) : sizeA (beginA l s) nm = (0, 4) := by
  have hx2 : Go.Proofs.Ytbhjdcoehgajcaa.lookA l nm = none := by
    cases hx : DLook l nm with
    | none => exact hx
    | some x =>
      obtain ⟨c2, hc2, _⟩ := i.file _ _ hx
      rw [hc] at hc2
      cases hc2
  rw [begin_eq i.left]
  unfold sizeA errA
  simp only [i.up, hx2]
  rfl

theorem Lp.after {fp : List Nat} {o N : Nat} (i : PInv C fr l s ord gs) (a1 : N ≤ m) (a2 : s.ops ≤ (m : Int)) (a3 : ∀ g ∈ gs, g.dirty = true → D g.key.1.1.data.toList) (a4 : E → gs ≠ []) (a5 : Below w0.heap.size w0 w) (a6 : ∀ x ∈ fp, w0.heap.size ≤ x) (a7 : ∀ x ∈ hs, x < w.heap.size ∧ x ∉ fp)
    (h : PlO w w' fp q d o fr N (beginA l s).1 (beginA l s).2 ord gs) : Lp w0 w' hs q d fr C D E (m + 1) ∧ Beside hs w w' := by
  rw [begin_eq i.left] at h
  obtain ⟨fp', p', k, nw⟩ := h
  obtain ⟨s1, s2, s3, s4⟩ := side a5 a6 a7 k nw
  exact ⟨⟨fp', o, N, l, _, ord, gs, p', i.begins, by omega, by show s.ops + 1 ≤ _; omega, a3, a4, s1, s2, s3⟩, s4⟩

/-- ReadAt at a place that is none. -/
theorem Lp.read_arg (h : Lp w0 w hs q d fr C D E m) (hm : m ≤ 900000) (nm : ByteArray) (hnm : nm.size ≤ maxLen) {c : List Int} (hc : C nm.data.toList = some c) (at_ n : Int) (hat : at_ ≤ 9223372036854775807) (hb : at_ < 0 ∨ n < 0 ∨ (c.length : Int) - at_ < n) :
    Calls Try.prog 13 #[.pointer (some ⟨q, 0, none⟩), .string nm, .int .i64 at_, .int .i64 n] w fun e w' => e = .returned (.tuple #[.slice none 0 0, .int .i64 1]) ∧ Lp w0 w' hs q d fr C D E (m + 1) ∧ Beside hs w w' := by
  obtain ⟨fp, o, N, l, s, ord, gs, p, i, a1, a2, a3, a4, a5, a6, a7⟩ := h
  have hcl := (i.has _ _ hc).2
  exact readAt_no nm at_ n 1 0 (by decide) ((within_arg p (by omega) nm hnm at_ n (i.sizeOf hc) (by omega) hat hb).mono fun e w' h => ⟨h.1, Lp.after i a1 a2 a3 a4 a5 a6 a7 h.2⟩)

/-- ReadAt of a file that there is not. -/
theorem Lp.read_none (h : Lp w0 w hs q d fr C D E m) (hm : m ≤ 900000) (nm : ByteArray) (hnm : nm.size ≤ maxLen) (hc : C nm.data.toList = none) (at_ n : Int) :
    Calls Try.prog 13 #[.pointer (some ⟨q, 0, none⟩), .string nm, .int .i64 at_, .int .i64 n] w fun e w' => e = .returned (.tuple #[.slice none 0 0, .int .i64 4]) ∧ Lp w0 w' hs q d fr C D E (m + 1) ∧ Beside hs w w' := by
  obtain ⟨fp, o, N, l, s, ord, gs, p, i, a1, a2, a3, a4, a5, a6, a7⟩ := h
  exact readAt_no nm at_ n 4 0 (by decide) ((within_err p (by omega) nm hnm at_ n (i.noSize hc) (by decide)).mono fun e w' h => ⟨h.1, Lp.after i a1 a2 a3 a4 a5 a6 a7 h.2⟩)

theorem Lp.write_at (h : Lp w0 w hs q d fr C D E m) (hm : m ≤ 900000) (nm : ByteArray) (at_ : Int) (ua : Option Addr) (n uc : Nat) {k : Int} (hk : k ≠ 0)
    (hw : ∀ l s ord gs fp o N W, Pl W fp q d o fr N l s ord gs → PInv C fr l s ord gs → s.ops ≤ 900000 → Calls Try.prog 28 #[.pointer (some ⟨q, 0, none⟩), .string nm, .int .i64 at_, .int .i64 n] W fun e w' => e = .returned (.tuple #[.int .i64 0, .int .i64 k]) ∧ PlO W w' fp q d o fr N (beginA l s).1 (beginA l s).2 ord gs) :
    Calls Try.prog 14 #[.pointer (some ⟨q, 0, none⟩), .string nm, .int .i64 at_, .slice ua n uc] w fun e w' => e = .returned (.int .i64 k) ∧ Lp w0 w' hs q d fr C D E (m + 1) ∧ Beside hs w w' := by
  obtain ⟨fp, o, N, l, s, ord, gs, p, i, a1, a2, a3, a4, a5, a6, a7⟩ := h
  have b0 : Below w.heap.size w (w.alloc (.cells #[.slice ua n uc] 28)) := (Below.refl _ w).alloc (Nat.le_refl _) _
  refine writeAt_no nm at_ k 0 ua n uc hk ((hw l s ord gs fp o N _ (p.below b0) i (by omega)).mono fun e w' h => ⟨h.1, ?_⟩)
  obtain ⟨r1, r2⟩ := Lp.after (hs := hs) i a1 a2 a3 a4 (a5.trans (b0.mono a5.size)) a6 (fun x hx => ⟨Nat.lt_of_lt_of_le (a7 x hx).1 b0.size, (a7 x hx).2⟩) h.2
  obtain ⟨f2, k2, n2⟩ := r2
  exact ⟨r1, f2, (Kept.of_below (fp := f2) b0).trans k2 (Newly.refl _ _), n2⟩

/-- WriteAt at a place that is none. -/
theorem Lp.write_arg (h : Lp w0 w hs q d fr C D E m) (hm : m ≤ 900000) (nm : ByteArray) (hnm : nm.size ≤ maxLen) {c : List Int} (hc : C nm.data.toList = some c) (at_ : Int) (ua : Option Addr) (n uc : Nat) (hat : at_ ≤ 9223372036854775807) (hb : at_ < 0 ∨ (c.length : Int) - at_ < n) :
    Calls Try.prog 14 #[.pointer (some ⟨q, 0, none⟩), .string nm, .int .i64 at_, .slice ua n uc] w fun e w' => e = .returned (.int .i64 1) ∧ Lp w0 w' hs q d fr C D E (m + 1) ∧ Beside hs w w' :=
  h.write_at hm nm at_ ua n uc (by decide) fun l s ord gs fp o N W p i ho => within_arg p (by omega) nm hnm at_ n (i.sizeOf hc) (by have := (i.has _ _ hc).2; omega) hat (by omega)

/-- WriteAt of a file that there is not. -/
theorem Lp.write_none (h : Lp w0 w hs q d fr C D E m) (hm : m ≤ 900000) (nm : ByteArray) (hnm : nm.size ≤ maxLen) (hc : C nm.data.toList = none) (at_ : Int) (ua : Option Addr) (n uc : Nat) :
    Calls Try.prog 14 #[.pointer (some ⟨q, 0, none⟩), .string nm, .int .i64 at_, .slice ua n uc] w fun e w' => e = .returned (.int .i64 4) ∧ Lp w0 w' hs q d fr C D E (m + 1) ∧ Beside hs w w' :=
  h.write_at hm nm at_ ua n uc (by decide) fun l s ord gs fp o N W p i ho => within_err p (by omega) nm hnm at_ n (i.noSize hc) (by decide)

end
end Go.Proofs.Ytbhjdcoehgajcaa.L.P

namespace Go.Proofs.Ytbhjdcoehgajcaa.L.P
open Go.RowKit Go.Maps

/-- The disk of shown, by what it has done. -/
def S6 (used ops : Int) : Ds := { room := 100, used := used, ops := ops, down := false, left := 0, keep := [] }

theorem sp1 : createA (beginA [] (S6 0 0)) [102] = (0, ([([102], [], [])], S6 0 1)) := by kernel_rfl
theorem sp2 : appendA (beginA [([102], [], [])] (S6 0 1)) [102] (zs0 130) = (0, ([([102], zs0 130, [])], S6 9 2)) := by kernel_rfl

def Cf (c : List Int) : List UInt8 → Option (List Int) := fun x => if x = [102] then some c else none

theorem Cf_look (c : List Int) : (fun nm => (DLook [([102], c, [])] nm).map fun x => x.2.1) = Cf c := by
  funext nm
  unfold Cf DLook Go.Proofs.Ytbhjdcoehgajcaa.lookA
  by_cases h : nm = [102]
  · subst h
    rfl
  · rw [if_neg h]
    have h2 : ¬ ([102] : List UInt8) = nm := fun e => h e.symm
    simp [h2]

theorem Cf_put (c c' : List Int) : putC (Cf c) [102] c' = Cf c' := by
  funext x
  unfold putC Cf
  split <;> rfl

theorem Cf_has (c : List Int) : Cf c [102] = some c := rfl
theorem Cf_no (c : List Int) : Cf c [103] = none := rfl

def ab2 : List Int := [97, 98]
theorem put_ab : ((putA (zs0 130) 63 ab2).drop 62).take 4 = [0, 97, 98, 0] := by decide +kernel
theorem put_ab2 : ((putA (zs0 130) 63 ab2).drop 63).take 2 = [97, 98] := by decide +kernel
theorem put_len130 : (putA (zs0 130) 63 ab2).length = 130 := by decide +kernel

section
variable {B : Nat} {w0 w w1 : World} {p : Nat}
theorem sf1 (h : Sd B w0 w p [] (S6 0 0)) : Calls Try.prog 25 #[.pointer (some ⟨p, 0, none⟩), .string ⟨#[102]⟩] w fun e w' => e = .returned (.int .i64 0) ∧ Sd B w0 w' p [([102], [], [])] (S6 0 1) :=
  h.create (by decide) ⟨#[102]⟩ (strP 102) sp1
theorem sf2 (h : Sd B w0 w p [([102], [], [])] (S6 0 1)) (u : Value) (hb : Below w.heap.size w w1) (hu : RowB w1 u (zs0 130)) (hux : ∀ x ∈ own u, w.heap.size ≤ x) : Calls Try.prog 26 #[.pointer (some ⟨p, 0, none⟩), .string ⟨#[102]⟩, u] w1 fun e w' => e = .returned (.int .i64 0) ∧ Sd B w0 w' p [([102], zs0 130, [])] (S6 9 2) :=
  h.appendN (by decide) ⟨#[102]⟩ (strP 102) u _ hb hu.isB (by rw [zs0_length]; omega) hux sp2
end

section
variable {w0 w w' : World} {hs : List Nat} {q d : Nat} {fr : Int} {C : List UInt8 → Option (List Int)} {D : List UInt8 → Prop} {E : Prop} {m : Nat}
theorem Lp.less {h2 : List Nat} (h : Lp w0 w hs q d fr C D E m) (hh : ∀ x ∈ h2, x ∈ hs) : Lp w0 w h2 q d fr C D E m := by
  obtain ⟨fp, o, N, l, s, ord, gs, p, i, a1, a2, a3, a4, a5, a6, a7⟩ := h
  exact ⟨fp, o, N, l, s, ord, gs, p, i, a1, a2, a3, a4, a5, a6, fun x hx => a7 x (hh x hx)⟩

theorem sf3 (h : Lp w0 w [] q d (max 1 1) (Cf (zs0 130)) D E 2) : Calls Try.prog 14 #[.pointer (some ⟨q, 0, none⟩), .string ⟨#[102]⟩, .int .i64 63, .slice (some ⟨w.heap.size, 0, none⟩) 2 2] (w.alloc (.cells #[.int .u8 97, .int .u8 98] 5 (2, 3))) fun e w' => e = .returned (.int .i64 0) ∧
    Lp w0 w' [] q d (max 1 1) (Cf (putA (zs0 130) 63 ab2)) (fun _ => True) False 133 := by
  have h2 := h.hold ((Below.refl _ w).alloc (Nat.le_refl _) (.cells #[.int .u8 97, .int .u8 98] 5 (2, 3))) [w.heap.size] (by simp)
  refine (h2.write ⟨#[102]⟩ (strP 102) (Cf_has _) (by decide) 63 (some ⟨w.heap.size, 0, none⟩) 2 ab2 (isB_new w ab2 (2, 3) (by decide)) (fun _ => by simp [own, Value.ownBlock]) (by rw [zs0_length]; decide) (by decide)).mono ?_
  rintro e w' ⟨rfl, l, _⟩
  have e : putC (Cf (zs0 130)) (⟨#[102]⟩ : ByteArray).data.toList (putA (zs0 130) 63 ab2) = Cf (putA (zs0 130) 63 ab2) := Cf_put _ _
  rw [e] at l
  exact ⟨rfl, l.less (by simp)⟩

theorem sf4 (h : Lp w0 w [] q d (max 1 1) (Cf (putA (zs0 130) 63 ab2)) D E 133) : Calls Try.prog 13 #[.pointer (some ⟨q, 0, none⟩), .string ⟨#[102]⟩, .int .i64 62, .int .i64 4] w fun e w' => ∃ a c, e = .returned (.tuple #[.slice a 4 c, .int .i64 0]) ∧
    RowB w' (.slice a 4 c) [0, 97, 98, 0] ∧ Lp w0 w' (own (.slice a 4 c)) q d (max 1 1) (Cf (putA (zs0 130) 63 ab2)) (fun _ => True) True 268 := by
  refine (h.read ⟨#[102]⟩ (strP 102) (Cf_has _) (by decide) 62 4 (by rw [put_len130]; decide) (by decide)).mono ?_
  rintro e w' ⟨v, rfl, r, l, _⟩
  rw [put_ab] at r
  obtain ⟨a, c, rfl, _⟩ := r.isB.form
  obtain ⟨fp, o, N, l, s, ord, gs, p, i, a1, a2, a3, a4, a5, a6, a7⟩ := l
  exact ⟨a, c, rfl, r, fp, o, N, l, s, ord, gs, p, i, a1, a2, a3, fun _ => a4 (by decide), a5, a6, fun x hx => a7 x (by simpa using hx)⟩

theorem sf5 (h : Lp w0 w hs q d (max 1 1) C D True m) : Calls Try.prog 17 #[.pointer (some ⟨q, 0, none⟩)] w fun e w' => e = .returned (.int .i64 1) ∧ w' = w := by
  refine h.resident.mono ?_
  rintro e w' ⟨n, rfl, rfl, h1, h2⟩
  have : n = 1 := by have := h2 trivial; omega
  subst this
  exact ⟨rfl, rfl⟩

theorem sf6 (h : Lp w0 w hs q d (max 1 1) C D E 268) : Calls Try.prog 15 #[.pointer (some ⟨q, 0, none⟩), .string ⟨#[102]⟩] w fun e w' => e = .returned (.int .i64 0) ∧ Lp w0 w' hs q d (max 1 1) C (fun x => x ≠ [102]) E 269 ∧ Beside hs w w' := by
  refine (h.flush (by decide) (by decide) ⟨#[102]⟩).mono ?_
  rintro e w' ⟨rfl, ⟨fp, o, N, l, s, ord, gs, p, i, a1, a2, a3, a4, a5, a6, a7⟩, b⟩
  exact ⟨rfl, ⟨fp, o, N, l, s, ord, gs, p, i, a1, a2, fun g hg hd => (a3 g hg hd).2, a4, a5, a6, a7⟩, b⟩

theorem sf7 (h : Lp w0 w hs q d (max 1 1) (Cf (putA (zs0 130) 63 ab2)) (fun x => x ≠ [102]) E 269) : Calls Try.prog 16 #[.pointer (some ⟨d, 0, none⟩), .string ⟨#[102]⟩, .int .i64 63, .int .i64 2] w fun e w' => ∃ a c, e = .returned (.tuple #[.slice a 2 c, .int .i64 0]) ∧
    RowB w' (.slice a 2 c) [97, 98] ∧ Lp w0 w' (hs ++ own (.slice a 2 c)) q d (max 1 1) (Cf (putA (zs0 130) 63 ab2)) (fun x => x ≠ [102]) E 270 ∧ Beside hs w w' := by
  refine (h.dread (by decide) ⟨#[102]⟩ (strP 102) (Cf_has _) (fun e => e rfl) 63 2 (by rw [put_len130]; decide)).mono ?_
  rintro e w' ⟨v, rfl, r, l, b, _⟩
  rw [put_ab2] at r
  obtain ⟨a, c, rfl, _⟩ := r.isB.form
  exact ⟨a, c, rfl, r, l, b⟩

theorem sf8 (h : Lp w0 w hs q d (max 1 1) (Cf (putA (zs0 130) 63 ab2)) D E 270) : Calls Try.prog 13 #[.pointer (some ⟨q, 0, none⟩), .string ⟨#[102]⟩, .int .i64 129, .int .i64 2] w fun e w' => e = .returned (.tuple #[.slice none 0 0, .int .i64 1]) ∧ Lp w0 w' hs q d (max 1 1) (Cf (putA (zs0 130) 63 ab2)) D E 271 ∧ Beside hs w w' :=
  h.read_arg (by decide) ⟨#[102]⟩ (strP 102) (Cf_has _) 129 2 (by decide) (by rw [put_len130]; decide)

theorem sf9 (h : Lp w0 w hs q d (max 1 1) (Cf (putA (zs0 130) 63 ab2)) D E 271) : Calls Try.prog 13 #[.pointer (some ⟨q, 0, none⟩), .string ⟨#[103]⟩, .int .i64 0, .int .i64 0] w fun e w' => e = .returned (.tuple #[.slice none 0 0, .int .i64 4]) ∧ Lp w0 w' hs q d (max 1 1) (Cf (putA (zs0 130) 63 ab2)) D E 272 ∧ Beside hs w w' :=
  h.read_none (by decide) ⟨#[103]⟩ (strP 103) (Cf_no _) 0 0

theorem sf10 {c : List Int} (h : Lp w0 w hs q d (max 1 1) (Cf c) (fun x => x ≠ [102]) E m) : Calls Try.prog 18 #[.pointer (some ⟨q, 0, none⟩)] w fun e w' => e = .returned (.int .i64 0) ∧ Below w.heap.size w w' := by
  refine (h.dirty (by decide)).mono ?_
  rintro e w' ⟨n, rfl, hb, _, h0⟩
  have : n = 0 := h0 fun x c2 hx hn => by
    unfold Cf at hx
    rw [if_neg hn] at hx
    cases hx
  subst this
  exact ⟨rfl, hb⟩
end

theorem own_newP {n m : Nat} {w : World} : ∀ x ∈ own (.slice (some ⟨w.heap.size, 0, none⟩) n m), w.heap.size ≤ x := by
  intro x hx
  simp [own, Value.ownBlock] at hx
  omega

set_option maxRecDepth 100000 in
set_option maxHeartbeats 2000000 in
theorem shown_any (w : World) : Calls Try.prog 9 #[] w fun e w' => e = .returned (.bool true) ∧ Below w.heap.size w w' := by
  have kc := fun (w : World) (C : Array Value) (n c : Nat) => Lib.run_convert_bytes_const (P := Try.prog) w 28 5 C n c Try.underlying28 Try.underlying5
  have NW := hide (Sd.new (B := w.heap.size) (w0 := w) 100 (by omega) w (Below.refl _ _) (Nat.le_refl _))
  go_enter Try.func9, Try.ntmps9
  go_wp2_with (go_at_call 24; refine NW.out.mono ?_; rintro e w1 ⟨rfl, d1⟩; have D1 : Hid (Sd w.heap.size w w1 (w.heap.size + 1) [] (S6 0 0)) := d1; clear d1)
  go_wp2_with (first | (go_at_call 25; refine (sf1 D1.out).mono ?_; rintro e w2 ⟨rfl, d2⟩; have D2 := hide d2; clear d2) | (at_make; refine wp_makeB _ rfl _ _ rfl 130 130 130 rfl rfl rfl rfl (by omega) ?_; intro w3 r3 b3; have R3 := hide r3; have B3 := hide b3; clear r3 b3))
  go_wp2_with (go_at_call 26; refine (sf2 D2.out _ B3.out R3.out own_newP).mono ?_; rintro e w4 ⟨rfl, d4⟩; have D4 := hide d4; clear d4)
  go_wp2_with fail
  refine (Lp.new (m := 2) (C := Cf (zs0 130)) D4.out 1 rfl rfl (fun nm x hx => ?_) (by decide) (Cf_look _)).mono ?_
  · unfold DLook Go.Proofs.Ytbhjdcoehgajcaa.lookA at hx
    have := List.mem_of_find?_eq_some hx
    simp at this
    subst this
    simp [zs0_length]
  rintro e w5 ⟨q, rfl, l5⟩
  have L5 := hide l5
  clear l5 D4 R3 B3 D2 D1 NW
  go_wp2_with fail
  refine (sf3 L5.out).mono ?_
  rintro e w6 ⟨rfl, l6⟩
  have L6 := hide l6
  clear l6 L5 kc
  go_wp2_with fail
  refine (sf4 L6.out).mono ?_
  rintro e w7 ⟨a7, c7, rfl, r7, l7⟩
  have L7 := hide l7
  have R7 := hide r7
  clear l7 L6 r7
  go_wp2_with (go_at_call 17; refine (sf5 L7.out).mono ?_; rintro e w8 ⟨rfl, rfl⟩)
  go_wp2_with (go_at_call 15; refine (sf6 L7.out).mono ?_; rintro e w9 ⟨rfl, l9, b9⟩; have L9 := hide l9; have R9 := hide (b9.row R7.out (fun x h => h)); clear l9 b9 R7 L7)
  go_wp2_with fail
  refine (sf7 L9.out).mono ?_
  rintro e w10 ⟨a10, c10, rfl, r10, l10, b10⟩
  have L10 := hide l10
  have Q10 := hide r10
  have R10 := hide (b10.row R9.out (fun x h => h))
  clear l10 r10 b10 L9 R9
  go_wp2_with fail
  refine (sf8 L10.out).mono ?_
  rintro e w11 ⟨rfl, l11, b11⟩
  have L11 := hide l11
  have Q11 := hide (b11.row Q10.out (fun x h => List.mem_append_right _ h))
  have R11 := hide (b11.row R10.out (fun x h => List.mem_append_left _ h))
  clear l11 b11 L10 Q10 R10
  go_wp2_with fail
  refine (sf9 L11.out).mono ?_
  rintro e w12 ⟨rfl, l12, b12⟩
  have L12 := hide l12
  have c12 : (convert 28 9 (.slice a7 4 c7)).run Try.prog w12 = .ok (.string ⟨#[0, 97, 98, 0]⟩) w12 := conv_isB (b12.row R11.out (fun x h => List.mem_append_left _ h)).isB
  have d12 : (convert 28 9 (.slice a10 2 c10)).run Try.prog w12 = .ok (.string ⟨#[97, 98]⟩) w12 := conv_isB (b12.row Q11.out (fun x h => List.mem_append_right _ h)).isB
  clear l12 b12 L11 Q11 R11
  go_wp2_with (go_at_call 18; refine (sf10 L12.out).mono ?_; rintro e w13 ⟨rfl, b13⟩; have B13 := hide b13; clear b13)
  go_ret
  exact ⟨rfl, L12.out.bel.trans (B13.out.mono L12.out.bel.size)⟩

end Go.Proofs.Ytbhjdcoehgajcaa.L.P

namespace Go.Proofs.Ytbhjdcoehgajcaa.L.P
open Go.RowKit Go.Maps

/-- A disk of the call's own, all of whose blocks lie from B on; rows of bytes of the call's own beside it. -/
def Rd (B : Nat) (w0 w : World) (p : Nat) (l : List Ab) (s : Ds) (rs : List (Value × List Int)) : Prop :=
  ∃ fp, Dk w fp p l s ∧ Below B w0 w ∧ (∀ x ∈ fp, B ≤ x) ∧ B ≤ w.heap.size ∧ ∀ z ∈ rs, RowB w z.1 z.2 ∧ ∀ x ∈ own z.1, B ≤ x ∧ x ∉ fp

theorem RowB.stored {w : World} {g n cap : Nat} {bs : List Int} (h : RowB w (.slice (some ⟨g, 0, none⟩) n cap) bs) (j : Nat) (z : Int) (hz : 0 ≤ z ∧ z ≤ 255) : RowB (w.setCell ⟨g, j, none⟩ (.int .u8 z)) (.slice (some ⟨g, 0, none⟩) n cap) (bs.set j z) := by
  have hn : n = bs.length := by
    rcases h.form with ⟨e, _⟩ | ⟨g', cap', e, _⟩
    · cases e
    · cases e
      rfl
  subst hn
  obtain ⟨h1, h2⟩ := h
  have hs := (World.ownsRow.stored h1 j (.int .u8 z)).1
  rw [← List.map_set] at hs
  refine ⟨by simpa using hs, fun x hx => ?_⟩
  rcases List.mem_or_eq_of_mem_set hx with u | u
  · exact h2 x u
  · subst u
    exact hz

section
variable {B : Nat} {w0 w w' : World} {p : Nat} {l : List Ab} {s : Ds} {rs : List (Value × List Int)}

theorem Sd.rd (h : Sd B w0 w p l s) : Rd B w0 w p l s [] := by
  obtain ⟨fp, d, b, f, hB⟩ := h
  exact ⟨fp, d, b, f, hB, by simp⟩
theorem Rd.sd (h : Rd B w0 w p l s rs) : Sd B w0 w p l s := by
  obtain ⟨fp, d, b, f, hB, _⟩ := h
  exact ⟨fp, d, b, f, hB⟩
theorem Rd.at (h : Rd B w0 w p l s rs) {v : Value} {bs : List Int} (hm : (v, bs) ∈ rs) : RowB w v bs := by
  obtain ⟨fp, d, b, f, hB, hh⟩ := h
  exact (hh _ hm).1

theorem Rd.made {v : Value} {bs : List Int} (h : Rd B w0 w p l s rs) (hb : Below w.heap.size w w') (hr : RowB w' v bs) (hv : ∀ x ∈ own v, w.heap.size ≤ x) : Rd B w0 w' p l s ((v, bs) :: rs) := by
  obtain ⟨fp, d, b, f, hB, hh⟩ := h
  have hlt := d.lt
  refine ⟨fp, d.below hb, b.trans (hb.mono hB), f, Nat.le_trans hB hb.size, fun z hz => ?_⟩
  rcases List.mem_cons.1 hz with rfl | hz
  · exact ⟨hr, fun x hx => ⟨Nat.le_trans hB (hv x hx), fun e => by have := hlt x e; have := hv x hx; omega⟩⟩
  · exact ⟨(hh z hz).1.kept (fp := []) (Kept.of_below hb) (by simp), (hh z hz).2⟩

theorem Rd.stored {g n cap : Nat} {bs : List Int} (h : Rd B w0 w p l s ((.slice (some ⟨g, 0, none⟩) n cap, bs) :: rs)) (hne : ∀ z ∈ rs, g ∉ own z.1) (j : Nat) (z : Int) (hz : 0 ≤ z ∧ z ≤ 255) : Rd B w0 (w.setCell ⟨g, j, none⟩ (.int .u8 z)) p l s ((.slice (some ⟨g, 0, none⟩) n cap, bs.set j z) :: rs) := by
  obtain ⟨fp, d, b, f, hB, hh⟩ := h
  obtain ⟨h1, h2⟩ := hh _ (List.mem_cons_self ..)
  have hg := h2 g (by simp [own, Value.ownBlock])
  have hk : Kept [g] w (w.setCell ⟨g, j, none⟩ (.int .u8 z)) := (Kept.refl _ _).setCell (.inl (by simp)) _
  refine ⟨fp, d.kept hk (fun x hx e => hg.2 (by simp at e; subst e; exact hx)), b.trans (hk.below hB (by simpa using hg.1)), f, Nat.le_trans hB hk.size, fun y hy => ?_⟩
  rcases List.mem_cons.1 hy with rfl | hy
  · exact ⟨RowB.stored h1 j z hz, h2⟩
  · exact ⟨(hh y (List.mem_cons_of_mem _ hy)).1.kept hk (fun x hx e => hne y hy (by simp at e; subst e; exact hx)), (hh y (List.mem_cons_of_mem _ hy)).2⟩

theorem Outc.rd {fp : List Nat} {A : List Ab × Ds} (h : Go.Proofs.Ytbhjdcoehgajcaa.Outc w w' fp p A) (hb : Below B w0 w) (hf : ∀ x ∈ fp, B ≤ x) (hB : B ≤ w.heap.size) (hh : ∀ z ∈ rs, RowB w z.1 z.2 ∧ ∀ x ∈ own z.1, B ≤ x ∧ x ∉ fp) : Rd B w0 w' p A.1 A.2 rs := by
  obtain ⟨fp', d, k, n⟩ := h
  refine ⟨fp', d, hb.trans (k.below hB hf), fun x hx => ?_, Nat.le_trans hB k.size, fun z hz => ?_⟩
  · rcases n x hx with h1 | h1
    · exact hf x h1
    · omega
  · obtain ⟨hg, hgf⟩ := hh z hz
    refine ⟨hg.kept k (fun x hx => (hgf x hx).2), fun x hx => ⟨(hgf x hx).1, fun e => ?_⟩⟩
    rcases n _ e with h1 | h1
    · exact (hgf x hx).2 h1
    · have := hg.lt x hx; omega

theorem Rd.create (h : Rd B w0 w p l s rs) (hn : s.ops ≤ 1000000) (nm : ByteArray) (hnm : nm.size ≤ maxLen) {k : Int} {l' : List Ab} {s' : Ds} (hr : createA (beginA l s) nm.data.toList = (k, (l', s'))) :
    Calls Try.prog 25 #[.pointer (some ⟨p, 0, none⟩), .string nm] w fun e w' => e = .returned (.int .i64 k) ∧ Rd B w0 w' p l' s' rs := by
  obtain ⟨fp, d, b, f, hB, hh⟩ := h
  refine (d.create hn nm hnm).mono ?_
  rintro e w' ⟨rfl, o⟩
  rw [hr] at o ⊢
  exact ⟨rfl, Outc.rd o b f hB hh⟩

theorem Rd.append (h : Rd B w0 w p l s rs) (hn : s.ops ≤ 1000000) (nm : ByteArray) (hnm : nm.size ≤ maxLen) (u : Value) (cs : List Int) (hu : (u, cs) ∈ rs) (hcl : cs.length ≤ 1073741824) {k : Int} {l' : List Ab} {s' : Ds} (hr : appendA (beginA l s) nm.data.toList cs = (k, (l', s'))) :
    Calls Try.prog 26 #[.pointer (some ⟨p, 0, none⟩), .string nm, u] w fun e w' => e = .returned (.int .i64 k) ∧ Rd B w0 w' p l' s' rs := by
  obtain ⟨fp, d, b, f, hB, hh⟩ := h
  refine (d.append hn nm hnm u cs (hh _ hu).1.isB hcl (fun _ x hx => ((hh _ hu).2 x hx).2)).mono ?_
  rintro e w' ⟨rfl, o⟩
  rw [hr] at o ⊢
  exact ⟨rfl, Outc.rd o b f hB hh⟩
end

/-- The disk of made, by what it has done. -/
def S7 (used ops : Int) : Ds := { room := 1000, used := used, ops := ops, down := false, left := 0, keep := [] }

theorem mp1 : createA (beginA [] (S7 0 0)) [97] = (0, ([([97], [], [])], S7 0 1)) := by kernel_rfl
theorem mp2 : createA (beginA [([97], [], [])] (S7 0 1)) [98] = (0, ([([97], [], []), ([98], [], [])], S7 0 2)) := by kernel_rfl
theorem mp3 (bs : List Int) (h : bs.length ≤ 300) : appendA (beginA [([97], [], []), ([98], [], [])] (S7 0 2)) [97] bs = (0, ([([97], bs, []), ([98], [], [])], S7 (sec bs.length) 3)) := by
  show writeA [([97], [], []), ([98], [], [])] (S7 0 3) ([97], [], []) 0 bs = _
  unfold writeA
  have h0 : moreA [] 0 bs = sec bs.length := by simp [moreA, sec]
  have h1 : sec bs.length ≤ 19 := by unfold sec; omega
  rw [if_neg (by simp), if_neg (by simp only [S7]; show ¬ 1000 - 0 < moreA [] 0 bs; rw [h0]; omega)]
  show ((0 : Int), (Go.Proofs.Ytbhjdcoehgajcaa.setA [([97], [], []), ([98], [], [])] ([97], putA [] 0 bs, []), { S7 0 3 with used := 0 + moreA [] 0 bs })) = _
  rw [h0]
  simp [Go.Proofs.Ytbhjdcoehgajcaa.setA, putA, S7]
theorem mp4 (cs bs : List Int) (ha : cs.length ≤ 300) (h : bs.length ≤ 300) : appendA (beginA [([97], cs, []), ([98], [], [])] (S7 (sec cs.length) 3)) [98] bs = (0, ([([97], cs, []), ([98], bs, [])], S7 (sec cs.length + sec bs.length) 4)) := by
  show writeA [([97], cs, []), ([98], [], [])] (S7 (sec cs.length) 4) ([98], [], []) 0 bs = _
  unfold writeA
  have h0 : moreA [] 0 bs = sec bs.length := by simp [moreA, sec]
  have h1 : sec bs.length ≤ 19 := by unfold sec; omega
  have h2 : sec cs.length ≤ 19 := by unfold sec; omega
  rw [if_neg (by simp), if_neg (by simp only [S7]; show ¬ 1000 - sec cs.length < moreA [] 0 bs; rw [h0]; omega)]
  show ((0 : Int), (Go.Proofs.Ytbhjdcoehgajcaa.setA [([97], cs, []), ([98], [], [])] ([98], putA [] 0 bs, []), { S7 (sec cs.length) 4 with used := sec cs.length + moreA [] 0 bs })) = _
  rw [h0]
  simp [Go.Proofs.Ytbhjdcoehgajcaa.setA, putA, S7]

/-- What of a row is filled. -/
def partF (f : Nat → Int) (a k : Nat) : List Int := (List.range a).map fun i => if i < k then f i else 0
def allOf (f : Nat → Int) (a : Nat) : List Int := (List.range a).map f
def fA : Nat → Int := fun i => (i : Int) % 256
def fB : Nat → Int := fun i => (7 * (i : Int)) % 256

theorem partF_zero (f : Nat → Int) (a : Nat) : partF f a 0 = zs0 a := by
  unfold partF zs0
  apply List.ext_getElem?
  intro i
  simp only [List.getElem?_map, List.getElem?_replicate]
  by_cases h : i < a <;> simp [h]
theorem partF_all (f : Nat → Int) (a : Nat) : partF f a a = allOf f a := by
  unfold partF allOf
  apply List.map_congr_left
  intro i hi
  rw [if_pos (List.mem_range.1 hi)]
theorem partF_step (f : Nat → Int) (a k : Nat) : (partF f a k).set k (f k) = partF f a (k + 1) := by
  unfold partF
  apply List.ext_getElem?
  intro i
  by_cases h : i < a
  · by_cases e : k = i
    · subst e
      rw [List.getElem?_set_self (by simp [h])]
      simp [h]
    · rw [List.getElem?_set_ne e]
      have : (i < k) = (i < k + 1) := by apply propext; omega
      simp [h, this]
  · rw [List.getElem?_eq_none (by simp; omega), List.getElem?_eq_none (by simp; omega)]
theorem allOf_length (f : Nat → Int) (a : Nat) : (allOf f a).length = a := by simp [allOf]

end Go.Proofs.Ytbhjdcoehgajcaa.L.P

namespace Go.Proofs.Ytbhjdcoehgajcaa.L.P
open Go.RowKit Go.Maps

section
variable {B : Nat} {w0 w : World} {p : Nat} {rs : List (Value × List Int)}
theorem md1 (h : Rd B w0 w p [] (S7 0 0) rs) : Calls Try.prog 25 #[.pointer (some ⟨p, 0, none⟩), .string ⟨#[97]⟩] w fun e w' => e = .returned (.int .i64 0) ∧ Rd B w0 w' p [([97], [], [])] (S7 0 1) rs := h.create (by decide) ⟨#[97]⟩ (strP 97) mp1
theorem md2 (h : Rd B w0 w p [([97], [], [])] (S7 0 1) rs) : Calls Try.prog 25 #[.pointer (some ⟨p, 0, none⟩), .string ⟨#[98]⟩] w fun e w' => e = .returned (.int .i64 0) ∧ Rd B w0 w' p [([97], [], []), ([98], [], [])] (S7 0 2) rs := h.create (by decide) ⟨#[98]⟩ (strP 98) mp2
theorem md3 (h : Rd B w0 w p [([97], [], []), ([98], [], [])] (S7 0 2) rs) (u : Value) (bs : List Int) (hl : bs.length ≤ 300) (hu : (u, bs) ∈ rs) : Calls Try.prog 26 #[.pointer (some ⟨p, 0, none⟩), .string ⟨#[97]⟩, u] w fun e w' => e = .returned (.int .i64 0) ∧ Rd B w0 w' p [([97], bs, []), ([98], [], [])] (S7 (sec bs.length) 3) rs := h.append (by decide) ⟨#[97]⟩ (strP 97) u bs hu (by omega) (mp3 bs hl)
theorem md4 {cs : List Int} (hc : cs.length ≤ 300) (h : Rd B w0 w p [([97], cs, []), ([98], [], [])] (S7 (sec cs.length) 3) rs) (u : Value) (bs : List Int) (hl : bs.length ≤ 300) (hu : (u, bs) ∈ rs) : Calls Try.prog 26 #[.pointer (some ⟨p, 0, none⟩), .string ⟨#[98]⟩, u] w fun e w' => e = .returned (.int .i64 0) ∧ Rd B w0 w' p [([97], cs, []), ([98], bs, [])] (S7 (sec cs.length + sec bs.length) 4) rs := h.append (by simp only [S7]; omega) ⟨#[98]⟩ (strP 98) u bs hu (by omega) (mp4 cs bs hc hl)
end

theorem row_cell {w : World} {g n cap : Nat} {bs : List Int} (h : RowB w (.slice (some ⟨g, 0, none⟩) n cap) bs) (k : Nat) (hk : k < bs.length) : (∃ z : Int, w.cell? ⟨g, k, none⟩ = some (.int .u8 z)) ∧ w.frozen? ⟨g, k, none⟩ = false := by
  rcases h.form with ⟨e, _⟩ | ⟨g', cap', e, o⟩
  · cases e
  · cases e
    have e := World.ownsRow.cells o.1 (g := g) rfl k (.int .u8 bs[k]) (by simp [hk])
    rw [Addr.add_lit] at e
    have f := World.ownsRow.frozenAt o.1 k
    exact ⟨⟨bs[k], by simpa using e⟩, by simpa using f⟩
theorem partF_length (f : Nat → Int) (a k : Nat) : (partF f a k).length = a := by simp [partF]

set_option maxRecDepth 100000 in
set_option maxHeartbeats 1000000 in
theorem made_any (w0 w : World) (a b : Nat) (ha : a ≤ 300) (hb : b ≤ 300) (h0 : Below w0.heap.size w0 w) : Calls Try.prog 10 #[.int .i64 (a : Int), .int .i64 (b : Int)] w fun e w' => ∃ p, e = .returned (.pointer (some ⟨p, 0, none⟩)) ∧ Sd w0.heap.size w0 w' p [([97], allOf fA a, []), ([98], allOf fB b, [])] (S7 (sec a + sec b) 4) := by
  have NW := hide (Sd.new (B := w0.heap.size) (w0 := w0) 1000 (by omega) w h0 h0.size)
  clear h0
  go_enter Try.func10, Try.ntmps10
  go_wp2_with (first | (go_at_call 24; refine NW.out.mono ?_; rintro e w1 ⟨rfl, d1⟩; have D1 : Hid (Sd w0.heap.size w0 w1 (w.heap.size + 1) [] (S7 0 0)) := d1; clear d1) | (at_make; refine wp_makeB _ rfl _ _ rfl a a a rfl rfl rfl rfl (by omega) ?_; intro w3 r3 b3; have R3 : Hid (Rd w0.heap.size w0 w3 (w.heap.size + 1) [] (S7 0 0) [(.slice (some ⟨w1.heap.size, 0, none⟩) a a, partF fA a 0)]) := Rd.made (Sd.rd D1.out) b3 (by rw [partF_zero]; exact r3) own_newP; clear r3 b3))
  go_loopw [7] (fun i wr => ∃ k : Nat, k ≤ a ∧ i = .int .i64 (k : Int) ∧ Hid (Rd w0.heap.size w0 wr (w.heap.size + 1) [] (S7 0 0) [(.slice (some ⟨w1.heap.size, 0, none⟩) a a, partF fA a k)])) (fun i _ => a - (intOf i).toNat)
  case atStart => exact ⟨0, Nat.zero_le _, rfl, R3⟩
  case round =>
    obtain ⟨k, hk, rfl, H⟩ := hrel
    by_cases hlt : k < a
    · obtain ⟨⟨z0, c0⟩, f0⟩ := row_cell (H.out.at (List.mem_singleton.2 rfl)) k (by rw [partF_length]; exact hlt)
      have H2 : Hid (Rd w0.heap.size w0 (wr.setCell ⟨w1.heap.size, k, none⟩ (.int .u8 ((k : Int) % 256))) (w.heap.size + 1) [] (S7 0 0) [(.slice (some ⟨w1.heap.size, 0, none⟩) a a, partF fA a (k + 1))]) := by
        have := H.out.stored (by simp) k ((k : Int) % 256) (by omega)
        rw [show (k : Int) % 256 = fA k from rfl, partF_step] at this
        exact this
      go_wp2_with fail
      go_roundw
      case rel => exact ⟨k + 1, by omega, by simp, H2⟩
      case measure => simp [intOf]; omega
    · obtain rfl : k = a := by omega
      have H3 := H
      obtain ⟨wo, hwo⟩ : ∃ wo, wo = wr := ⟨wr, rfl⟩
      subst hwo
      rw [partF_all] at H3
      clear H
      go_wp2_with (at_make; refine wp_makeB _ rfl _ _ rfl b b b rfl rfl rfl rfl (by omega) ?_; intro w4 r4 b4; have R4 : Hid (Rd w0.heap.size w0 w4 (w.heap.size + 1) [] (S7 0 0) [(.slice (some ⟨wo.heap.size, 0, none⟩) b b, partF fB b 0), (.slice (some ⟨w1.heap.size, 0, none⟩) k k, allOf fA k)]) := Rd.made H3.out b4 (by rw [partF_zero]; exact r4) own_newP; clear r4 b4)
      have hlt1 : w1.heap.size < wo.heap.size := (H3.out.at (List.mem_singleton.2 rfl)).lt _ (by simp [own, Value.ownBlock])
      have HN : Hid (∀ z ∈ [((Value.slice (some ⟨w1.heap.size, 0, none⟩) k k), allOf fA k)], wo.heap.size ∉ own z.1) := by
        show ∀ z ∈ _, _
        intro z hz
        rw [List.mem_singleton.1 hz]
        simp [own, Value.ownBlock]
        omega
      go_loopw [9] (fun i ws => ∃ j : Nat, j ≤ b ∧ i = .int .i64 (j : Int) ∧ Hid (Rd w0.heap.size w0 ws (w.heap.size + 1) [] (S7 0 0) [(.slice (some ⟨wo.heap.size, 0, none⟩) b b, partF fB b j), (.slice (some ⟨w1.heap.size, 0, none⟩) k k, allOf fA k)])) (fun i _ => b - (intOf i).toNat)
      case atStart => exact ⟨0, Nat.zero_le _, rfl, R4⟩
      case round =>
        obtain ⟨j, hj, rfl, G⟩ := hrel
        by_cases hlj : j < b
        · obtain ⟨⟨z0, c0⟩, f0⟩ := row_cell (G.out.at (List.mem_cons_self ..)) j (by rw [partF_length]; exact hlj)
          have G2 : Hid (Rd w0.heap.size w0 (wr.setCell ⟨wo.heap.size, j, none⟩ (.int .u8 ((7 * (j : Int)) % 256))) (w.heap.size + 1) [] (S7 0 0) [(.slice (some ⟨wo.heap.size, 0, none⟩) b b, partF fB b (j + 1)), (.slice (some ⟨w1.heap.size, 0, none⟩) k k, allOf fA k)]) := by
            have := G.out.stored HN.out j ((7 * (j : Int)) % 256) (by omega)
            rw [show (7 * (j : Int)) % 256 = fB j from rfl, partF_step] at this
            exact this
          go_wp2_with fail
          go_roundw
          case rel => exact ⟨j + 1, by omega, by simp, G2⟩
          case measure => simp [intOf]; omega
        · obtain rfl : j = b := by omega
          have G3 := G
          rw [partF_all] at G3
          have LA := hide (allOf_length fA k)
          have LB := hide (allOf_length fB j)
          clear G HN
          go_wp2_with fail
          refine (md1 G3.out).mono ?_
          rintro e w5 ⟨rfl, d5⟩
          have D5 := hide d5
          clear d5 G3
          go_wp2_with fail
          refine (md2 D5.out).mono ?_
          rintro e w6 ⟨rfl, d6⟩
          have D6 := hide d6
          clear d6 D5
          go_wp2_with fail
          refine (md3 D6.out _ (allOf fA k) (by rw [allOf_length]; exact ha) (by simp)).mono ?_
          rintro e w7 ⟨rfl, d7⟩
          have D7 := hide d7
          clear d7 D6
          go_wp2_with fail
          refine (md4 (by rw [allOf_length]; exact ha) D7.out _ (allOf fB j) (by rw [allOf_length]; exact hb) (by simp)).mono ?_
          rintro e w8 ⟨rfl, d8⟩
          rw [LA.out, LB.out] at d8
          have D8 := hide d8
          clear d8 D7
          go_wp2_with fail
          go_ret
          exact ⟨_, rfl, D8.out.sd⟩

end Go.Proofs.Ytbhjdcoehgajcaa.L.P

namespace Go.Proofs.Ytbhjdcoehgajcaa.L.P
open Go.RowKit Go.Maps

/-- A pool of the call's own whose pages are as F tells. -/
def Lg (w0 w : World) (q d : Nat) (fr : Int) (C : List UInt8 → Option (List Int)) (F : List Pg → Prop) (m : Nat) : Prop :=
  ∃ fp o N l s ord gs, Pl w fp q d o fr N l s ord gs ∧ PInv C fr l s ord gs ∧ N ≤ m ∧ s.ops ≤ (m : Int) ∧ F gs ∧ Below w0.heap.size w0 w ∧ ∀ x ∈ fp, w0.heap.size ≤ x

/-- What two files have. -/
def Ct (x y : List Int) : List UInt8 → Option (List Int) := fun nm => if nm = [97] then some x else if nm = [98] then some y else none
theorem Ct_look (x y : List Int) : (fun nm => (DLook [([97], x, []), ([98], y, [])] nm).map fun x => x.2.1) = Ct x y := by
  funext nm
  unfold Ct DLook Go.Proofs.Ytbhjdcoehgajcaa.lookA
  by_cases h : nm = [97]
  · subst h
    rfl
  · rw [if_neg h]
    by_cases h3 : nm = [98]
    · subst h3
      rfl
    · rw [if_neg h3]
      have h2 : ¬ ([97] : List UInt8) = nm := fun e => h e.symm
      have h4 : ¬ ([98] : List UInt8) = nm := fun e => h3 e.symm
      simp [h2, h4]

theorem two_len {x y : List Int} (hx : x.length ≤ 300) (hy : y.length ≤ 300) : ∀ nm z, DLook [([97], x, []), ([98], y, [])] nm = some z → z.2.1.length ≤ 100000 := by
  intro nm z h
  unfold DLook Go.Proofs.Ytbhjdcoehgajcaa.lookA at h
  have := List.mem_of_find?_eq_some h
  simp at this
  rcases this with rfl | rfl
  · show x.length ≤ _; omega
  · show y.length ≤ _; omega

section
variable {w0 w w' : World} {q d : Nat} {fr : Int} {C : List UInt8 → Option (List Int)} {F : List Pg → Prop} {m : Nat} {l : List Ab} {s : Ds} {ord : List (Place × Nat)} {gs : List Pg}

theorem Lg.bel (h : Lg w0 w q d fr C F m) : Below w0.heap.size w0 w := by
  obtain ⟨fp, o, N, l, s, ord, gs, p, i, a1, a2, a3, a5, a6⟩ := h
  exact a5

theorem Lg.new {l : List Ab} {s : Ds} (h : Sd w0.heap.size w0 w d l s) (n : Int) (hup : s.down = false) (hleft : s.left = 0) (hlen : ∀ nm x, DLook l nm = some x → x.2.1.length ≤ 100000) (hm : s.ops ≤ (m : Int)) (hC : (fun nm => (DLook l nm).map fun x => x.2.1) = C) :
    Calls Try.prog 11 #[.pointer (some ⟨d, 0, none⟩), .int .i64 n] w fun e w' => ∃ q, e = .returned (.pointer (some ⟨q, 0, none⟩)) ∧ Lg w0 w' q d (max n 1) C (fun gs => gs = []) m := by
  obtain ⟨fd, hd, b, f, hB⟩ := h
  refine (new_pool hd n).mono ?_
  rintro e w' ⟨q, o, fp, rfl, p, hb, hn⟩
  refine ⟨q, rfl, fp, o, 0, l, s, [], [], p, hC ▸ PInv.new hup hleft hlen, Nat.zero_le _, hm, rfl, b.trans (hb.mono hB), fun x hx => ?_⟩
  rcases hn x hx with u | u
  · exact f x u
  · exact Nat.le_trans hB u

theorem Lg.after {fp : List Nat} {o N : Nat} (i : PInv C fr l s ord gs) (a1 : N ≤ m) (a2 : s.ops ≤ (m : Int)) (a3 : F gs) (a5 : Below w0.heap.size w0 w) (a6 : ∀ x ∈ fp, w0.heap.size ≤ x)
    (h : PlO w w' fp q d o fr N (beginA l s).1 (beginA l s).2 ord gs) : Lg w0 w' q d fr C F (m + 1) := by
  rw [begin_eq i.left] at h
  obtain ⟨fp', p', k, nw⟩ := h
  obtain ⟨s1, s2, s3, s4⟩ := side (hs := []) a5 a6 (by simp) k nw
  exact ⟨fp', o, N, l, _, ord, gs, p', i.begins, by omega, by show s.ops + 1 ≤ _; omega, a3, s1, s2⟩

theorem Lg.read_arg (h : Lg w0 w q d fr C F m) (hm : m ≤ 900000) (nm : ByteArray) (hnm : nm.size ≤ maxLen) {c : List Int} (hc : C nm.data.toList = some c) (at_ n : Int) (hat : at_ ≤ 9223372036854775807) (hb : at_ < 0 ∨ n < 0 ∨ (c.length : Int) - at_ < n) :
    Calls Try.prog 13 #[.pointer (some ⟨q, 0, none⟩), .string nm, .int .i64 at_, .int .i64 n] w fun e w' => e = .returned (.tuple #[.slice none 0 0, .int .i64 1]) ∧ Lg w0 w' q d fr C F (m + 1) := by
  obtain ⟨fp, o, N, l, s, ord, gs, p, i, a1, a2, a3, a5, a6⟩ := h
  have hcl := (i.has _ _ hc).2
  exact readAt_no nm at_ n 1 0 (by decide) ((within_arg p (by omega) nm hnm at_ n (i.sizeOf hc) (by omega) hat hb).mono fun e w' h => ⟨h.1, Lg.after i a1 a2 a3 a5 a6 h.2⟩)

theorem Lg.read_none (h : Lg w0 w q d fr C F m) (hm : m ≤ 900000) (nm : ByteArray) (hnm : nm.size ≤ maxLen) (hc : C nm.data.toList = none) (at_ n : Int) :
    Calls Try.prog 13 #[.pointer (some ⟨q, 0, none⟩), .string nm, .int .i64 at_, .int .i64 n] w fun e w' => e = .returned (.tuple #[.slice none 0 0, .int .i64 4]) ∧ Lg w0 w' q d fr C F (m + 1) := by
  obtain ⟨fp, o, N, l, s, ord, gs, p, i, a1, a2, a3, a5, a6⟩ := h
  exact readAt_no nm at_ n 4 0 (by decide) ((within_err p (by omega) nm hnm at_ n (i.noSize hc) (by decide)).mono fun e w' h => ⟨h.1, Lg.after i a1 a2 a3 a5 a6 h.2⟩)

theorem Lg.write_none (h : Lg w0 w q d fr C F m) (hm : m ≤ 900000) (nm : ByteArray) (hnm : nm.size ≤ maxLen) (hc : C nm.data.toList = none) (at_ : Int) (ua : Option Addr) (n uc : Nat) :
    Calls Try.prog 14 #[.pointer (some ⟨q, 0, none⟩), .string nm, .int .i64 at_, .slice ua n uc] w fun e w' => e = .returned (.int .i64 4) ∧ Lg w0 w' q d fr C F (m + 1) := by
  obtain ⟨fp, o, N, l, s, ord, gs, p, i, a1, a2, a3, a5, a6⟩ := h
  have b0 : Below w.heap.size w (w.alloc (.cells #[.slice ua n uc] 28)) := (Below.refl _ w).alloc (Nat.le_refl _) _
  exact writeAt_no nm at_ 4 0 ua n uc (by decide) ((within_err (p.below b0) (by omega) nm hnm at_ n (i.noSize hc) (by decide)).mono fun e w' h => ⟨h.1, Lg.after i a1 a2 a3 (a5.trans (b0.mono a5.size)) a6 h.2⟩)

theorem no_starts (i : PInv C fr l s ord gs) {nm : ByteArray} (hc : C nm.data.toList = none) {zs : List Int} (hz : ∀ z, z ∈ zs ↔ ∃ g ∈ gs, g.key.1.1 = nm ∧ g.key.1.2 = z) : zs = [] := by
  cases zs with
  | nil => rfl
  | cons z zs =>
    obtain ⟨g, hg, e, _⟩ := (hz z).1 (List.mem_cons_self ..)
    obtain ⟨c, j, hc2, _⟩ := i.page g hg
    rw [e, hc] at hc2
    cases hc2

theorem Lg.flush_none (h : Lg w0 w q d fr C F m) (hm : m ≤ 800000) (hfr : fr ≤ 100000) (nm : ByteArray) (hc : C nm.data.toList = none) :
    Calls Try.prog 15 #[.pointer (some ⟨q, 0, none⟩), .string nm] w fun e w' => e = .returned (.int .i64 0) ∧ Lg w0 w' q d fr C F (m + fr.toNat) := by
  obtain ⟨fp, o, N, l, s, ord, gs, p, i, a1, a2, a3, a5, a6⟩ := h
  obtain ⟨f1, f2, f3⟩ := p.facts
  have ct := i.count f2 f3
  have hl := i.len
  refine (flush_any p i (by omega) (by omega) nm).mono ?_
  rintro e w' ⟨rfl, l', s', zs, hz, ⟨fp', p', k, nw⟩, i', o1, o2⟩
  obtain ⟨s1, s2, s3, s4⟩ := side (hs := []) a5 a6 (by simp) k nw
  rw [no_starts i hc hz, cleanL_nil] at p' i'
  exact ⟨rfl, fp', o, N, l', s', ord, gs, p', i', by omega, by omega, a3, s1, s2⟩

theorem Lg.drop_none (h : Lg w0 w q d fr C F m) (hfr : fr ≤ 100000) (nm : ByteArray) (hc : C nm.data.toList = none) :
    Calls Try.prog 19 #[.pointer (some ⟨q, 0, none⟩), .string nm] w fun e w' => e = .returned (.tuple #[]) ∧ Lg w0 w' q d fr C F m := by
  obtain ⟨fp, o, N, l, s, ord, gs, p, i, a1, a2, a3, a5, a6⟩ := h
  obtain ⟨f1, f2, f3⟩ := p.facts
  have ct := i.count f2 f3
  have hl := i.len
  refine (drop_pool p i (by omega) nm).mono ?_
  rintro e w' ⟨rfl, zs, hz, fp', p', k, nw⟩
  obtain ⟨s1, s2, s3, s4⟩ := side (hs := []) a5 a6 (by simp) k nw
  rw [no_starts i hc hz] at p'
  have e1 : lessP nm [] gs = gs := by simp [lessP]
  have e2 : lessO nm [] ord = ord := by simp [lessO]
  rw [e1, e2] at p'
  exact ⟨rfl, fp', o, N, l, s, ord, gs, p', i, a1, a2, a3, s1, s2⟩

theorem Lg.resident0 (h : Lg w0 w q d fr C (fun gs => gs = []) m) : Calls Try.prog 17 #[.pointer (some ⟨q, 0, none⟩)] w fun e w' => e = .returned (.int .i64 0) ∧ w' = w := by
  obtain ⟨fp, o, N, l, s, ord, gs, p, i, a1, a2, rfl, a5, a6⟩ := h
  exact resident_any p

/-- Nothing is read. -/
theorem Lg.read0 (h : Lg w0 w q d fr C F m) (hm : m ≤ 900000) (nm : ByteArray) (hnm : nm.size ≤ maxLen) {c : List Int} (hc : C nm.data.toList = some c) (hfr : fr ≤ 100000) :
    Calls Try.prog 13 #[.pointer (some ⟨q, 0, none⟩), .string nm, .int .i64 0, .int .i64 0] w fun e w' => ∃ a u, e = .returned (.tuple #[.slice a 0 u, .int .i64 0]) ∧ Lg w0 w' q d fr C (fun _ => True) (m + 127) := by
  obtain ⟨fp, o, N, l, s, ord, gs, p, i, a1, a2, a3, a5, a6⟩ := h
  refine (readAt_ok p i nm hnm hc hfr 0 0 (by omega) (by omega) (by omega)).mono ?_
  rintro e w' ⟨v, rfl, r, fp', N', l', s', ord', gs', p', i', n', o', k, nw, ne, ov⟩
  obtain ⟨s1, s2, s3, s4⟩ := side (hs := []) a5 a6 (by simp) k nw
  obtain ⟨a, u, rfl, _⟩ := r.isB.form
  exact ⟨a, u, rfl, fp', o, N', l', s', ord', gs', p', i', by omega, by omega, trivial, s1, s2⟩
end

end Go.Proofs.Ytbhjdcoehgajcaa.L.P

namespace Go.Proofs.Ytbhjdcoehgajcaa.L.P
open Go.RowKit Go.Maps

section
variable {w w' : World} {fp : List Nat} {q d o : Nat} {fr : Int} {N : Nat} {l : List Ab} {s : Ds} {ord : List (Place × Nat)} {gs : List Pg}

/-- Behind something done with the disk. -/
theorem Pl.disk {A : List Ab × Ds} {fd fo : List Nat} {bm : Nat} (h2 : Ck kP w fo o fr N ord) (h3 : PoolAt w q d o bm gs) (a1 : ∀ x ∈ fd, x ∉ fo) (a2 : ∀ x ∈ fd, x ∉ pfeet q bm gs) (a3 : ∀ x ∈ fo, x ∉ pfeet q bm gs) (h : Go.Proofs.Ytbhjdcoehgajcaa.Outc w w' fd d A) : PlO w w' (fd ++ (fo ++ pfeet q bm gs)) q d o fr N A.1 A.2 ord gs := by
  obtain ⟨fd', d', k, n⟩ := h
  refine ⟨fd' ++ (fo ++ pfeet q bm gs), ⟨fd', fo, bm, d', h2.kept k (fun x hx e => a1 x e hx), h3.kept k (fun x hx e => a2 x e hx), rfl, fun x hx e => ?_, fun x hx e => ?_, a3⟩, k.mono (by intro x hx; simp [hx]), fun x hx => ?_⟩
  · rcases n x hx with q | q
    · exact a1 x q e
    · have := h2.lt x e; omega
  · rcases n x hx with q | q
    · exact a2 x q e
    · have := h3.lt x e; omega
  · simp only [List.mem_append] at hx ⊢
    rcases hx with hx | hx
    · exact (n x hx).imp .inl id
    · exact .inl (.inr hx)

theorem Pl.sync (h : Pl w fp q d o fr N l s ord gs) (hn : s.ops ≤ 1000000) (nm : ByteArray) (hnm : nm.size ≤ maxLen) {x : Ab} (he : errA (beginA l s) nm.data.toList = none) (hx : DLook (beginA l s).1 nm.data.toList = some x) :
    Calls Try.prog 21 #[.pointer (some ⟨d, 0, none⟩), .string nm] w fun e w' => e = .returned (.int .i64 0) ∧ PlO w w' fp q d o fr N (DSet (beginA l s).1 (x.1, x.2.1, x.2.1)) (beginA l s).2 ord gs := by
  obtain ⟨fd, fo, bm, h1, h2, h3, rfl, a1, a2, a3⟩ := h
  refine (h1.sync_ok hn nm hnm he hx).mono ?_
  rintro e w' ⟨rfl, o1⟩
  exact ⟨rfl, Pl.disk h2 h3 a1 a2 a3 o1⟩

/-- Crash of a disk, nothing kept that was not synced. -/
theorem Pl.crash (h : Pl w fp q d o fr N l s ord gs) (hn : s.ops ≤ 1048576) :
    Calls Try.prog 22 #[.pointer (some ⟨d, 0, none⟩), .slice none 0 0] w fun e w' => e = .returned (.tuple #[]) ∧ PlO w w' fp q d o fr N (crashA [] l s).1 (crashA [] l s).2 ord gs := by
  obtain ⟨fd, fo, bm, h1, h2, h3, rfl, a1, a2, a3⟩ := h
  refine (h1.crash hn _ [] (IsK.nil _) (fun h => absurd rfl h) (Nat.zero_le _)).mono ?_
  rintro e w' ⟨rfl, o1⟩
  exact ⟨rfl, Pl.disk h2 h3 a1 a2 a3 o1⟩

theorem Pl.restart (h : Pl w fp q d o fr N l s ord gs) :
    Calls Try.prog 23 #[.pointer (some ⟨d, 0, none⟩)] w fun e w' => e = .returned (.tuple #[]) ∧ PlO w w' fp q d o fr N l { s with down := false } ord gs := by
  obtain ⟨fd, fo, bm, h1, h2, h3, rfl, a1, a2, a3⟩ := h
  refine h1.restart.mono ?_
  rintro e w' ⟨rfl, o1⟩
  exact ⟨rfl, Pl.disk h2 h3 a1 a2 a3 o1⟩
end

end Go.Proofs.Ytbhjdcoehgajcaa.L.P

namespace Go.Proofs.Ytbhjdcoehgajcaa.L.P
open Go.RowKit Go.Maps

theorem allOf_snoc (f : Nat → Int) (k : Nat) : allOf f k ++ [f k] = allOf f (k + 1) := by simp [allOf, List.range_succ]

/-- Rows of the call's own, all of whose blocks are new. -/
structure Two (w wr : World) (vx vy : Value) (x y : List Int) : Prop where
  rx : RowB wr vx x
  ry : RowB wr vy y
  bel : Below w.heap.size w wr
  nx : ∀ b ∈ own vx, w.heap.size ≤ b
  ny : ∀ b ∈ own vy, w.heap.size ≤ b
  ap : ∀ b ∈ own vx, b ∉ own vy

theorem Two.swap {w wr : World} {vx vy : Value} {x y : List Int} (h : Two w wr vx vy x y) : Two w wr vy vx y x := ⟨h.ry, h.rx, h.bel, h.ny, h.nx, fun b h1 h2 => h.ap b h2 h1⟩

theorem Two.grow {w wr w' : World} {vx vy v' : Value} {x y x' : List Int} {z : Int} (h : Two w wr vx vy x y) (r : RowB w' v' x') (k : Kept (own vx) (wr.alloc (.cells #[.int .u8 z] 5)) w') (n : Newly (wr.alloc (.cells #[.int .u8 z] 5)) (own vx) (own v')) : Two w w' v' vy x' y := by
  have b0 : Below wr.heap.size wr (wr.alloc (.cells #[.int .u8 z] 5)) := (Below.refl _ wr).alloc (Nat.le_refl _) _
  have hs := b0.size
  have hb := h.bel.size
  have hlt : ∀ b ∈ own vy, b < wr.heap.size := fun b hb => h.ry.lt b hb
  refine ⟨r, (h.ry.kept (fp := []) (Kept.of_below b0) (by simp)).kept k (fun b hb hb' => h.ap b hb' hb), (h.bel.trans (b0.mono hb)).trans (k.below (by omega) h.nx), fun b hb' => ?_, h.ny, fun b hb' hy => ?_⟩
  · rcases n b hb' with u | u
    · exact h.nx b u
    · omega
  · rcases n b hb' with u | u
    · exact h.ap b u hy
    · have := hlt b hy
      omega

set_option maxRecDepth 100000 in
set_option maxHeartbeats 2000000 in
theorem bytes_any (w : World) (a b : Nat) (ha : a ≤ 300) (hb : b ≤ 300) :
    Calls Try.prog 12 #[.int .i64 a, .int .i64 b] w fun e w' => ∃ vx vy, e = .returned (.tuple #[vx, vy]) ∧ Two w w' vx vy (allOf fA a) (allOf fB b) := by
  have T0 : Hid (Two w w (.slice none 0 0) (.slice none 0 0) (allOf fA 0) (allOf fB 0)) := ⟨RowB.nil w, RowB.nil w, Below.refl _ _, by simp [own, Value.ownBlock], by simp [own, Value.ownBlock], by simp [own, Value.ownBlock]⟩
  go_enter Try.func12, Try.ntmps12
  go_wp2
  go_loopw [6, 8] (fun vx vi wr => ∃ i : Nat, vi = .int .i64 i ∧ i ≤ a ∧ Hid (Two w wr vx (.slice none 0 0) (allOf fA i) (allOf fB 0))) (fun _ vi _ => a - (intOf vi).toNat)
  case atStart => exact ⟨0, by first | rfl | go_num, Nat.zero_le _, T0⟩
  case round =>
    obtain ⟨i, rfl, hi, TI⟩ := hrel
    have hw1 : IntKind.i64.wrap ((i : Int) + 1) = (i : Int) + 1 := i64_small _ (by omega) (by omega)
    by_cases hia : i < a
    · have hia' : (i : Int) < (a : Int) := by omega
      have hz : Hid (0 ≤ fA i ∧ fA i ≤ 255) := by show _ ∧ _; unfold fA; omega
      obtain ⟨z, hzz⟩ : ∃ z, z = fA i := ⟨_, rfl⟩
      have hcv : (i : Int) % 256 = z := by rw [hzz]; rfl
      have hcw : IntKind.u8.wrap (i : Int) = z := by rw [hzz, IntKind.wrap_u8]; rfl
      have HZ := hide hzz
      have I1 : Hid (IsB (wr.alloc (.cells #[.int .u8 z] 5)) (.slice (some ⟨wr.heap.size, 0, none⟩) 1 1) [z]) := isB_new wr [z] (0, 0) (by intro y hy; simp at hy; rw [hy, hzz]; exact hz.out)
      have R1 : Hid (RowB (wr.alloc (.cells #[.int .u8 z] 5)) u6 (allOf fA i)) := TI.out.rx.kept (fp := []) (Kept.of_below ((Below.refl _ wr).alloc (Nat.le_refl _) _)) (by simp)
      clear hzz
      go_wp2_with (at_builtin; refine wp_appendR _ rfl (.tmp 15) (.tmp 18) rfl u6 (.slice (some ⟨wr.heap.size, 0, none⟩) 1 1) (allOf fA i) [z] rfl R1.out rfl I1.out (by rw [allOf_length]; simp; omega) ?_; intro v' w' r' k' n' _; have T1 := hide (TI.out.grow r' k' n'); clear r' k' n')
      go_roundw
      case rel =>
        refine ⟨i + 1, by go_num, by omega, ?_⟩
        have := T1.out
        rw [HZ.out, allOf_snoc] at this
        exact this
      case measure => simp [intOf]; omega
    · obtain rfl : i = a := by omega
      obtain ⟨wo, hwo⟩ : ∃ wo, wo = wr := ⟨_, rfl⟩
      subst hwo
      obtain ⟨vx, hvx⟩ : ∃ vx, vx = u6 := ⟨_, rfl⟩
      subst hvx
      go_wp2
      go_loopw [7, 9] (fun vy vi wr => ∃ j : Nat, vi = .int .i64 j ∧ j ≤ b ∧ Hid (Two w wr vx vy (allOf fA i) (allOf fB j))) (fun _ vi _ => b - (intOf vi).toNat)
      case atStart => exact ⟨0, by first | rfl | go_num, Nat.zero_le _, TI⟩
      case round =>
        obtain ⟨j, rfl, hj, TJ⟩ := hrel
        have hw2 : IntKind.i64.wrap ((j : Int) + 1) = (j : Int) + 1 := i64_small _ (by omega) (by omega)
        have hw3 : IntKind.i64.wrap (7 * (j : Int)) = 7 * (j : Int) := i64_small _ (by omega) (by omega)
        by_cases hjb : j < b
        · have hjb' : (j : Int) < (b : Int) := by omega
          have hz : Hid (0 ≤ fB j ∧ fB j ≤ 255) := by show _ ∧ _; unfold fB; omega
          obtain ⟨z, hzz⟩ : ∃ z, z = fB j := ⟨_, rfl⟩
          have hcv : (7 * (j : Int)) % 256 = z := by rw [hzz]; rfl
          have hcw : IntKind.u8.wrap (7 * (j : Int)) = z := by rw [hzz, IntKind.wrap_u8]; rfl
          have HZ := hide hzz
          have I1 : Hid (IsB (wr.alloc (.cells #[.int .u8 z] 5)) (.slice (some ⟨wr.heap.size, 0, none⟩) 1 1) [z]) := isB_new wr [z] (0, 0) (by intro y hy; simp at hy; rw [hy, hzz]; exact hz.out)
          have R1 : Hid (RowB (wr.alloc (.cells #[.int .u8 z] 5)) u7 (allOf fB j)) := TJ.out.ry.kept (fp := []) (Kept.of_below ((Below.refl _ wr).alloc (Nat.le_refl _) _)) (by simp)
          clear hzz
          go_wp2_with (at_builtin; refine wp_appendR _ rfl (.tmp 25) (.tmp 29) rfl u7 (.slice (some ⟨wr.heap.size, 0, none⟩) 1 1) (allOf fB j) [z] rfl R1.out rfl I1.out (by rw [allOf_length]; simp; omega) ?_; intro v' w' r' k' n' _; have T1 := hide (TJ.out.swap.grow r' k' n').swap; clear r' k' n')
          go_roundw
          case rel =>
            refine ⟨j + 1, by go_num, by omega, ?_⟩
            have := T1.out
            rw [HZ.out, allOf_snoc] at this
            exact this
          case measure => simp [intOf]; omega
        · obtain rfl : j = b := by omega
          go_wp2
          go_ret2
          exact ⟨_, _, rfl, TJ.out⟩

end Go.Proofs.Ytbhjdcoehgajcaa.L.P

namespace Go.Proofs.Ytbhjdcoehgajcaa.L.P
open Go.ChangeShapes Go.WideShapes Go.ChangeAt Go.RowKit Go.Joins Go.Deep Go.Maps

/-- A step: Kind, At, N, Other, Data (a slice, and its bytes). -/
structure St where
  kind : Int
  at_ : Int
  n : Int
  other : Bool
  da : Option Addr
  dn : Nat
  dc : Nat
  bs : List Int

/-- Its five cells. -/
def St.cells (s : St) : List Value := [.int .i64 s.kind, .int .i64 s.at_, .int .i64 s.n, .bool s.other, .slice s.da s.dn s.dc]

/-- What is known of a step that came in. -/
structure St.ok (w : World) (s : St) : Prop where
  k0 : -9223372036854775808 ≤ s.kind ∧ s.kind ≤ 9223372036854775807
  a0 : -9223372036854775808 ≤ s.at_ ∧ s.at_ ≤ 9223372036854775807
  n0 : -9223372036854775808 ≤ s.n ∧ s.n ≤ 9223372036854775807
  len : s.dn = s.bs.length
  row : IsB w (.slice s.da s.dn s.dc) s.bs

/-- The slice v holds these steps. -/
def IsS (w : World) (v : Value) (ss : List St) : Prop :=
  ∃ (a : Option Addr) (cap : Nat), v = .slice a ss.length cap ∧ (a = none → ss = []) ∧
    (∀ x, a = some x → ∀ j (h : j < ss.length) i u, (ss[j].cells)[i]? = some u → w.cell? (x.add (j * 5 + i)) = some u) ∧ ∀ s ∈ ss, s.ok w

theorem trod_struct5 {H : Type} {enc : TypeId × Value → H} {P : Program} {w : World} {base : Nat} {spare : Nat → Bool} {held : Bool} {t : TypeId} {f0 f1 f2 f3 f4 : Field} {fuel : Nat} {cs : List Value} {x : DataW H × List MemPlace} (ht : P.underlying t = some (.struct #[f0, f1, f2, f3, f4])) (h : DataW.trod enc P w base spare held fuel t cs = some x) :
    ∃ y0 y1 y2 y3 y4 n, cs.length = P.cellsOf t ∧
      DataW.trod enc P w base spare held n f0.type ((cs.drop f0.offset).take (P.cellsOf f0.type)) = some y0 ∧
      DataW.trod enc P w base spare held n f1.type ((cs.drop f1.offset).take (P.cellsOf f1.type)) = some y1 ∧
      DataW.trod enc P w base spare held n f2.type ((cs.drop f2.offset).take (P.cellsOf f2.type)) = some y2 ∧
      DataW.trod enc P w base spare held n f3.type ((cs.drop f3.offset).take (P.cellsOf f3.type)) = some y3 ∧
      DataW.trod enc P w base spare held n f4.type ((cs.drop f4.offset).take (P.cellsOf f4.type)) = some y4 := by
  obtain ⟨xs, n, _, rfl, hl, hlen, hf⟩ := DataW.trod_struct ht h
  match xs, hlen with
  | [y0, y1, y2, y3, y4], _ => exact ⟨y0, y1, y2, y3, y4, n, hl, by simpa using hf 0 f0 rfl, by simpa using hf 1 f1 rfl, by simpa using hf 2 f2 rfl, by simpa using hf 3 f3 rfl, by simpa using hf 4 f4 rfl⟩

theorem cellsStep : Try.prog.cellsOf 32 = 5 := by kernel_rfl
theorem cellsInt : Try.prog.cellsOf 3 = 1 := by kernel_rfl
theorem cellsBool : Try.prog.cellsOf 4 = 1 := by kernel_rfl
theorem cellsBytes : Try.prog.cellsOf 28 = 1 := by kernel_rfl

/-- A step that came in. -/
theorem stepIn {H : Type} {enc : TypeId × Value → H} {W : World} {held : Bool} {fuel : Nat} {cs : List Value} {x : DataW H × List MemPlace}
    (h : DataW.trod enc Try.prog W 0 (fun _ => true) held fuel 32 cs = some x) : ∃ s : St, cs = s.cells ∧ s.ok W := by
  obtain ⟨y0, y1, y2, y3, y4, n, hl, h0, h1, h2, h3, h4⟩ := trod_struct5 Try.underlying32 h
  rw [cellsStep] at hl
  simp only [cellsInt, cellsBool, cellsBytes] at h0 h1 h2 h3 h4
  match cs, hl with
  | [c0, c1, c2, c3, c4], _ =>
    obtain ⟨k, e0, _, w0⟩ := DataW.trod_int Try.underlying3 h0
    obtain ⟨a, e1, _, w1⟩ := DataW.trod_int Try.underlying3 h1
    obtain ⟨m, e2, _, w2⟩ := DataW.trod_int Try.underlying3 h2
    obtain ⟨b, e3, _⟩ := DataW.trod_bool Try.underlying4 h3
    simp at e0 e1 e2 e3
    subst e0 e1 e2 e3
    rcases open_ints Try.underlying28 Try.underlying5 (by kernel_rfl) h4 with ⟨hcs, _⟩ | ⟨y, l, c, zs, hcs, _, hl2, hm2, hz, _, hcell, hwz⟩
    · simp at hcs
      subst hcs
      exact ⟨⟨k, a, m, b, none, 0, 0, []⟩, rfl, bounds_i64 w0, bounds_i64 w1, bounds_i64 w2, rfl, IsB.nil W⟩
    · simp at hcs
      subst hcs
      simp only [if_true] at hz
      have e : (zs.take l).length = l := by simp; omega
      refine ⟨⟨k, a, m, b, some y, l, c, zs.take l⟩, rfl, bounds_i64 w0, bounds_i64 w1, bounds_i64 w2, e.symm, some y, c, by simp only [e], by simp only [e]; exact hl2, by simp, fun q hq j hj => ?_, fun z hz => bounds_u8 (hwz z (List.mem_of_mem_take hz))⟩
      simp only [Option.some.injEq] at hq
      subst hq
      simp only [e] at hj
      rw [hcell j (by omega), List.getElem?_take_of_lt hj]
      rfl

theorem stepsIn06 {H : Type} {enc : TypeId × Value → H} {W : World} {held : Bool} {fuel : Nat} {cs : List Value} {x : DataW H × List MemPlace}
    (h : DataW.trod enc Try.prog W 0 (fun _ => true) held fuel 22 cs = some x) : ∃ a len cap ss, cs = [.slice a len cap] ∧ IsS W (.slice a len cap) ss ∧ ss.length = len ∧ len ≤ maxLen := by
  rcases open_slice Try.underlying22 h with ⟨rfl, _⟩ | ⟨a, len, cap, m, n, D, Pl, rfl, hb, hl, hm, hmm, _, hx⟩
  · exact ⟨none, 0, 0, [], rfl, ⟨none, 0, rfl, fun _ => rfl, by simp, by simp⟩, rfl, by unfold maxLen; omega⟩
  · rw [cellsStep] at hx
    have hlm : len ≤ m := by rw [hmm]; split <;> omega
    have key : ∀ i, i < len → ∃ s : St, W.cells? 0 (a.add (i * 5)) 5 = some s.cells ∧ s.ok W := fun i hi => by
      obtain ⟨cs', h1, h2⟩ := hx i (by omega)
      obtain ⟨s, rfl, hs⟩ := stepIn h2
      exact ⟨s, h1, hs⟩
    obtain ⟨E, hE⟩ : ∃ E : Nat → St, ∀ i, i < len → W.cells? 0 (a.add (i * 5)) 5 = some (E i).cells ∧ (E i).ok W := ⟨fun i => if hi : i < len then Classical.choose (key i hi) else ⟨0, 0, 0, false, none, 0, 0, []⟩, fun i hi => by simp only [hi, dif_pos]; exact Classical.choose_spec (key i hi)⟩
    have hlen : ((List.range len).map E).length = len := by simp
    refine ⟨some a, len, cap, (List.range len).map E, rfl, ⟨some a, cap, by rw [hlen], by simp, fun x hx j hj i u hu => ?_, fun e he => ?_⟩, hlen, by omega⟩
    · simp only [Option.some.injEq] at hx
      subst hx
      rw [hlen] at hj
      simp only [List.getElem_map, List.getElem_range] at hu
      obtain ⟨_, _, hc⟩ := World.cells?_some (hE j hj).1
      have hi : i < 5 := by have := (List.getElem?_eq_some_iff.1 hu).1; simpa [St.cells] using this
      have := hc i hi
      rw [add_add, hu] at this
      exact this
    · simp only [List.mem_map, List.mem_range] at he
      obtain ⟨i, hi, rfl⟩ := he
      exact (hE i hi).2

theorem St.ok.below {w w' : World} {s : St} (h : s.ok w) (hb : Below w.heap.size w w') : s.ok w' := ⟨h.k0, h.a0, h.n0, h.len, h.row.below hb⟩

/-- A step, read in a later world. -/
theorem IsS.read {w0 w : World} {a : Option Addr} {n cap : Nat} {ss : List St} (h : IsS w0 (.slice a n cap) ss) (hb : Below w0.heap.size w0 w) (j : Nat) (hj : j < ss.length) :
    ∃ b off, a = some ⟨b, off, none⟩ ∧ w.cell? ⟨b, off + j * 5, none⟩ = some (.int .i64 ss[j].kind) ∧ w.cell? ⟨b, off + j * 5 + 1, none⟩ = some (.int .i64 ss[j].at_) ∧ w.cell? ⟨b, off + j * 5 + 2, none⟩ = some (.int .i64 ss[j].n) ∧
      w.cell? ⟨b, off + j * 5 + 3, none⟩ = some (.bool ss[j].other) ∧ w.cell? ⟨b, off + j * 5 + 4, none⟩ = some (.slice ss[j].da ss[j].dn ss[j].dc) := by
  obtain ⟨a', cap', e, h1, h2, h3⟩ := h
  simp only [Value.slice.injEq] at e
  obtain ⟨rfl, rfl, rfl⟩ := e
  cases a with
  | none => rw [h1 rfl] at hj; simp at hj
  | some x =>
    obtain ⟨b, off, spot⟩ := x
    have g : ∀ i u, (ss[j].cells)[i]? = some u → w.cell? ((⟨b, off, spot⟩ : Addr).add (j * 5 + i)) = some u := fun i u hu => by
      have := h2 _ rfl j hj i u hu
      have hlt := World.block_lt_of_cell? w0 _ this
      rw [World.cell?_of_block (w := w0) (hb.block _ hlt)]
      exact this
    have hc := h2 _ rfl 0 (by omega) 0 _ rfl
    have hspot : spot = none := by simpa [Addr.add] using World.cell?_spot hc
    subst hspot
    have g0 := g 0 _ rfl
    have g1 := g 1 _ rfl
    have g2 := g 2 _ rfl
    have g3 := g 3 _ rfl
    have g4 := g 4 _ rfl
    rw [Addr.add_lit] at g0 g1 g2 g3 g4
    exact ⟨b, off, rfl, g0, g1, g2, g3, g4⟩

theorem IsS.ok {w0 : World} {v : Value} {ss : List St} (h : IsS w0 v ss) (j : Nat) (hj : j < ss.length) : ss[j].ok w0 := by
  obtain ⟨a', cap', e, h1, h2, h3⟩ := h
  exact h3 _ (List.getElem_mem hj)

end Go.Proofs.Ytbhjdcoehgajcaa.L.P

namespace Go.Proofs.Ytbhjdcoehgajcaa.L.P
open Go.RowKit Go.Maps

/-- One of two, by a truth. -/
abbrev sel {α : Type} (o : Bool) (a b : α) : α := if o = true then b else a
/-- The two files' names. -/
def nmO (o : Bool) : ByteArray := sel o ⟨#[97]⟩ ⟨#[98]⟩
theorem nmO_size (o : Bool) : (nmO o).size ≤ maxLen := by cases o <;> exact strP _
theorem Ct_sel (o : Bool) (x y : List Int) : Ct x y (nmO o).data.toList = some (sel o x y) := by cases o <;> rfl
/-- Two, of which one is another. -/
abbrev upA (o : Bool) (x c : List Int) : List Int := sel o c x
theorem Ct_put (o : Bool) (x y c : List Int) : putC (Ct x y) (nmO o).data.toList c = Ct (sel o c x) (sel o y c) := by
  funext z
  cases o
  · show (if z = [97] then some c else Ct x y z) = Ct c y z
    unfold Ct
    split <;> rfl
  · show (if z = [98] then some c else Ct x y z) = Ct x c z
    unfold Ct
    by_cases h : z = [97]
    · subst h
      rfl
    · rw [if_neg h, if_neg h]
      split <;> rfl

theorem Beside.heap {hs : List Nat} {w w' : World} (h : Beside hs w w') {b : Nat} {ob : Obj} (hb : b ∈ hs) (hw : w.heap[b]? = some ob) : w'.heap[b]? = some ob := by
  obtain ⟨fp, k, n⟩ := h
  exact k.heap hw (n b hb)

/-- A part of a slice. -/
theorem IsB.part {w : World} {a : Option Addr} {L c : Nat} {bs : List Int} (h : IsB w (.slice a L c) bs) {p n : Nat} (hp : p + n ≤ L) : IsB w (.slice (if c - p = 0 then a else a.map fun z => z.add p) n (c - p)) ((bs.drop p).take n) := by
  obtain ⟨a', c', e, h1, h2, h3, h4⟩ := h
  simp only [Value.slice.injEq] at e
  obtain ⟨rfl, rfl, rfl⟩ := e
  have hl : ((bs.drop p).take n).length = n := by simp; omega
  have hz : ∀ z ∈ (bs.drop p).take n, 0 ≤ z ∧ z ≤ 255 := fun z hz => h4 z (List.mem_of_mem_drop (List.mem_of_mem_take hz))
  cases a with
  | none =>
    obtain ⟨rfl, rfl⟩ := h2 rfl
    simp at hp
    obtain ⟨rfl, rfl⟩ := hp
    exact ⟨none, 0, by simp, by simp, fun _ => by simp, by simp, by simp⟩
  | some x =>
    split
    · rename_i hc
      have hn : n = 0 := by omega
      subst hn
      exact ⟨some x, c - p, by simp, by simp, by simp, by simp, by simp⟩
    · refine ⟨some (x.add p), c - p, by simp [hl], by rw [hl]; omega, by simp, fun y hy j hj => ?_, hz⟩
      simp only [Option.some.injEq] at hy
      subst hy
      rw [hl] at hj
      have := h3 x rfl (p + j) (by omega)
      rw [Go.Deep.add_add, this, List.getElem?_take_of_lt hj, List.getElem?_drop]

/-- A pool of the law's own, by what its files have (px, py); the law's rows va, vb, which have x, y; blocks bx that are held beside them. -/
structure Kp (w0 w : World) (bx : List Nat) (q d : Nat) (fr : Int) (va vb : Value) (x y px py : List Int) (D : List UInt8 → Prop) (m : Nat) : Prop where
  pool : Lp w0 w (own va ++ (own vb ++ bx)) q d fr (Ct px py) D False m
  ra : RowB w va x
  rb : RowB w vb y
  ap : ∀ b ∈ own va, b ∉ own vb
  bxa : ∀ b ∈ bx, b ∉ own va ∧ b ∉ own vb
  newa : ∀ b ∈ own va, w0.heap.size ≤ b
  newb : ∀ b ∈ own vb, w0.heap.size ≤ b

section
variable {w0 w w' : World} {bx : List Nat} {q d : Nat} {fr : Int} {va vb : Value} {x y px py : List Int} {D : List UInt8 → Prop} {m : Nat}

theorem Kp.next (h : Kp w0 w bx q d fr va vb x y px py D m) {px' py' : List Int} {D' : List UInt8 → Prop} {m' : Nat} (hl : Lp w0 w' (own va ++ (own vb ++ bx)) q d fr (Ct px' py') D' False m') (hb : Beside (own va ++ (own vb ++ bx)) w w') : Kp w0 w' bx q d fr va vb x y px' py' D' m' :=
  ⟨hl, hb.row h.ra (by intro z hz; simp [hz]), hb.row h.rb (by intro z hz; simp [hz]), h.ap, h.bxa, h.newa, h.newb⟩

theorem Kp.below (h : Kp w0 w bx q d fr va vb x y px py D m) (hb : Below w.heap.size w w') : Kp w0 w' bx q d fr va vb x y px py D m :=
  ⟨h.pool.below hb, h.ra.kept (fp := []) (Kept.of_below hb) (by simp), h.rb.kept (fp := []) (Kept.of_below hb) (by simp), h.ap, h.bxa, h.newa, h.newb⟩

theorem Kp.start {E : Prop} (h : Lp w0 w [] q d fr (Ct px py) D E m) (t : Two w w' va vb px py) : Kp w0 w' [] q d fr va vb px py px py D m := by
  have hb := h.bel.size
  obtain ⟨fp, o, N, l, s, ord, gs, p, i, a1, a2, a3, a4, a5, a6, a7⟩ := h.hold t.bel (own va ++ own vb) (fun z hz => by
    rcases List.mem_append.1 hz with u | u
    · exact ⟨t.nx z u, t.rx.lt z u⟩
    · exact ⟨t.ny z u, t.ry.lt z u⟩)
  exact ⟨⟨fp, o, N, l, s, ord, gs, p, i, a1, a2, a3, False.elim, a5, a6, fun z hz => a7 z (by simpa using hz)⟩, t.rx, t.ry, t.ap, by simp, fun z hz => Nat.le_trans hb (t.nx z hz), fun z hz => Nat.le_trans hb (t.ny z hz)⟩

/-- The law's own row of one of the files. -/
theorem Kp.rowO (h : Kp w0 w bx q d fr va vb x y px py D m) (o : Bool) : RowB w (sel o va vb) (sel o x y) := by
  cases o
  · exact h.ra
  · exact h.rb

theorem Kp.drewN (h : Kp w0 w bx q d fr va vb x y px py D m) (n : Nat) : Kp w0 (w.drewN n) bx q d fr va vb x y px py D m := h.below (below_drewN (Below.refl _ w) n)

/-- A new block is held. -/
theorem Kp.boxed (h : Kp w0 w bx q d fr va vb x y px py D m) (ob : Obj) : Kp w0 (w.alloc ob) (bx ++ [w.heap.size]) q d fr va vb x y px py D m := by
  have hb : Below w.heap.size w (w.alloc ob) := (Below.refl _ w).alloc (Nat.le_refl _) _
  have h1 := h.below hb
  refine ⟨?_, h1.ra, h1.rb, h.ap, fun b hb' => ?_, h.newa, h.newb⟩
  · have := h.pool.hold hb [w.heap.size] (by simp)
    simpa [List.append_assoc] using this
  · rcases List.mem_append.1 hb' with u | u
    · exact h.bxa b u
    · simp at u
      subst u
      exact ⟨fun e => Nat.lt_irrefl _ (h.ra.lt _ e), fun e => Nat.lt_irrefl _ (h.rb.lt _ e)⟩

theorem Kp.unbox (h : Kp w0 w bx q d fr va vb x y px py D m) : Kp w0 w [] q d fr va vb x y px py D m :=
  ⟨h.pool.less (by intro z hz; simp at hz; rcases hz with u | u <;> simp [u]), h.ra, h.rb, h.ap, by simp, h.newa, h.newb⟩

theorem Kp.more (h : Kp w0 w bx q d fr va vb x y px py D m) {m' : Nat} (hm : m ≤ m') : Kp w0 w bx q d fr va vb x y px py (fun _ => True) m' := by
  obtain ⟨fp, o, N, l, s, ord, gs, p, i, a1, a2, a3, a4, a5, a6, a7⟩ := h.pool
  exact ⟨⟨fp, o, N, l, s, ord, gs, p, i, by omega, by omega, fun _ _ _ => trivial, a4, a5, a6, a7⟩, h.ra, h.rb, h.ap, h.bxa, h.newa, h.newb⟩

theorem Kp.read (h : Kp w0 w bx q d fr va vb x y px py D m) (o : Bool) (at_ n : Nat) (hf : at_ + n ≤ (sel o px py).length) (hfr : fr ≤ 100000) (hm : m + 2 * n ≤ 998000) :
    Calls Try.prog 13 #[.pointer (some ⟨q, 0, none⟩), .string (nmO o), .int .i64 at_, .int .i64 n] w fun e w' => ∃ a c, e = .returned (.tuple #[.slice a n c, .int .i64 0]) ∧ IsB w' (.slice a n c) (((sel o px py).drop at_).take n) ∧
      Kp w0 w' bx q d fr va vb x y px py (fun _ => True) (m + 2 * n + 127) ∧ Beside (own va ++ (own vb ++ bx)) w w' := by
  refine (h.pool.read (nmO o) (nmO_size o) (Ct_sel o px py) hfr at_ n hf hm).mono ?_
  rintro e w' ⟨v, rfl, r, l, b, _⟩
  obtain ⟨a, c, rfl, _⟩ := r.isB.form
  have hl : (((sel o px py).drop at_).take n).length = n := by rw [List.length_take, List.length_drop]; omega
  have ri := r.isB
  rw [hl] at ri l ⊢
  obtain ⟨fp, o', N, l', s, ord, gs, p, i, a1, a2, a3, a4, a5, a6, a7⟩ := l
  exact ⟨a, c, rfl, ri, h.next ⟨fp, o', N, l', s, ord, gs, p, i, a1, a2, a3, False.elim, a5, a6, fun z hz => a7 z (List.mem_append.2 (.inl hz))⟩ b, b⟩

theorem Kp.read_arg (h : Kp w0 w bx q d fr va vb x y px py D m) (o : Bool) (at_ n : Int) (hm : m ≤ 900000) (hat : at_ ≤ 9223372036854775807) (hb : at_ < 0 ∨ n < 0 ∨ ((sel o px py).length : Int) - at_ < n) :
    Calls Try.prog 13 #[.pointer (some ⟨q, 0, none⟩), .string (nmO o), .int .i64 at_, .int .i64 n] w fun e w' => e = .returned (.tuple #[.slice none 0 0, .int .i64 1]) ∧
      Kp w0 w' bx q d fr va vb x y px py D (m + 1) ∧ Beside (own va ++ (own vb ++ bx)) w w' :=
  (h.pool.read_arg hm (nmO o) (nmO_size o) (Ct_sel o px py) at_ n hat hb).mono fun _ _ ⟨h1, h2, h3⟩ => ⟨h1, h.next h2 h3, h3⟩

theorem Kp.write (h : Kp w0 w bx q d fr va vb x y px py D m) (o : Bool) (at_ : Nat) (ua : Option Addr) (uc : Nat) (buf : List Int) (hu : IsB w (.slice ua buf.length uc) buf) (hux : buf ≠ [] → ∀ z ∈ own (.slice ua buf.length uc), z < w0.heap.size) (hf : at_ + buf.length ≤ (sel o px py).length) (hfr : fr ≤ 100000) (hm : m + 2 * buf.length ≤ 998000) :
    Calls Try.prog 14 #[.pointer (some ⟨q, 0, none⟩), .string (nmO o), .int .i64 at_, .slice ua buf.length uc] w fun e w' => e = .returned (.int .i64 0) ∧
      Kp w0 w' bx q d fr va vb x y (sel o (putA (sel o px py) at_ buf) px) (sel o py (putA (sel o px py) at_ buf)) (fun _ => True) (m + 2 * buf.length + 127) ∧ Beside (own va ++ (own vb ++ bx)) w w' := by
  refine (h.pool.write (nmO o) (nmO_size o) (Ct_sel o px py) hfr at_ ua uc buf hu (fun hne z hz => .inl (hux hne z hz)) hf hm).mono ?_
  rintro e w' ⟨rfl, l, b⟩
  rw [Ct_put] at l
  exact ⟨rfl, h.next l b, b⟩

theorem Kp.writeN (h : Kp w0 w bx q d fr va vb x y px py D m) (o : Bool) (at_ : Nat) (ua : Option Addr) (n uc : Nat) (buf : List Int) (hn : buf.length = n) (hu : IsB w (.slice ua n uc) buf) (hux : buf ≠ [] → ∀ z ∈ own (.slice ua n uc), z < w0.heap.size) (hf : at_ + n ≤ (sel o px py).length) (hfr : fr ≤ 100000) (hm : m + 2 * n ≤ 998000) :
    Calls Try.prog 14 #[.pointer (some ⟨q, 0, none⟩), .string (nmO o), .int .i64 at_, .slice ua n uc] w fun e w' => e = .returned (.int .i64 0) ∧
      Kp w0 w' bx q d fr va vb x y (sel o (putA (sel o px py) at_ buf) px) (sel o py (putA (sel o px py) at_ buf)) (fun _ => True) (m + 2 * n + 127) ∧ Beside (own va ++ (own vb ++ bx)) w w' := by
  subst hn
  exact h.write o at_ ua uc buf hu hux hf hfr hm

/-- One byte more. -/
theorem putA_step {c buf : List Int} {at_ k : Nat} (hf : at_ + buf.length ≤ c.length) (hk : k < buf.length) : (putA c at_ (buf.take k)).set (at_ + k) buf[k] = putA c at_ (buf.take (k + 1)) := by
  have hl : (putA c at_ (buf.take k)).length = c.length := write_len hf (by omega)
  apply List.ext_getElem?
  intro i
  rw [write_get hf (by omega), List.getElem?_set, hl]
  by_cases e : at_ + k = i
  · subst e
    rw [if_pos rfl, if_pos (by omega), if_neg (by omega), if_pos (by omega), Nat.add_sub_cancel_left, List.getElem?_eq_getElem hk]
  · rw [if_neg e, write_get hf (by omega)]
    by_cases h1 : i < at_
    · rw [if_pos h1, if_pos h1]
    · rw [if_neg h1, if_neg h1]
      by_cases h2 : i < at_ + k
      · rw [if_pos h2, if_pos (by omega)]
      · rw [if_neg h2, if_neg (by omega)]

theorem Kp.write_arg (h : Kp w0 w bx q d fr va vb x y px py D m) (o : Bool) (at_ : Int) (ua : Option Addr) (n uc : Nat) (hm : m ≤ 900000) (hat : at_ ≤ 9223372036854775807) (hb : at_ < 0 ∨ ((sel o px py).length : Int) - at_ < n) :
    Calls Try.prog 14 #[.pointer (some ⟨q, 0, none⟩), .string (nmO o), .int .i64 at_, .slice ua n uc] w fun e w' => e = .returned (.int .i64 1) ∧
      Kp w0 w' bx q d fr va vb x y px py D (m + 1) ∧ Beside (own va ++ (own vb ++ bx)) w w' :=
  (h.pool.write_arg hm (nmO o) (nmO_size o) (Ct_sel o px py) at_ ua n uc hat hb).mono fun _ _ ⟨h1, h2, h3⟩ => ⟨h1, h.next h2 h3, h3⟩

theorem Kp.flush (h : Kp w0 w bx q d fr va vb x y px py D m) (o : Bool) (hfr : fr ≤ 100000) (hm : m ≤ 800000) :
    Calls Try.prog 15 #[.pointer (some ⟨q, 0, none⟩), .string (nmO o)] w fun e w' => e = .returned (.int .i64 0) ∧ Kp w0 w' bx q d fr va vb x y px py (fun z => D z ∧ z ≠ (nmO o).data.toList) (m + fr.toNat) ∧ Beside (own va ++ (own vb ++ bx)) w w' :=
  (h.pool.flush hfr hm (nmO o)).mono fun _ _ ⟨h1, h2, h3⟩ => ⟨h1, h.next h2 h3, h3⟩

theorem Kp.dread (h : Kp w0 w bx q d fr va vb x y px py D m) (o : Bool) (hD : ¬ D (nmO o).data.toList) (n : Nat) (hn : n = (sel o px py).length) (hm : m ≤ 900000) :
    Calls Try.prog 16 #[.pointer (some ⟨d, 0, none⟩), .string (nmO o), .int .i64 0, .int .i64 n] w fun e w' => ∃ a c, e = .returned (.tuple #[.slice a n c, .int .i64 0]) ∧ IsB w' (.slice a n c) (sel o px py) ∧
      Kp w0 w' bx q d fr va vb x y px py D (m + 1) ∧ Beside (own va ++ (own vb ++ bx)) w w' := by
  refine (h.pool.dread hm (nmO o) (nmO_size o) (Ct_sel o px py) hD 0 n (by omega)).mono ?_
  rintro e w' ⟨v, rfl, r, l, b, _⟩
  rw [List.drop_zero, hn, List.take_length] at r
  obtain ⟨a, c, rfl, _⟩ := r.isB.form
  have ri := r.isB
  rw [← hn] at ri ⊢
  exact ⟨a, c, rfl, ri, h.next (l.less (by intro z hz; exact List.mem_append.2 (.inl hz))) b, b⟩

/-- Resident and Dirty, one against the other. -/
theorem Kp.counts (h : Kp w0 w bx q d fr va vb x y px py D m) (hfr : fr ≤ 100000) : ∃ r : Nat, (r : Int) ≤ fr ∧ (∀ W, Below w.heap.size w W → Calls Try.prog 17 #[.pointer (some ⟨q, 0, none⟩)] W fun e w' => e = .returned (.int .i64 r) ∧ w' = W) ∧
    ∃ n : Nat, n ≤ r ∧ ((∀ z c, Ct px py z = some c → ¬ D z) → n = 0) ∧ ∀ W, Below w.heap.size w W → Calls Try.prog 18 #[.pointer (some ⟨q, 0, none⟩)] W fun e w' => e = .returned (.int .i64 n) ∧ Below W.heap.size W w' := by
  obtain ⟨fp, o, N, l, s, ord, gs, p, i, a1, a2, a3, a4, a5, a6, a7⟩ := h.pool
  obtain ⟨f1, f2, f3⟩ := p.facts
  have ct := i.count f2 f3
  have hl := i.len
  refine ⟨gs.length, by omega, fun W hb => resident_any (p.below hb), (gs.filter Pg.dirty).length, List.length_filter_le _ _, fun hn => ?_, fun W hb => dirty_any (p.below hb) (by omega)⟩
  rw [List.length_eq_zero_iff, List.filter_eq_nil_iff]
  intro g hg hd
  obtain ⟨c, j, hc, _⟩ := i.page g hg
  exact hn _ c hc (a3 g hg hd)

theorem Lp.stored {hs : List Nat} {C : List UInt8 → Option (List Int)} {E : Prop} (h : Lp w0 w hs q d fr C D E m) {g j : Nat} (hg : g ∈ hs) (hn : w0.heap.size ≤ g) (u : Value) : Lp w0 (w.setCell ⟨g, j, none⟩ u) hs q d fr C D E m := by
  obtain ⟨fp, o, N, l, s, ord, gs, p, i, a1, a2, a3, a4, a5, a6, a7⟩ := h
  have hk : Kept [g] w (w.setCell ⟨g, j, none⟩ u) := (Kept.refl _ _).setCell (.inl (by simp)) _
  refine ⟨fp, o, N, l, s, ord, gs, p.kept hk (fun z hz e => ?_), i, a1, a2, a3, a4, a5.trans (hk.below a5.size (by simpa using hn)), a6, fun z hz => ⟨Nat.lt_of_lt_of_le (a7 z hz).1 hk.size, (a7 z hz).2⟩⟩
  simp at e
  subst e
  exact (a7 z hg).2 hz

/-- A byte of one of the law's rows is written. -/
theorem Kp.stored (h : Kp w0 w bx q d fr va vb x y px py D m) (o : Bool) {g n cap : Nat} (hv : sel o va vb = .slice (some ⟨g, 0, none⟩) n cap) (j : Nat) (z : Int) (hz : 0 ≤ z ∧ z ≤ 255) :
    Kp w0 (w.setCell ⟨g, j, none⟩ (.int .u8 z)) bx q d fr va vb (sel o (x.set j z) x) (sel o y (y.set j z)) px py D m := by
  have hk : Kept [g] w (w.setCell ⟨g, j, none⟩ (.int .u8 z)) := (Kept.refl _ _).setCell (.inl (by simp)) _
  cases o with
  | false =>
    have hv : va = .slice (some ⟨g, 0, none⟩) n cap := hv
    subst hv
    have hg : g ∈ own (.slice (some ⟨g, 0, none⟩) n cap) := by simp [own, Value.ownBlock]
    exact ⟨h.pool.stored (List.mem_append.2 (.inl hg)) (h.newa g hg) _, RowB.stored h.ra j z hz, h.rb.kept hk (fun b hb e => h.ap g hg (by simp at e; exact e ▸ hb)), h.ap, h.bxa, h.newa, h.newb⟩
  | true =>
    have hv : vb = .slice (some ⟨g, 0, none⟩) n cap := hv
    subst hv
    have hg : g ∈ own (.slice (some ⟨g, 0, none⟩) n cap) := by simp [own, Value.ownBlock]
    exact ⟨h.pool.stored (List.mem_append.2 (.inr (List.mem_append.2 (.inl hg)))) (h.newb g hg) _, h.ra.kept hk (fun b hb e => h.ap b hb (by simp at e; exact e ▸ hg)), RowB.stored h.rb j z hz, h.ap, h.bxa, h.newa, h.newb⟩

end
end Go.Proofs.Ytbhjdcoehgajcaa.L.P
