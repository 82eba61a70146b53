/-
  What a pool answers that is asked for what it may not be. A lemma file: no statement of the seat is proved here.
-/
import Derived.Lib.SlBytesConst
import Derived.Test.YtbhjdcoehgajcaaPLaw
namespace Go.Proofs.Ytbhjdcoehgajcaa.L.P
open Go.RowKit Go.Maps

/-- A new block of bytes. -/
theorem isB_new (w : World) (bs : List Int) (m : Nat × Nat) (h : ∀ z ∈ bs, 0 ≤ z ∧ z ≤ 255) : IsB (w.alloc (.cells (bs.map (Value.int .u8)).toArray 5 m)) (.slice (some ⟨w.heap.size, 0, none⟩) bs.length bs.length) bs := by
  refine ⟨_, _, rfl, Nat.le_refl _, by simp, fun x hx j hj => ?_, h⟩
  simp only [Option.some.injEq] at hx
  subst hx
  rw [Addr.add_lit]
  rw [World.cell?_alloc_mark]
  simp [hj]

theorem strP (b : UInt8) : (⟨#[b]⟩ : ByteArray).size ≤ maxLen := by
  show 1 ≤ maxLen
  unfold maxLen
  omega

section
variable {w0 w w' : World} {hs : List Nat} {q d : Nat} {fr : Int} {C : List UInt8 → Option (List Int)} {D : List UInt8 → Prop} {E : Prop} {m : Nat} {l : List Ab} {s : Ds} {ord : List (Place × Nat)} {gs : List Pg}

theorem PInv.sizeOf (i : PInv C fr l s ord gs) {nm : List UInt8} {c : List Int} (hc : C nm = some c) : sizeA (beginA l s) nm = ((c.length : Int), 0) := by
  obtain ⟨⟨x, hx⟩, _⟩ := i.has _ _ hc
  obtain ⟨c2, hc2, hl, _⟩ := i.file _ _ hx
  rw [hc] at hc2
  cases hc2
  rw [begin_eq i.left]
  unfold sizeA
  rw [err_none (s := { s with ops := s.ops + 1 }) i.up hx]
  have hx2 : Go.Proofs.Ytbhjdcoehgajcaa.lookA l nm = some x := hx
  dsimp only
  rw [hx2]
  simp [hl]

theorem PInv.noSize (i : PInv C fr l s ord gs) {nm : List UInt8} (hc : C nm = none) : sizeA (beginA l s) nm = (0, 4) := by
  have hx2 : Go.Proofs.Ytbhjdcoehgajcaa.lookA l nm = none := by
    cases hx : DLook l nm with
    | none => exact hx
    | some x =>
      obtain ⟨c2, hc2, _⟩ := i.file _ _ hx
      rw [hc] at hc2
      cases hc2
  rw [begin_eq i.left]
  unfold sizeA errA
  simp only [i.up, hx2]
  rfl

theorem Lp.after {fp : List Nat} {o N : Nat} (i : PInv C fr l s ord gs) (a1 : N ≤ m) (a2 : s.ops ≤ (m : Int)) (a3 : ∀ g ∈ gs, g.dirty = true → D g.key.1.1.data.toList) (a4 : E → gs ≠ []) (a5 : Below w0.heap.size w0 w) (a6 : ∀ x ∈ fp, w0.heap.size ≤ x) (a7 : ∀ x ∈ hs, x < w.heap.size ∧ x ∉ fp)
    (h : PlO w w' fp q d o fr N (beginA l s).1 (beginA l s).2 ord gs) : Lp w0 w' hs q d fr C D E (m + 1) ∧ Beside hs w w' := by
  rw [begin_eq i.left] at h
  obtain ⟨fp', p', k, nw⟩ := h
  obtain ⟨s1, s2, s3, s4⟩ := side a5 a6 a7 k nw
  exact ⟨⟨fp', o, N, l, _, ord, gs, p', i.begins, by omega, by show s.ops + 1 ≤ _; omega, a3, a4, s1, s2, s3⟩, s4⟩

/-- ReadAt at a place that is none. -/
theorem Lp.read_arg (h : Lp w0 w hs q d fr C D E m) (hm : m ≤ 900000) (nm : ByteArray) (hnm : nm.size ≤ maxLen) {c : List Int} (hc : C nm.data.toList = some c) (at_ n : Int) (hat : at_ ≤ 9223372036854775807) (hb : at_ < 0 ∨ n < 0 ∨ (c.length : Int) - at_ < n) :
    Calls Try.prog 13 #[.pointer (some ⟨q, 0, none⟩), .string nm, .int .i64 at_, .int .i64 n] w fun e w' => e = .returned (.tuple #[.slice none 0 0, .int .i64 1]) ∧ Lp w0 w' hs q d fr C D E (m + 1) ∧ Beside hs w w' := by
  obtain ⟨fp, o, N, l, s, ord, gs, p, i, a1, a2, a3, a4, a5, a6, a7⟩ := h
  have hcl := (i.has _ _ hc).2
  exact readAt_no nm at_ n 1 0 (by decide) ((within_arg p (by omega) nm hnm at_ n (i.sizeOf hc) (by omega) hat hb).mono fun e w' h => ⟨h.1, Lp.after i a1 a2 a3 a4 a5 a6 a7 h.2⟩)

/-- ReadAt of a file that there is not. -/
theorem Lp.read_none (h : Lp w0 w hs q d fr C D E m) (hm : m ≤ 900000) (nm : ByteArray) (hnm : nm.size ≤ maxLen) (hc : C nm.data.toList = none) (at_ n : Int) :
    Calls Try.prog 13 #[.pointer (some ⟨q, 0, none⟩), .string nm, .int .i64 at_, .int .i64 n] w fun e w' => e = .returned (.tuple #[.slice none 0 0, .int .i64 4]) ∧ Lp w0 w' hs q d fr C D E (m + 1) ∧ Beside hs w w' := by
  obtain ⟨fp, o, N, l, s, ord, gs, p, i, a1, a2, a3, a4, a5, a6, a7⟩ := h
  exact readAt_no nm at_ n 4 0 (by decide) ((within_err p (by omega) nm hnm at_ n (i.noSize hc) (by decide)).mono fun e w' h => ⟨h.1, Lp.after i a1 a2 a3 a4 a5 a6 a7 h.2⟩)

theorem Lp.write_at (h : Lp w0 w hs q d fr C D E m) (hm : m ≤ 900000) (nm : ByteArray) (at_ : Int) (ua : Option Addr) (n uc : Nat) {k : Int} (hk : k ≠ 0)
    (hw : ∀ l s ord gs fp o N W, Pl W fp q d o fr N l s ord gs → PInv C fr l s ord gs → s.ops ≤ 900000 → Calls Try.prog 28 #[.pointer (some ⟨q, 0, none⟩), .string nm, .int .i64 at_, .int .i64 n] W fun e w' => e = .returned (.tuple #[.int .i64 0, .int .i64 k]) ∧ PlO W w' fp q d o fr N (beginA l s).1 (beginA l s).2 ord gs) :
    Calls Try.prog 14 #[.pointer (some ⟨q, 0, none⟩), .string nm, .int .i64 at_, .slice ua n uc] w fun e w' => e = .returned (.int .i64 k) ∧ Lp w0 w' hs q d fr C D E (m + 1) ∧ Beside hs w w' := by
  obtain ⟨fp, o, N, l, s, ord, gs, p, i, a1, a2, a3, a4, a5, a6, a7⟩ := h
  have b0 : Below w.heap.size w (w.alloc (.cells #[.slice ua n uc] 28)) := (Below.refl _ w).alloc (Nat.le_refl _) _
  refine writeAt_no nm at_ k 0 ua n uc hk ((hw l s ord gs fp o N _ (p.below b0) i (by omega)).mono fun e w' h => ⟨h.1, ?_⟩)
  obtain ⟨r1, r2⟩ := Lp.after (hs := hs) i a1 a2 a3 a4 (a5.trans (b0.mono a5.size)) a6 (fun x hx => ⟨Nat.lt_of_lt_of_le (a7 x hx).1 b0.size, (a7 x hx).2⟩) h.2
  obtain ⟨f2, k2, n2⟩ := r2
  exact ⟨r1, f2, (Kept.of_below (fp := f2) b0).trans k2 (Newly.refl _ _), n2⟩

/-- WriteAt at a place that is none. -/
theorem Lp.write_arg (h : Lp w0 w hs q d fr C D E m) (hm : m ≤ 900000) (nm : ByteArray) (hnm : nm.size ≤ maxLen) {c : List Int} (hc : C nm.data.toList = some c) (at_ : Int) (ua : Option Addr) (n uc : Nat) (hat : at_ ≤ 9223372036854775807) (hb : at_ < 0 ∨ (c.length : Int) - at_ < n) :
    Calls Try.prog 14 #[.pointer (some ⟨q, 0, none⟩), .string nm, .int .i64 at_, .slice ua n uc] w fun e w' => e = .returned (.int .i64 1) ∧ Lp w0 w' hs q d fr C D E (m + 1) ∧ Beside hs w w' :=
  h.write_at hm nm at_ ua n uc (by decide) fun l s ord gs fp o N W p i ho => within_arg p (by omega) nm hnm at_ n (i.sizeOf hc) (by have := (i.has _ _ hc).2; omega) hat (by omega)

/-- WriteAt of a file that there is not. -/
theorem Lp.write_none (h : Lp w0 w hs q d fr C D E m) (hm : m ≤ 900000) (nm : ByteArray) (hnm : nm.size ≤ maxLen) (hc : C nm.data.toList = none) (at_ : Int) (ua : Option Addr) (n uc : Nat) :
    Calls Try.prog 14 #[.pointer (some ⟨q, 0, none⟩), .string nm, .int .i64 at_, .slice ua n uc] w fun e w' => e = .returned (.int .i64 4) ∧ Lp w0 w' hs q d fr C D E (m + 1) ∧ Beside hs w w' :=
  h.write_at hm nm at_ ua n uc (by decide) fun l s ord gs fp o N W p i ho => within_err p (by omega) nm hnm at_ n (i.noSize hc) (by decide)

end
end Go.Proofs.Ytbhjdcoehgajcaa.L.P
