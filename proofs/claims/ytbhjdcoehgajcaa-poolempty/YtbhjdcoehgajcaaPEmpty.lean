/-
  A pool of a law's own that is asked for what there is not. A lemma file: no statement of the seat is proved here.
-/
import Derived.Test.YtbhjdcoehgajcaaPMade
namespace Go.Proofs.Ytbhjdcoehgajcaa.L.P
open Go.RowKit Go.Maps

/-- A pool of the call's own whose pages are as F tells. -/
def Lg (w0 w : World) (q d : Nat) (fr : Int) (C : List UInt8 → Option (List Int)) (F : List Pg → Prop) (m : Nat) : Prop :=
  ∃ fp o N l s ord gs, Pl w fp q d o fr N l s ord gs ∧ PInv C fr l s ord gs ∧ N ≤ m ∧ s.ops ≤ (m : Int) ∧ F gs ∧ Below w0.heap.size w0 w ∧ ∀ x ∈ fp, w0.heap.size ≤ x

/-- What two files have. -/
def Ct (x y : List Int) : List UInt8 → Option (List Int) := fun nm => if nm = [97] then some x else if nm = [98] then some y else none
theorem Ct_look (x y : List Int) : (fun nm => (DLook [([97], x, []), ([98], y, [])] nm).map fun x => x.2.1) = Ct x y := by
  funext nm
  unfold Ct DLook Go.Proofs.Ytbhjdcoehgajcaa.lookA
  by_cases h : nm = [97]
  · subst h
    rfl
  · rw [if_neg h]
    by_cases h3 : nm = [98]
    · subst h3
      rfl
    · rw [if_neg h3]
      have h2 : ¬ ([97] : List UInt8) = nm := fun e => h e.symm
      have h4 : ¬ ([98] : List UInt8) = nm := fun e => h3 e.symm
      simp [h2, h4]

theorem two_len {x y : List Int} (hx : x.length ≤ 300) (hy : y.length ≤ 300) : ∀ nm z, DLook [([97], x, []), ([98], y, [])] nm = some z → z.2.1.length ≤ 100000 := by
  intro nm z h
  unfold DLook Go.Proofs.Ytbhjdcoehgajcaa.lookA at h
  have := List.mem_of_find?_eq_some h
  simp at this
  rcases this with rfl | rfl
  · show x.length ≤ _; omega
  · show y.length ≤ _; omega

section
variable {w0 w w' : World} {q d : Nat} {fr : Int} {C : List UInt8 → Option (List Int)} {F : List Pg → Prop} {m : Nat} {l : List Ab} {s : Ds} {ord : List (Place × Nat)} {gs : List Pg}

theorem Lg.bel (h : Lg w0 w q d fr C F m) : Below w0.heap.size w0 w := by
  obtain ⟨fp, o, N, l, s, ord, gs, p, i, a1, a2, a3, a5, a6⟩ := h
  exact a5

theorem Lg.new {l : List Ab} {s : Ds} (h : Sd w0.heap.size w0 w d l s) (n : Int) (hup : s.down = false) (hleft : s.left = 0) (hlen : ∀ nm x, DLook l nm = some x → x.2.1.length ≤ 100000) (hm : s.ops ≤ (m : Int)) (hC : (fun nm => (DLook l nm).map fun x => x.2.1) = C) :
    Calls Try.prog 11 #[.pointer (some ⟨d, 0, none⟩), .int .i64 n] w fun e w' => ∃ q, e = .returned (.pointer (some ⟨q, 0, none⟩)) ∧ Lg w0 w' q d (max n 1) C (fun gs => gs = []) m := by
  obtain ⟨fd, hd, b, f, hB⟩ := h
  refine (new_pool hd n).mono ?_
  rintro e w' ⟨q, o, fp, rfl, p, hb, hn⟩
  refine ⟨q, rfl, fp, o, 0, l, s, [], [], p, hC ▸ PInv.new hup hleft hlen, Nat.zero_le _, hm, rfl, b.trans (hb.mono hB), fun x hx => ?_⟩
  rcases hn x hx with u | u
  · exact f x u
  · exact Nat.le_trans hB u

theorem Lg.after {fp : List Nat} {o N : Nat} (i : PInv C fr l s ord gs) (a1 : N ≤ m) (a2 : s.ops ≤ (m : Int)) (a3 : F gs) (a5 : Below w0.heap.size w0 w) (a6 : ∀ x ∈ fp, w0.heap.size ≤ x)
    (h : PlO w w' fp q d o fr N (beginA l s).1 (beginA l s).2 ord gs) : Lg w0 w' q d fr C F (m + 1) := by
  rw [begin_eq i.left] at h
  obtain ⟨fp', p', k, nw⟩ := h
  obtain ⟨s1, s2, s3, s4⟩ := side (hs := []) a5 a6 (by simp) k nw
  exact ⟨fp', o, N, l, _, ord, gs, p', i.begins, by omega, by show s.ops + 1 ≤ _; omega, a3, s1, s2⟩

theorem Lg.read_arg (h : Lg w0 w q d fr C F m) (hm : m ≤ 900000) (nm : ByteArray) (hnm : nm.size ≤ maxLen) {c : List Int} (hc : C nm.data.toList = some c) (at_ n : Int) (hat : at_ ≤ 9223372036854775807) (hb : at_ < 0 ∨ n < 0 ∨ (c.length : Int) - at_ < n) :
    Calls Try.prog 13 #[.pointer (some ⟨q, 0, none⟩), .string nm, .int .i64 at_, .int .i64 n] w fun e w' => e = .returned (.tuple #[.slice none 0 0, .int .i64 1]) ∧ Lg w0 w' q d fr C F (m + 1) := by
  obtain ⟨fp, o, N, l, s, ord, gs, p, i, a1, a2, a3, a5, a6⟩ := h
  have hcl := (i.has _ _ hc).2
  exact readAt_no nm at_ n 1 0 (by decide) ((within_arg p (by omega) nm hnm at_ n (i.sizeOf hc) (by omega) hat hb).mono fun e w' h => ⟨h.1, Lg.after i a1 a2 a3 a5 a6 h.2⟩)

theorem Lg.read_none (h : Lg w0 w q d fr C F m) (hm : m ≤ 900000) (nm : ByteArray) (hnm : nm.size ≤ maxLen) (hc : C nm.data.toList = none) (at_ n : Int) :
    Calls Try.prog 13 #[.pointer (some ⟨q, 0, none⟩), .string nm, .int .i64 at_, .int .i64 n] w fun e w' => e = .returned (.tuple #[.slice none 0 0, .int .i64 4]) ∧ Lg w0 w' q d fr C F (m + 1) := by
  obtain ⟨fp, o, N, l, s, ord, gs, p, i, a1, a2, a3, a5, a6⟩ := h
  exact readAt_no nm at_ n 4 0 (by decide) ((within_err p (by omega) nm hnm at_ n (i.noSize hc) (by decide)).mono fun e w' h => ⟨h.1, Lg.after i a1 a2 a3 a5 a6 h.2⟩)

theorem Lg.write_none (h : Lg w0 w q d fr C F m) (hm : m ≤ 900000) (nm : ByteArray) (hnm : nm.size ≤ maxLen) (hc : C nm.data.toList = none) (at_ : Int) (ua : Option Addr) (n uc : Nat) :
    Calls Try.prog 14 #[.pointer (some ⟨q, 0, none⟩), .string nm, .int .i64 at_, .slice ua n uc] w fun e w' => e = .returned (.int .i64 4) ∧ Lg w0 w' q d fr C F (m + 1) := by
  obtain ⟨fp, o, N, l, s, ord, gs, p, i, a1, a2, a3, a5, a6⟩ := h
  have b0 : Below w.heap.size w (w.alloc (.cells #[.slice ua n uc] 28)) := (Below.refl _ w).alloc (Nat.le_refl _) _
  exact writeAt_no nm at_ 4 0 ua n uc (by decide) ((within_err (p.below b0) (by omega) nm hnm at_ n (i.noSize hc) (by decide)).mono fun e w' h => ⟨h.1, Lg.after i a1 a2 a3 (a5.trans (b0.mono a5.size)) a6 h.2⟩)

theorem no_starts (i : PInv C fr l s ord gs) {nm : ByteArray} (hc : C nm.data.toList = none) {zs : List Int} (hz : ∀ z, z ∈ zs ↔ ∃ g ∈ gs, g.key.1.1 = nm ∧ g.key.1.2 = z) : zs = [] := by
  cases zs with
  | nil => rfl
  | cons z zs =>
    obtain ⟨g, hg, e, _⟩ := (hz z).1 (List.mem_cons_self ..)
    obtain ⟨c, j, hc2, _⟩ := i.page g hg
    rw [e, hc] at hc2
    cases hc2

theorem Lg.flush_none (h : Lg w0 w q d fr C F m) (hm : m ≤ 800000) (hfr : fr ≤ 100000) (nm : ByteArray) (hc : C nm.data.toList = none) :
    Calls Try.prog 15 #[.pointer (some ⟨q, 0, none⟩), .string nm] w fun e w' => e = .returned (.int .i64 0) ∧ Lg w0 w' q d fr C F (m + fr.toNat) := by
  obtain ⟨fp, o, N, l, s, ord, gs, p, i, a1, a2, a3, a5, a6⟩ := h
  obtain ⟨f1, f2, f3⟩ := p.facts
  have ct := i.count f2 f3
  have hl := i.len
  refine (flush_any p i (by omega) (by omega) nm).mono ?_
  rintro e w' ⟨rfl, l', s', zs, hz, ⟨fp', p', k, nw⟩, i', o1, o2⟩
  obtain ⟨s1, s2, s3, s4⟩ := side (hs := []) a5 a6 (by simp) k nw
  rw [no_starts i hc hz, cleanL_nil] at p' i'
  exact ⟨rfl, fp', o, N, l', s', ord, gs, p', i', by omega, by omega, a3, s1, s2⟩

theorem Lg.drop_none (h : Lg w0 w q d fr C F m) (hfr : fr ≤ 100000) (nm : ByteArray) (hc : C nm.data.toList = none) :
    Calls Try.prog 19 #[.pointer (some ⟨q, 0, none⟩), .string nm] w fun e w' => e = .returned (.tuple #[]) ∧ Lg w0 w' q d fr C F m := by
  obtain ⟨fp, o, N, l, s, ord, gs, p, i, a1, a2, a3, a5, a6⟩ := h
  obtain ⟨f1, f2, f3⟩ := p.facts
  have ct := i.count f2 f3
  have hl := i.len
  refine (drop_pool p i (by omega) nm).mono ?_
  rintro e w' ⟨rfl, zs, hz, fp', p', k, nw⟩
  obtain ⟨s1, s2, s3, s4⟩ := side (hs := []) a5 a6 (by simp) k nw
  rw [no_starts i hc hz] at p'
  have e1 : lessP nm [] gs = gs := by simp [lessP]
  have e2 : lessO nm [] ord = ord := by simp [lessO]
  rw [e1, e2] at p'
  exact ⟨rfl, fp', o, N, l, s, ord, gs, p', i, a1, a2, a3, s1, s2⟩

theorem Lg.resident0 (h : Lg w0 w q d fr C (fun gs => gs = []) m) : Calls Try.prog 17 #[.pointer (some ⟨q, 0, none⟩)] w fun e w' => e = .returned (.int .i64 0) ∧ w' = w := by
  obtain ⟨fp, o, N, l, s, ord, gs, p, i, a1, a2, rfl, a5, a6⟩ := h
  exact resident_any p

/-- Nothing is read. -/
theorem Lg.read0 (h : Lg w0 w q d fr C F m) (hm : m ≤ 900000) (nm : ByteArray) (hnm : nm.size ≤ maxLen) {c : List Int} (hc : C nm.data.toList = some c) (hfr : fr ≤ 100000) :
    Calls Try.prog 13 #[.pointer (some ⟨q, 0, none⟩), .string nm, .int .i64 0, .int .i64 0] w fun e w' => ∃ a u, e = .returned (.tuple #[.slice a 0 u, .int .i64 0]) ∧ Lg w0 w' q d fr C (fun _ => True) (m + 127) := by
  obtain ⟨fp, o, N, l, s, ord, gs, p, i, a1, a2, a3, a5, a6⟩ := h
  refine (readAt_ok p i nm hnm hc hfr 0 0 (by omega) (by omega) (by omega)).mono ?_
  rintro e w' ⟨v, rfl, r, fp', N', l', s', ord', gs', p', i', n', o', k, nw, ne, ov⟩
  obtain ⟨s1, s2, s3, s4⟩ := side (hs := []) a5 a6 (by simp) k nw
  obtain ⟨a, u, rfl, _⟩ := r.isB.form
  exact ⟨a, u, rfl, fp', o, N', l', s', ord', gs', p', i', by omega, by omega, trivial, s1, s2⟩
end

end Go.Proofs.Ytbhjdcoehgajcaa.L.P
