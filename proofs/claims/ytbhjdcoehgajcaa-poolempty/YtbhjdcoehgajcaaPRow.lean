/-
  A disk of a law's own, rows of bytes beside it; what made does with the disk. A lemma file: no statement of the seat is proved here.
-/
import Derived.Test.YtbhjdcoehgajcaaPShown
namespace Go.Proofs.Ytbhjdcoehgajcaa.L.P
open Go.RowKit Go.Maps

/-- A disk of the call's own, all of whose blocks lie from B on; rows of bytes of the call's own beside it. -/
def Rd (B : Nat) (w0 w : World) (p : Nat) (l : List Ab) (s : Ds) (rs : List (Value × List Int)) : Prop :=
  ∃ fp, Dk w fp p l s ∧ Below B w0 w ∧ (∀ x ∈ fp, B ≤ x) ∧ B ≤ w.heap.size ∧ ∀ z ∈ rs, RowB w z.1 z.2 ∧ ∀ x ∈ own z.1, B ≤ x ∧ x ∉ fp

theorem RowB.stored {w : World} {g n cap : Nat} {bs : List Int} (h : RowB w (.slice (some ⟨g, 0, none⟩) n cap) bs) (j : Nat) (z : Int) (hz : 0 ≤ z ∧ z ≤ 255) : RowB (w.setCell ⟨g, j, none⟩ (.int .u8 z)) (.slice (some ⟨g, 0, none⟩) n cap) (bs.set j z) := by
  have hn : n = bs.length := by
    rcases h.form with ⟨e, _⟩ | ⟨g', cap', e, _⟩
    · cases e
    · cases e
      rfl
  subst hn
  obtain ⟨h1, h2⟩ := h
  have hs := (World.ownsRow.stored h1 j (.int .u8 z)).1
  rw [← List.map_set] at hs
  refine ⟨by simpa using hs, fun x hx => ?_⟩
  rcases List.mem_or_eq_of_mem_set hx with u | u
  · exact h2 x u
  · subst u
    exact hz

section
variable {B : Nat} {w0 w w' : World} {p : Nat} {l : List Ab} {s : Ds} {rs : List (Value × List Int)}

theorem Sd.rd (h : Sd B w0 w p l s) : Rd B w0 w p l s [] := by
  obtain ⟨fp, d, b, f, hB⟩ := h
  exact ⟨fp, d, b, f, hB, by simp⟩
theorem Rd.sd (h : Rd B w0 w p l s rs) : Sd B w0 w p l s := by
  obtain ⟨fp, d, b, f, hB, _⟩ := h
  exact ⟨fp, d, b, f, hB⟩
theorem Rd.at (h : Rd B w0 w p l s rs) {v : Value} {bs : List Int} (hm : (v, bs) ∈ rs) : RowB w v bs := by
  obtain ⟨fp, d, b, f, hB, hh⟩ := h
  exact (hh _ hm).1

theorem Rd.made {v : Value} {bs : List Int} (h : Rd B w0 w p l s rs) (hb : Below w.heap.size w w') (hr : RowB w' v bs) (hv : ∀ x ∈ own v, w.heap.size ≤ x) : Rd B w0 w' p l s ((v, bs) :: rs) := by
  obtain ⟨fp, d, b, f, hB, hh⟩ := h
  have hlt := d.lt
  refine ⟨fp, d.below hb, b.trans (hb.mono hB), f, Nat.le_trans hB hb.size, fun z hz => ?_⟩
  rcases List.mem_cons.1 hz with rfl | hz
  · exact ⟨hr, fun x hx => ⟨Nat.le_trans hB (hv x hx), fun e => by have := hlt x e; have := hv x hx; omega⟩⟩
  · exact ⟨(hh z hz).1.kept (fp := []) (Kept.of_below hb) (by simp), (hh z hz).2⟩

theorem Rd.stored {g n cap : Nat} {bs : List Int} (h : Rd B w0 w p l s ((.slice (some ⟨g, 0, none⟩) n cap, bs) :: rs)) (hne : ∀ z ∈ rs, g ∉ own z.1) (j : Nat) (z : Int) (hz : 0 ≤ z ∧ z ≤ 255) : Rd B w0 (w.setCell ⟨g, j, none⟩ (.int .u8 z)) p l s ((.slice (some ⟨g, 0, none⟩) n cap, bs.set j z) :: rs) := by
  obtain ⟨fp, d, b, f, hB, hh⟩ := h
  obtain ⟨h1, h2⟩ := hh _ (List.mem_cons_self ..)
  have hg := h2 g (by simp [own, Value.ownBlock])
  have hk : Kept [g] w (w.setCell ⟨g, j, none⟩ (.int .u8 z)) := (Kept.refl _ _).setCell (.inl (by simp)) _
  refine ⟨fp, d.kept hk (fun x hx e => hg.2 (by simp at e; subst e; exact hx)), b.trans (hk.below hB (by simpa using hg.1)), f, Nat.le_trans hB hk.size, fun y hy => ?_⟩
  rcases List.mem_cons.1 hy with rfl | hy
  · exact ⟨RowB.stored h1 j z hz, h2⟩
  · exact ⟨(hh y (List.mem_cons_of_mem _ hy)).1.kept hk (fun x hx e => hne y hy (by simp at e; subst e; exact hx)), (hh y (List.mem_cons_of_mem _ hy)).2⟩

theorem Outc.rd {fp : List Nat} {A : List Ab × Ds} (h : Go.Proofs.Ytbhjdcoehgajcaa.Outc w w' fp p A) (hb : Below B w0 w) (hf : ∀ x ∈ fp, B ≤ x) (hB : B ≤ w.heap.size) (hh : ∀ z ∈ rs, RowB w z.1 z.2 ∧ ∀ x ∈ own z.1, B ≤ x ∧ x ∉ fp) : Rd B w0 w' p A.1 A.2 rs := by
  obtain ⟨fp', d, k, n⟩ := h
  refine ⟨fp', d, hb.trans (k.below hB hf), fun x hx => ?_, Nat.le_trans hB k.size, fun z hz => ?_⟩
  · rcases n x hx with h1 | h1
    · exact hf x h1
    · omega
  · obtain ⟨hg, hgf⟩ := hh z hz
    refine ⟨hg.kept k (fun x hx => (hgf x hx).2), fun x hx => ⟨(hgf x hx).1, fun e => ?_⟩⟩
    rcases n _ e with h1 | h1
    · exact (hgf x hx).2 h1
    · have := hg.lt x hx; omega

theorem Rd.create (h : Rd B w0 w p l s rs) (hn : s.ops ≤ 1000000) (nm : ByteArray) (hnm : nm.size ≤ maxLen) {k : Int} {l' : List Ab} {s' : Ds} (hr : createA (beginA l s) nm.data.toList = (k, (l', s'))) :
    Calls Try.prog 25 #[.pointer (some ⟨p, 0, none⟩), .string nm] w fun e w' => e = .returned (.int .i64 k) ∧ Rd B w0 w' p l' s' rs := by
  obtain ⟨fp, d, b, f, hB, hh⟩ := h
  refine (d.create hn nm hnm).mono ?_
  rintro e w' ⟨rfl, o⟩
  rw [hr] at o ⊢
  exact ⟨rfl, Outc.rd o b f hB hh⟩

theorem Rd.append (h : Rd B w0 w p l s rs) (hn : s.ops ≤ 1000000) (nm : ByteArray) (hnm : nm.size ≤ maxLen) (u : Value) (cs : List Int) (hu : (u, cs) ∈ rs) (hcl : cs.length ≤ 1073741824) {k : Int} {l' : List Ab} {s' : Ds} (hr : appendA (beginA l s) nm.data.toList cs = (k, (l', s'))) :
    Calls Try.prog 26 #[.pointer (some ⟨p, 0, none⟩), .string nm, u] w fun e w' => e = .returned (.int .i64 k) ∧ Rd B w0 w' p l' s' rs := by
  obtain ⟨fp, d, b, f, hB, hh⟩ := h
  refine (d.append hn nm hnm u cs (hh _ hu).1.isB hcl (fun _ x hx => ((hh _ hu).2 x hx).2)).mono ?_
  rintro e w' ⟨rfl, o⟩
  rw [hr] at o ⊢
  exact ⟨rfl, Outc.rd o b f hB hh⟩
end

/-- The disk of made, by what it has done. -/
def S7 (used ops : Int) : Ds := { room := 1000, used := used, ops := ops, down := false, left := 0, keep := [] }

theorem mp1 : createA (beginA [] (S7 0 0)) [97] = (0, ([([97], [], [])], S7 0 1)) := by kernel_rfl
theorem mp2 : createA (beginA [([97], [], [])] (S7 0 1)) [98] = (0, ([([97], [], []), ([98], [], [])], S7 0 2)) := by kernel_rfl
theorem mp3 (bs : List Int) (h : bs.length ≤ 300) : appendA (beginA [([97], [], []), ([98], [], [])] (S7 0 2)) [97] bs = (0, ([([97], bs, []), ([98], [], [])], S7 (sec bs.length) 3)) := by
  show writeA [([97], [], []), ([98], [], [])] (S7 0 3) ([97], [], []) 0 bs = _
  unfold writeA
  have h0 : moreA [] 0 bs = sec bs.length := by simp [moreA, sec]
  have h1 : sec bs.length ≤ 19 := by unfold sec; omega
  rw [if_neg (by simp), if_neg (by simp only [S7]; show ¬ 1000 - 0 < moreA [] 0 bs; rw [h0]; omega)]
  show ((0 : Int), (Go.Proofs.Ytbhjdcoehgajcaa.setA [([97], [], []), ([98], [], [])] ([97], putA [] 0 bs, []), { S7 0 3 with used := 0 + moreA [] 0 bs })) = _
  rw [h0]
  simp [Go.Proofs.Ytbhjdcoehgajcaa.setA, putA, S7]
theorem mp4 (cs bs : List Int) (ha : cs.length ≤ 300) (h : bs.length ≤ 300) : appendA (beginA [([97], cs, []), ([98], [], [])] (S7 (sec cs.length) 3)) [98] bs = (0, ([([97], cs, []), ([98], bs, [])], S7 (sec cs.length + sec bs.length) 4)) := by
  show writeA [([97], cs, []), ([98], [], [])] (S7 (sec cs.length) 4) ([98], [], []) 0 bs = _
  unfold writeA
  have h0 : moreA [] 0 bs = sec bs.length := by simp [moreA, sec]
  have h1 : sec bs.length ≤ 19 := by unfold sec; omega
  have h2 : sec cs.length ≤ 19 := by unfold sec; omega
  rw [if_neg (by simp), if_neg (by simp only [S7]; show ¬ 1000 - sec cs.length < moreA [] 0 bs; rw [h0]; omega)]
  show ((0 : Int), (Go.Proofs.Ytbhjdcoehgajcaa.setA [([97], cs, []), ([98], [], [])] ([98], putA [] 0 bs, []), { S7 (sec cs.length) 4 with used := sec cs.length + moreA [] 0 bs })) = _
  rw [h0]
  simp [Go.Proofs.Ytbhjdcoehgajcaa.setA, putA, S7]

/-- What of a row is filled. -/
def partF (f : Nat → Int) (a k : Nat) : List Int := (List.range a).map fun i => if i < k then f i else 0
def allOf (f : Nat → Int) (a : Nat) : List Int := (List.range a).map f
def fA : Nat → Int := fun i => (i : Int) % 256
def fB : Nat → Int := fun i => (7 * (i : Int)) % 256

theorem partF_zero (f : Nat → Int) (a : Nat) : partF f a 0 = zs0 a := by
  unfold partF zs0
  apply List.ext_getElem?
  intro i
  simp only [List.getElem?_map, List.getElem?_replicate]
  by_cases h : i < a <;> simp [h]
theorem partF_all (f : Nat → Int) (a : Nat) : partF f a a = allOf f a := by
  unfold partF allOf
  apply List.map_congr_left
  intro i hi
  rw [if_pos (List.mem_range.1 hi)]
theorem partF_step (f : Nat → Int) (a k : Nat) : (partF f a k).set k (f k) = partF f a (k + 1) := by
  unfold partF
  apply List.ext_getElem?
  intro i
  by_cases h : i < a
  · by_cases e : k = i
    · subst e
      rw [List.getElem?_set_self (by simp [h])]
      simp [h]
    · rw [List.getElem?_set_ne e]
      have : (i < k) = (i < k + 1) := by apply propext; omega
      simp [h, this]
  · rw [List.getElem?_eq_none (by simp; omega), List.getElem?_eq_none (by simp; omega)]
theorem allOf_length (f : Nat → Int) (a : Nat) : (allOf f a).length = a := by simp [allOf]

end Go.Proofs.Ytbhjdcoehgajcaa.L.P
