/-
  A disk of a law's own, beside which a block of the law's own is held. A lemma file: no statement of the seat is proved here.
-/
import Derived.Test.YtahhokhhgamelaaDRows
namespace Go.Proofs.Ytahhokhhgamelaa
open Go.RowKit Go.Maps Go.Sort Go.Shelf

/-- A disk of the call's own, all of whose blocks lie from B on; beside it blocks that hold what hs tells. -/
def Hd (B : Nat) (w0 w : World) (p : Nat) (l : List Ab) (s : Ds) (hs : List (Nat × Obj)) : Prop :=
  ∃ fp, Dk w fp p l s ∧ Below B w0 w ∧ (∀ x ∈ fp, B ≤ x) ∧ B ≤ w.heap.size ∧ ∀ z ∈ hs, B ≤ z.1 ∧ z.1 ∉ fp ∧ w.heap[z.1]? = some z.2

section
variable {B : Nat} {w0 w : World} {p : Nat} {l : List Ab} {s : Ds} {hs : List (Nat × Obj)}

theorem Outc.hd {w' : World} {fp : List Nat} {A : List Ab × Ds} (h : Outc w w' fp p A) (hb : Below B w0 w) (hf : ∀ x ∈ fp, B ≤ x) (hB : B ≤ w.heap.size) (hh : ∀ z ∈ hs, B ≤ z.1 ∧ z.1 ∉ fp ∧ w.heap[z.1]? = some z.2) : Hd B w0 w' p A.1 A.2 hs := by
  obtain ⟨fp', d, k, n⟩ := h
  refine ⟨fp', d, hb.trans (k.below hB hf), fun x hx => ?_, Nat.le_trans hB k.size, fun z hz => ?_⟩
  · rcases n x hx with h1 | h1
    · exact hf x h1
    · omega
  · obtain ⟨hg, hgf, hgo⟩ := hh z hz
    have hgl := (Array.getElem?_eq_some_iff.1 hgo).1
    refine ⟨hg, fun e => ?_, (k.block _ hgl hgf).trans hgo⟩
    rcases n _ e with h1 | h1
    · exact hgf h1
    · omega

theorem Hd.bel (h : Hd B w0 w p l s hs) : Below B w0 w := by
  obtain ⟨fp, d, b, _⟩ := h
  exact b
theorem Hd.base (h : Hd B w0 w p l s hs) : B ≤ w.heap.size := by
  obtain ⟨fp, d, b, f, hB, _⟩ := h
  exact hB
theorem Hd.fits (h : Hd B w0 w p l s hs) : s.used ≤ s.room := by
  obtain ⟨fp, d, _⟩ := h
  exact d.ok.fits
theorem Hd.block (h : Hd B w0 w p l s hs) {g : Nat} {o : Obj} (hm : (g, o) ∈ hs) : w.heap[g]? = some o := by
  obtain ⟨fp, d, b, f, hB, hh⟩ := h
  exact (hh _ hm).2.2
theorem Hd.mono (h : Hd B w0 w p l s hs) {hs' : List (Nat × Obj)} (hm : ∀ z ∈ hs', z ∈ hs) : Hd B w0 w p l s hs' := by
  obtain ⟨fp, d, b, f, hB, hh⟩ := h
  exact ⟨fp, d, b, f, hB, fun z hz => hh z (hm z hz)⟩

theorem Hd.below {w' : World} (h : Hd B w0 w p l s hs) (hb : Below w.heap.size w w') : Hd B w0 w' p l s hs := by
  obtain ⟨fp, d, b, f, hB, hh⟩ := h
  refine ⟨fp, d.below hb, b.trans (hb.mono hB), f, Nat.le_trans hB hb.size, fun z hz => ?_⟩
  obtain ⟨hg, hgf, hgo⟩ := hh z hz
  exact ⟨hg, hgf, (hb.block _ (Array.getElem?_eq_some_iff.1 hgo).1).trans hgo⟩

theorem Sd.hd (h : Sd B w0 w p l s) : Hd B w0 w p l s [] := by
  obtain ⟨fp, d, b, f, hB⟩ := h
  exact ⟨fp, d, b, f, hB, by simp⟩

/-- A block that was just made is held. -/
theorem Hd.add (h : Hd B w0 w p l s hs) (o : Obj) : Hd B w0 (w.alloc o) p l s ((w.heap.size, o) :: hs) := by
  obtain ⟨fp, d, b, f, hB, hh⟩ := h
  have hlt := d.lt
  refine ⟨fp, d.below ((Below.refl _ w).alloc (Nat.le_refl _) o), b.alloc hB _, f, by simp; omega, fun z hz => ?_⟩
  rcases List.mem_cons.1 hz with rfl | hz
  · exact ⟨hB, fun e => by have := hlt _ e; omega, heap_alloc_new w o⟩
  · obtain ⟨hg, hgf, hgo⟩ := hh z hz
    exact ⟨hg, hgf, (Below.heap_alloc w o _ (Array.getElem?_eq_some_iff.1 hgo).1).trans hgo⟩

/-- A cell of the first block is written. -/
theorem Hd.stored {g : Nat} {cs : Array Value} {T : TypeId} (h : Hd B w0 w p l s ((g, .cells cs T (0, 0)) :: hs)) (hne : ∀ z ∈ hs, z.1 ≠ g) (j : Nat) (u : Value) : Hd B w0 (w.setCell ⟨g, j, none⟩ u) p l s ((g, .cells (cs.setIfInBounds j u) T (0, 0)) :: hs) := by
  obtain ⟨fp, d, b, f, hB, hh⟩ := h
  obtain ⟨hg, hgf, hgo⟩ := hh _ (List.mem_cons_self ..)
  dsimp only at hg hgf hgo
  have hk : Kept [g] w (w.setCell ⟨g, j, none⟩ u) := (Kept.refl _ _).setCell (.inl (by simp)) _
  refine ⟨fp, d.kept hk (fun x hx e => hgf (by simp at e; subst e; exact hx)), b.trans (hk.below hB (by simpa using hg)), f, Nat.le_trans hB hk.size, fun z hz => ?_⟩
  rcases List.mem_cons.1 hz with rfl | hz
  · exact ⟨hg, hgf, heap_setCell_same w g j cs T u hgo⟩
  · obtain ⟨hg', hgf', hgo'⟩ := hh z (List.mem_cons_of_mem _ hz)
    exact ⟨hg', hgf', (hk.block _ (Array.getElem?_eq_some_iff.1 hgo').1 (by simpa using hne z hz)).trans hgo'⟩

/-- Append, of bytes that came in. -/
theorem Hd.append (h : Hd B w0 w p l s hs) (hn : s.ops ≤ 1000000) (nm : ByteArray) (hnm : nm.size ≤ maxLen) (u : Value) (cs : List Int) (hu : IsB w u cs) (hcl : cs.length ≤ 1073741824) (hux : cs ≠ [] → ∀ x ∈ own u, x < B) {k : Int} {l' : List Ab} {s' : Ds} (hr : appendA (beginA l s) nm.data.toList cs = (k, (l', s'))) :
    Calls Try.prog 18 #[.pointer (some ⟨p, 0, none⟩), .string nm, u] w fun e w' => e = .returned (.int .i64 k) ∧ Hd B w0 w' p l' s' hs := by
  obtain ⟨fp, d, b, f, hB, hh⟩ := h
  refine (d.append hn nm hnm u cs hu hcl (fun hne x hx e => by have := hux hne x hx; have := f x e; omega)).mono ?_
  rintro e w' ⟨rfl, o⟩
  rw [hr] at o ⊢
  exact ⟨rfl, o.hd b f hB hh⟩

theorem Hd.writeAt (h : Hd B w0 w p l s hs) (hn : s.ops ≤ 1000000) (nm : ByteArray) (hnm : nm.size ≤ maxLen) (at_ : Int) (h64 : -9223372036854775808 ≤ at_ ∧ at_ ≤ 9223372036854775807) (u : Value) (cs : List Int) (hu : IsB w u cs) (hcl : cs.length ≤ 1073741824) (hux : cs ≠ [] → ∀ x ∈ own u, x < B) {k : Int} {l' : List Ab} {s' : Ds} (hr : writeAtA (beginA l s) nm.data.toList at_ cs = (k, (l', s'))) :
    Calls Try.prog 20 #[.pointer (some ⟨p, 0, none⟩), .string nm, .int .i64 at_, u] w fun e w' => e = .returned (.int .i64 k) ∧ Hd B w0 w' p l' s' hs := by
  obtain ⟨fp, d, b, f, hB, hh⟩ := h
  refine (d.writeAt hn nm hnm at_ h64 u cs hu hcl (fun hne x hx e => by have := hux hne x hx; have := f x e; omega)).mono ?_
  rintro e w' ⟨rfl, o⟩
  rw [hr] at o ⊢
  exact ⟨rfl, o.hd b f hB hh⟩

theorem Hd.size (h : Hd B w0 w p l s hs) (hn : s.ops ≤ 1000000) (nm : ByteArray) (hnm : nm.size ≤ maxLen) {k m : Int} {l' : List Ab} {s' : Ds} (hr : beginA l s = (l', s')) (hm : sizeA (l', s') nm.data.toList = (m, k)) :
    Calls Try.prog 24 #[.pointer (some ⟨p, 0, none⟩), .string nm] w fun e w' => e = .returned (.tuple #[.int .i64 m, .int .i64 k]) ∧ Hd B w0 w' p l' s' hs := by
  obtain ⟨fp, d, b, f, hB, hh⟩ := h
  refine (d.size hn nm hnm).mono ?_
  rintro e w' ⟨rfl, o⟩
  rw [hr] at o ⊢
  rw [hm]
  exact ⟨rfl, o.hd b f hB hh⟩

theorem Hd.used (h : Hd B w0 w p l s hs) : Calls Try.prog 42 #[.pointer (some ⟨p, 0, none⟩)] w fun e w' => e = .returned (.int .i64 s.used) ∧ w' = w := by
  obtain ⟨fp, d, _⟩ := h
  exact d.used
theorem Hd.room (h : Hd B w0 w p l s hs) : Calls Try.prog 44 #[.pointer (some ⟨p, 0, none⟩)] w fun e w' => e = .returned (.int .i64 s.room) ∧ w' = w := by
  obtain ⟨fp, d, _⟩ := h
  exact d.room
end

/-- A slice that is not empty leads to memory. -/
theorem IsBB.opened {w : World} {v : Value} {bss : List (List Int)} (h : IsBB w v bss) (h0 : 0 < bss.length) :
    ∃ b off cap, v = .slice (some ⟨b, off, none⟩) bss.length cap ∧ bss.length ≤ cap ∧ ∀ j, j < bss.length → ∃ a c, w.cell? ⟨b, off + j, none⟩ = some (.slice a (bss[j]?.getD []).length c) ∧ IsB w (.slice a (bss[j]?.getD []).length c) (bss[j]?.getD []) := by
  obtain ⟨a, cap, rfl, h1, h2, h3⟩ := h
  cases a with
  | none => simp [(h2 rfl).1] at h0
  | some x =>
    obtain ⟨b, off, spot⟩ := x
    obtain ⟨u, hc, _⟩ := h3 _ rfl 0 h0
    have hspot : spot = none := by simpa [Addr.add] using World.cell?_spot hc
    subst hspot
    refine ⟨b, off, cap, rfl, h1, fun j hj => ?_⟩
    obtain ⟨u, hu, hi⟩ := h3 _ rfl j hj
    rw [Addr.add_lit] at hu
    obtain ⟨a, c, rfl, _⟩ := hi.form
    exact ⟨a, c, hu, hi⟩

/-- min, of a length and a number. -/
theorem min_len (n k : Nat) (K : Int) (hK : K = (k : Int)) : ∀ (ts : Array TypeId) (t : TypeId) (w : World), (Builtin.min_ ts t #[.int .i64 (n : Int), .int .i64 K]).run Try.prog w = .ok (.int .i64 ((min n k : Nat) : Int)) w := fun ts t w => by
  rw [run_min_int2, hK]
  congr 2
  split <;> omega

/-- A piece of at most sixty bytes, out of a row that came in: whatever came behind. -/
theorem piece {w : World} {bss : List (List Int)} {b off : Nat} (h : ∀ j, j < bss.length → ∃ a c, w.cell? ⟨b, off + j, none⟩ = some (.slice a (bss[j]?.getD []).length c) ∧ IsB w (.slice a (bss[j]?.getD []).length c) (bss[j]?.getD [])) (k : Nat) (hk : k < bss.length) (B : Nat) (hB : B = w.heap.size) :
    ∃ (a : Option Addr) (n c m : Nat) (cs : List Int), (∀ w', Below B w w' → w'.cell? ⟨b, off + k, none⟩ = some (.slice a n c)) ∧ (∀ (ts : Array TypeId) (t : TypeId) (w : World), (Builtin.min_ ts t #[.int .i64 (n : Int), .int .i64 60]).run Try.prog w = .ok (.int .i64 (m : Int)) w) ∧
      cs.length = m ∧ m ≤ 60 ∧ m ≤ n ∧ n ≤ c ∧ (∀ w', Below B w w' → IsB w' (.slice a m c) cs) ∧ (cs ≠ [] → ∀ x ∈ own (.slice a m c), x < B) := by
  subst hB
  obtain ⟨a, c, hc, hi⟩ := h k hk
  obtain ⟨_, _, he, hle, _⟩ := id hi
  simp only [Value.slice.injEq, true_and] at he
  obtain ⟨rfl, rfl⟩ := he
  have ht := hi.take (min (bss[k]?.getD []).length 60) (by omega)
  exact ⟨a, _, c, min (bss[k]?.getD []).length 60, (bss[k]?.getD []).take (min (bss[k]?.getD []).length 60), fun w' hb => (World.cell?_of_block (w := w) (hb.block _ (World.block_lt_of_cell? w _ hc))).trans hc, min_len _ 60 60 rfl, by simp, by omega, by omega, hle, fun w' hb => ht.below hb, fun hne => ht.lt hne⟩

/-- 'make([]int, 2)'. -/
theorem make2 (w : World) : (Instr.makeSlice 58 (.int .i64 2) (.int .i64 2)).run Try.prog w = .ok (.slice (some ⟨w.heap.size, 0, none⟩) 2 2) (w.alloc (.cells #[.int .i64 0, .int .i64 0] 3)) := by
  have hinfo : (Try.prog.info? 3).map (fun i => (i.zero, i.size, i.bytes)) = some (some (.int .i64 0), 1, 8) := by kernel_rfl
  obtain ⟨i0, hi, hz0, hz1, hz2⟩ := info_parts hinfo
  have := run_make (P := Try.prog) w 58 3 i0 (.int .i64 0) Try.underlying58 hi hz0 .i64 .i64 2 2 (by omega) (by omega) (by rw [hz2]; omega) (by omega)
  have e : madeCells (Value.int .i64 0).cells (Int.toNat 2 * 1) = #[.int .i64 0, .int .i64 0] := by kernel_rfl
  rw [hz1, e] at this
  exact this

end Go.Proofs.Ytahhokhhgamelaa
