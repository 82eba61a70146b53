/-
  A disk of a law's own; what shown answers. A lemma file: no statement of the seat is proved here.
-/
import Derived.Test.YtbhjdcoehgajcaaDMeth2
namespace Go.Proofs.Ytbhjdcoehgajcaa
open Go.RowKit Go.Maps Go.Sort Go.Shelf

/-- So many 0s. -/
def zs0 (n : Nat) : List Int := List.replicate n 0

theorem zs0_length (n : Nat) : (zs0 n).length = n := List.length_replicate

/-- 'make([]byte, n)'. -/
theorem wp_makeB {ops : Array Oper} {rest : List Oper} {o : Oper} {a : Act} {Q : Exit → Act → World → Prop} (w : World) (hg : o.guard = none) (x y : Operand) (hop : o.op = Op.makeSlice 28 x y) (n : Nat) (L C : Int)
    (hl : a.eval x = .int .i64 L) (hc : a.eval y = .int .i64 C) (hL : L = (n : Int)) (hC : C = (n : Int)) (hn : n ≤ 1099511627776)
    (h : ∀ w', RowB w' (.slice (some ⟨w.heap.size, 0, none⟩) n n) (zs0 n) → Below w.heap.size w w' → wpList Try.prog ops Q rest (a.put o.dst (.slice (some ⟨w.heap.size, 0, none⟩) n n)) w') :
    wpList Try.prog ops Q (o :: rest) a w := by
  obtain ⟨i0, hi, hz0, hz1, hz2⟩ := info_parts Try.infoU8
  refine wpList_make_full w hg x y 28 hop 0 5 i0 (.int .u8 0) 1 Try.underlying28 hi hz0 hz1 .i64 .i64 L C n hl hc hL hC (by rw [hz2]; omega) (by unfold maxLen; omega) (Nat.zero_le _) ?_
  intro w' hown hgr
  refine h w' ⟨?_, ?_⟩ (⟨hgr.os, hgr.tape, hgr.output, hgr.size, fun k hk => hgr.block k hk (by simp)⟩ : Below w.heap.size w w')
  · have e : (madeCells (Value.int .u8 0).cells (n * 1)).toList = (List.replicate n (0 : Int)).map (Value.int .u8) := by
      simp [madeCells, Value.cells]
      apply List.ext_getElem?
      intro i
      by_cases hi : i < n
      · simp [hi, Nat.mod_one]
      · simp [hi]
    rw [e] at hown
    unfold zs0
    simpa using hown
  · intro z hz
    unfold zs0 at hz
    rw [(List.mem_replicate.1 hz).2]
    omega

/-- A disk of the call's own, all of whose blocks lie from B on. -/
def Sd (B : Nat) (w0 w : World) (p : Nat) (l : List Ab) (s : Ds) : Prop := ∃ fp, Dk w fp p l s ∧ Below B w0 w ∧ (∀ x ∈ fp, B ≤ x) ∧ B ≤ w.heap.size

section
variable {B : Nat} {w0 w : World} {p : Nat} {l : List Ab} {s : Ds}

theorem Outc.sd {w' : World} {fp : List Nat} {A : List Ab × Ds} (h : Outc w w' fp p A) (hb : Below B w0 w) (hf : ∀ x ∈ fp, B ≤ x) (hB : B ≤ w.heap.size) : Sd B w0 w' p A.1 A.2 := by
  obtain ⟨fp', d, k, n⟩ := h
  refine ⟨fp', d, hb.trans (k.below hB hf), fun x hx => ?_, Nat.le_trans hB k.size⟩
  rcases n x hx with h1 | h1
  · exact hf x h1
  · omega

theorem Sd.base (h : Sd B w0 w p l s) : B ≤ w.heap.size := by
  obtain ⟨fp, d, b, f, hB⟩ := h
  exact hB
theorem Sd.bel (h : Sd B w0 w p l s) : Below B w0 w := by
  obtain ⟨fp, d, b, f, hB⟩ := h
  exact b

theorem Sd.below {w' : World} (h : Sd B w0 w p l s) (hb : Below w.heap.size w w') : Sd B w0 w' p l s := by
  obtain ⟨fp, d, b, f, hB⟩ := h
  exact ⟨fp, d.below hb, b.trans (hb.mono hB), f, Nat.le_trans hB hb.size⟩

theorem Sd.new (room : Int) (hr : room ≤ 67108864) (w : World) (hb : Below B w0 w) (hB : B ≤ w.heap.size) : Calls Try.prog 24 #[.int .i64 room] w fun e w' => e = .returned (.pointer (some ⟨w.heap.size + 1, 0, none⟩)) ∧
    Sd B w0 w' (w.heap.size + 1) [] { room := max room 0, used := 0, ops := 0, down := false, left := 0, keep := [] } := by
  refine (new_dk room hr w).mono ?_
  rintro e w' ⟨rfl, fp, d, b, f⟩
  exact ⟨rfl, fp, d, hb.trans (b.mono hB), fun x hx => Nat.le_trans hB (f x hx), Nat.le_trans hB b.size⟩

theorem Sd.create (h : Sd B w0 w p l s) (hn : s.ops ≤ 1000000) (nm : ByteArray) (hnm : nm.size ≤ maxLen) {k : Int} {l' : List Ab} {s' : Ds} (hr : createA (beginA l s) nm.data.toList = (k, (l', s'))) :
    Calls Try.prog 25 #[.pointer (some ⟨p, 0, none⟩), .string nm] w fun e w' => e = .returned (.int .i64 k) ∧ Sd B w0 w' p l' s' := by
  obtain ⟨fp, d, b, f, hB⟩ := h
  refine (d.create hn nm hnm).mono ?_
  rintro e w' ⟨rfl, o⟩
  rw [hr] at o ⊢
  exact ⟨rfl, o.sd b f hB⟩

/-- Append, of bytes that came in. -/
theorem Sd.append (h : Sd B w0 w p l s) (hn : s.ops ≤ 1000000) (nm : ByteArray) (hnm : nm.size ≤ maxLen) (u : Value) (cs : List Int) (hu : IsB w u cs) (hcl : cs.length ≤ 1073741824) (hux : cs ≠ [] → ∀ x ∈ own u, x < B) {k : Int} {l' : List Ab} {s' : Ds} (hr : appendA (beginA l s) nm.data.toList cs = (k, (l', s'))) :
    Calls Try.prog 26 #[.pointer (some ⟨p, 0, none⟩), .string nm, u] w fun e w' => e = .returned (.int .i64 k) ∧ Sd B w0 w' p l' s' := by
  obtain ⟨fp, d, b, f, hB⟩ := h
  refine (d.append hn nm hnm u cs hu hcl (fun hne x hx e => by have := hux hne x hx; have := f x e; omega)).mono ?_
  rintro e w' ⟨rfl, o⟩
  rw [hr] at o ⊢
  exact ⟨rfl, o.sd b f hB⟩

/-- Append, of bytes that were made behind the disk's last operation. -/
theorem Sd.appendN {w1 : World} (h : Sd B w0 w p l s) (hn : s.ops ≤ 1000000) (nm : ByteArray) (hnm : nm.size ≤ maxLen) (u : Value) (cs : List Int) (hb : Below w.heap.size w w1) (hu : IsB w1 u cs) (hcl : cs.length ≤ 1073741824) (hux : ∀ x ∈ own u, w.heap.size ≤ x) {k : Int} {l' : List Ab} {s' : Ds} (hr : appendA (beginA l s) nm.data.toList cs = (k, (l', s'))) :
    Calls Try.prog 26 #[.pointer (some ⟨p, 0, none⟩), .string nm, u] w1 fun e w' => e = .returned (.int .i64 k) ∧ Sd B w0 w' p l' s' := by
  obtain ⟨fp, d, b, f, hB⟩ := h
  have hlt := d.lt
  refine ((d.below hb).append hn nm hnm u cs hu hcl (fun _ x hx e => by have := hux x hx; have := hlt x e; omega)).mono ?_
  rintro e w' ⟨rfl, o⟩
  rw [hr] at o ⊢
  exact ⟨rfl, o.sd (b.trans (hb.mono hB)) f (Nat.le_trans hB hb.size)⟩

theorem Sd.size (h : Sd B w0 w p l s) (hn : s.ops ≤ 1000000) (nm : ByteArray) (hnm : nm.size ≤ maxLen) {k m : Int} {l' : List Ab} {s' : Ds} (hr : beginA l s = (l', s')) (hm : sizeA (l', s') nm.data.toList = (m, k)) :
    Calls Try.prog 45 #[.pointer (some ⟨p, 0, none⟩), .string nm] w fun e w' => e = .returned (.tuple #[.int .i64 m, .int .i64 k]) ∧ Sd B w0 w' p l' s' := by
  obtain ⟨fp, d, b, f, hB⟩ := h
  refine (d.size hn nm hnm).mono ?_
  rintro e w' ⟨rfl, o⟩
  rw [hr] at o ⊢
  rw [hm]
  exact ⟨rfl, o.sd b f hB⟩

theorem Sd.crash (h : Sd B w0 w p l s) (hn : s.ops ≤ 1048576) (u : Value) (ks : List Bool) (hu : IsK w u ks) (hux : ks ≠ [] → ∀ x ∈ own u, x < B) (hkl : ks.length ≤ 1099511627776) {l' : List Ab} {s' : Ds} (hr : crashA ks l s = (l', s')) :
    Calls Try.prog 22 #[.pointer (some ⟨p, 0, none⟩), u] w fun e w' => e = .returned (.tuple #[]) ∧ Sd B w0 w' p l' s' := by
  obtain ⟨fp, d, b, f, hB⟩ := h
  refine (d.crash hn u ks hu (fun hne x hx e => by have := hux hne x hx; have := f x e; omega) hkl).mono ?_
  rintro e w' ⟨rfl, o⟩
  rw [hr] at o
  exact ⟨rfl, o.sd b f hB⟩

theorem Sd.arm (h : Sd B w0 w p l s) (n : Int) (hn : n ≤ 9223372036854775807) (u : Value) (ks : List Bool) (hu : IsK w u ks) (hux : ks ≠ [] → ∀ x ∈ own u, x < B) (hkl : ks.length ≤ 1099511627776) {l' : List Ab} {s' : Ds} (hr : armA l s n ks = (l', s')) :
    Calls Try.prog 41 #[.pointer (some ⟨p, 0, none⟩), .int .i64 n, u] w fun e w' => e = .returned (.tuple #[]) ∧ Sd B w0 w' p l' s' := by
  obtain ⟨fp, d, b, f, hB⟩ := h
  refine (d.arm n hn u ks hu (fun hne x hx e => by have := hux hne x hx; have := f x e; omega) hkl).mono ?_
  rintro e w' ⟨rfl, o⟩
  rw [hr] at o
  exact ⟨rfl, o.sd b f hB⟩

theorem Sd.restart (h : Sd B w0 w p l s) : Calls Try.prog 23 #[.pointer (some ⟨p, 0, none⟩)] w fun e w' => e = .returned (.tuple #[]) ∧ Sd B w0 w' p l { s with down := false } := by
  obtain ⟨fp, d, b, f, hB⟩ := h
  refine d.restart.mono ?_
  rintro e w' ⟨rfl, o⟩
  exact ⟨rfl, o.sd b f hB⟩

theorem Sd.ops (h : Sd B w0 w p l s) : Calls Try.prog 20 #[.pointer (some ⟨p, 0, none⟩)] w fun e w' => e = .returned (.int .i64 s.ops) ∧ w' = w := by
  obtain ⟨fp, d, _⟩ := h
  exact d.ops
end

end Go.Proofs.Ytbhjdcoehgajcaa
