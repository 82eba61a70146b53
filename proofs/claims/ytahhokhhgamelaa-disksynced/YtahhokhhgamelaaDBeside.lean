/-
  A disk of a law's own, and beside it a row of bytes of the law's own, that grows. A lemma file: no statement of the seat is proved here.
-/
import Derived.Test.YtahhokhhgamelaaDHold
namespace Go.Proofs.Ytahhokhhgamelaa
open Go.RowKit Go.Maps Go.Sort Go.Shelf

/-- A disk of the call's own, all of whose blocks lie from B on; beside it the row v. -/
def Bd (B : Nat) (w0 w : World) (p : Nat) (l : List Ab) (s : Ds) (v : Value) (ws : List Int) : Prop :=
  ∃ fp, Dk w fp p l s ∧ Below B w0 w ∧ (∀ x ∈ fp, B ≤ x) ∧ B ≤ w.heap.size ∧ RowB w v ws ∧ ∀ x ∈ own v, B ≤ x ∧ x ∉ fp

section
variable {B : Nat} {w0 w : World} {p : Nat} {l : List Ab} {s : Ds} {v : Value} {ws : List Int}

theorem Bd.bel (h : Bd B w0 w p l s v ws) : Below B w0 w := by
  obtain ⟨fp, d, b, _⟩ := h
  exact b
theorem Bd.base (h : Bd B w0 w p l s v ws) : B ≤ w.heap.size := by
  obtain ⟨fp, d, b, f, hB, _⟩ := h
  exact hB
theorem Bd.row (h : Bd B w0 w p l s v ws) : RowB w v ws := by
  obtain ⟨fp, d, b, f, hB, hr, _⟩ := h
  exact hr

theorem Outc.bd {w' : World} {fp : List Nat} {A : List Ab × Ds} (h : Outc w w' fp p A) (hb : Below B w0 w) (hf : ∀ x ∈ fp, B ≤ x) (hB : B ≤ w.heap.size) (hr : RowB w v ws) (hv : ∀ x ∈ own v, B ≤ x ∧ x ∉ fp) : Bd B w0 w' p A.1 A.2 v ws := by
  obtain ⟨fp', d, k, n⟩ := h
  have hlt := hr.lt
  refine ⟨fp', d, hb.trans (k.below hB hf), fun x hx => ?_, Nat.le_trans hB k.size, hr.kept k (fun x hx => (hv x hx).2), fun x hx => ⟨(hv x hx).1, fun e => ?_⟩⟩
  · rcases n x hx with h1 | h1
    · exact hf x h1
    · omega
  · rcases n x e with h1 | h1
    · exact (hv x hx).2 h1
    · have := hlt x hx
      omega

theorem Bd.below {w' : World} (h : Bd B w0 w p l s v ws) (hb : Below w.heap.size w w') : Bd B w0 w' p l s v ws := by
  obtain ⟨fp, d, b, f, hB, hr, hv⟩ := h
  exact ⟨fp, d.below hb, b.trans (hb.mono hB), f, Nat.le_trans hB hb.size, hr.kept (Kept.of_below (fp := []) hb) (by simp), hv⟩

/-- The row is written, and may lie elsewhere. -/
theorem Bd.turn {w1 w' : World} {v' : Value} {ws' : List Int} (h : Bd B w0 w p l s v ws) (hb : Below w.heap.size w w1) (hr : RowB w' v' ws') (hk : Kept (own v) w1 w') (hn : Newly w1 (own v) (own v')) : Bd B w0 w' p l s v' ws' := by
  obtain ⟨fp, d, b, f, hB, _, hv⟩ := h.below hb
  have hlt := d.lt
  refine ⟨fp, d.kept hk (fun x hx e => (hv x e).2 hx), b.trans (hk.below hB (fun x hx => (hv x hx).1)), f, Nat.le_trans hB hk.size, hr, fun x hx => ?_⟩
  rcases hn x hx with h1 | h1
  · exact hv x h1
  · exact ⟨by omega, fun e => by have := hlt x e; omega⟩

theorem Sd.beside {w' : World} {v' : Value} {ws' : List Int} (h : Sd B w0 w p l s) (hb : Below w.heap.size w w') (hr : RowB w' v' ws') (hv : ∀ x ∈ own v', w.heap.size ≤ x) : Bd B w0 w' p l s v' ws' := by
  obtain ⟨fp, d, b, f, hB⟩ := h
  have hlt := d.lt
  exact ⟨fp, d.below hb, b.trans (hb.mono hB), f, Nat.le_trans hB hb.size, hr, fun x hx => ⟨Nat.le_trans hB (hv x hx), fun e => by have := hlt x e; have := hv x hx; omega⟩⟩

theorem Bd.writeAt (h : Bd B w0 w p l s v ws) (hn : s.ops ≤ 1000000) (nm : ByteArray) (hnm : nm.size ≤ maxLen) (at_ : Int) (h64 : -9223372036854775808 ≤ at_ ∧ at_ ≤ 9223372036854775807) (u : Value) (cs : List Int) (hu : IsB w u cs) (hcl : cs.length ≤ 1073741824) (hux : cs ≠ [] → ∀ x ∈ own u, x < B) {k : Int} {l' : List Ab} {s' : Ds} (hr : writeAtA (beginA l s) nm.data.toList at_ cs = (k, (l', s'))) :
    Calls Try.prog 20 #[.pointer (some ⟨p, 0, none⟩), .string nm, .int .i64 at_, u] w fun e w' => e = .returned (.int .i64 k) ∧ Bd B w0 w' p l' s' v ws := by
  obtain ⟨fp, d, b, f, hB, hrow, hv⟩ := h
  refine (d.writeAt hn nm hnm at_ h64 u cs hu hcl (fun hne x hx e => by have := hux hne x hx; have := f x e; omega)).mono ?_
  rintro e w' ⟨rfl, o⟩
  rw [hr] at o ⊢
  exact ⟨rfl, o.bd b f hB hrow hv⟩

theorem Bd.size (h : Bd B w0 w p l s v ws) (hn : s.ops ≤ 1000000) (nm : ByteArray) (hnm : nm.size ≤ maxLen) {k m : Int} {l' : List Ab} {s' : Ds} (hr : beginA l s = (l', s')) (hm : sizeA (l', s') nm.data.toList = (m, k)) :
    Calls Try.prog 24 #[.pointer (some ⟨p, 0, none⟩), .string nm] w fun e w' => e = .returned (.tuple #[.int .i64 m, .int .i64 k]) ∧ Bd B w0 w' p l' s' v ws := by
  obtain ⟨fp, d, b, f, hB, hrow, hv⟩ := h
  refine (d.size hn nm hnm).mono ?_
  rintro e w' ⟨rfl, o⟩
  rw [hr] at o ⊢
  rw [hm]
  exact ⟨rfl, o.bd b f hB hrow hv⟩

theorem Bd.used (h : Bd B w0 w p l s v ws) : Calls Try.prog 42 #[.pointer (some ⟨p, 0, none⟩)] w fun e w' => e = .returned (.int .i64 s.used) ∧ w' = w := by
  obtain ⟨fp, d, _⟩ := h
  exact d.used

/-- ReadAt, of a file that there is; what was read is a row of its own. -/
theorem Bd.read (h : Bd B w0 w p l s v ws) (hn : s.ops ≤ 1000000) (nm : ByteArray) (hnm : nm.size ≤ maxLen) {x : Ab} (he : errA (beginA l s) nm.data.toList = none) (hx : lookA (beginA l s).1 nm.data.toList = some x) (a m : Nat) (ham : a + m ≤ x.2.1.length) {l' : List Ab} {s' : Ds} (hr : beginA l s = (l', s')) :
    Calls Try.prog 22 #[.pointer (some ⟨p, 0, none⟩), .string nm, .int .i64 (a : Int), .int .i64 (m : Int)] w fun e w' => ∃ y, e = .returned (.tuple #[y, .int .i64 0]) ∧ RowB w' y ((x.2.1.drop a).take m) ∧ Bd B w0 w' p l' s' v ws := by
  obtain ⟨fp, d, b, f, hB, hrow, hv⟩ := h
  refine (d.read hn nm hnm he hx a m ham).mono ?_
  rintro e w' ⟨y, rfl, r, fp', d', k', n', o'⟩
  rw [hr] at d'
  exact ⟨y, rfl, r, Outc.bd (A := (l', s')) ⟨fp', d', k', n'⟩ b f hB hrow hv⟩
end

/-- One byte more is written over. -/
theorem putA_step (ws cs : List Int) (k n : Nat) (hk : k ≤ ws.length) (hn : n < cs.length) :
    putA ws k (cs.take (n + 1)) = if k + n < (putA ws k (cs.take n)).length then (putA ws k (cs.take n)).set (k + n) (cs[n]?.getD 0) else putA ws k (cs.take n) ++ [cs[n]?.getD 0] := by
  have e1 : (cs.take n).length = n := by simp; omega
  have e2 : (cs.take (n + 1)).length = n + 1 := by simp; omega
  have e3 : cs.take (n + 1) = cs.take n ++ [cs[n]?.getD 0] := by
    rw [List.take_succ_eq_append_getElem hn]
    simp [hn]
  have e4 : (ws.take k).length = k := by simp; omega
  have hl := putA_length ws k (cs.take n) hk
  rw [e1] at hl
  by_cases h : k + n < (putA ws k (cs.take n)).length
  · rw [if_pos h]
    have hkn : k + n < ws.length := by omega
    unfold putA
    rw [e1, e2, List.set_append_right _ _ (by omega), List.set_append_right _ _ (by omega), e4, e1, e3, List.append_assoc]
    congr 2
    rw [show k + n - k - n = 0 by omega, List.drop_eq_getElem_cons hkn, List.set_cons_zero]
    simp [Nat.add_assoc]
  · rw [if_neg h]
    unfold putA
    rw [e1, e2, e3, List.drop_of_length_le (by omega), List.drop_of_length_le (by omega)]
    simp

end Go.Proofs.Ytahhokhhgamelaa
