/-
  Caches with keys of type int, of a law's own. A lemma file: no statement of the seat is proved here.
-/
import Derived.Test.YtokodmeabchmjaaLAllI
namespace Go.Proofs.Ytokodmeabchmjaa.I
open Go.RowKit Go.Maps

/-- A cache that lies behind all that lay in w0; nothing of that is changed. -/
def Lc (w0 w : World) (p : Nat) (fr : Int) (N : Nat) (l : List (Key × Nat)) : Prop := ∃ fp, Ck kI w fp p fr N l ∧ (∀ x ∈ fp, w0.heap.size ≤ x) ∧ Below w0.heap.size w0 w

section
variable {w0 w w' : World} {p : Nat} {fr : Int} {N : Nat} {l : List (Key × Nat)}

theorem Lc.bel (h : Lc w0 w p fr N l) : Below w0.heap.size w0 w := by obtain ⟨_, _, _, h⟩ := h; exact h

theorem Lc.below (h : Lc w0 w p fr N l) (hb : Below w.heap.size w w') : Lc w0 w' p fr N l := by
  obtain ⟨fp, h1, h2, h3⟩ := h
  exact ⟨fp, h1.below hb, h2, below_then h3 hb⟩

theorem Lc.drew (h : Lc w0 w p fr N l) : Lc w0 w.drew p fr N l := h.below (Below.refl _ w).drew

theorem Lc.out {fp : List Nat} {l' : List (Key × Nat)} {M : Nat} (h2 : ∀ x ∈ fp, w0.heap.size ≤ x) (h3 : Below w0.heap.size w0 w) (o : Outc kI w w' fp p fr M l') : Lc w0 w' p fr M l' := by
  obtain ⟨fp', o1, o2, o3⟩ := o
  refine ⟨fp', o1, fun x hx => ?_, h3.trans (o2.below h3.size h2)⟩
  rcases o3 x hx with h | h
  · exact h2 x h
  · exact Nat.le_trans h3.size h

theorem Lc.use (h : Lc w0 w p fr N l) (hN : N + 1 ≤ 1000000) (k : Key) (hok : kI.ok k) {g : Option Key} {e : Int} {l' : List (Key × Nat)} (he : useA fr l k = (g, e, l')) :
    Calls Try.prog 26 #[.pointer (some ⟨p, 0, none⟩), kI.enc k] w fun x w' => x = .returned (.tuple #[goneV g, .bool g.isSome, .int .i64 e]) ∧ Lc w0 w' p fr (N + 1) l' := by
  obtain ⟨fp, h1, h2, h3⟩ := h
  refine (use_any h1 hN k hok).mono ?_
  rintro x w' ⟨rfl, o⟩
  rw [he] at o ⊢
  exact ⟨rfl, Lc.out h2 h3 o⟩

theorem Lc.pin (h : Lc w0 w p fr N l) (k : Key) (hok : kI.ok k) (hn : ∀ n, lookA l k = some n → n ≤ 1000000) {e : Int} {l' : List (Key × Nat)} (he : pinA l k = (e, l')) :
    Calls Try.prog 27 #[.pointer (some ⟨p, 0, none⟩), kI.enc k] w fun x w' => x = .returned (.int .i64 e) ∧ Lc w0 w' p fr N l' := by
  obtain ⟨fp, h1, h2, h3⟩ := h
  refine (pin_any h1 k hok hn).mono ?_
  rintro x w' ⟨rfl, o⟩
  rw [he] at o ⊢
  exact ⟨rfl, Lc.out h2 h3 o⟩

theorem Lc.unpin (h : Lc w0 w p fr N l) (k : Key) (hok : kI.ok k) (hn : ∀ n, lookA l k = some n → n ≤ 1000000) {e : Int} {l' : List (Key × Nat)} (he : unpinA l k = (e, l')) :
    Calls Try.prog 31 #[.pointer (some ⟨p, 0, none⟩), kI.enc k] w fun x w' => x = .returned (.int .i64 e) ∧ Lc w0 w' p fr N l' := by
  obtain ⟨fp, h1, h2, h3⟩ := h
  refine (unpin_any h1 k hok hn).mono ?_
  rintro x w' ⟨rfl, o⟩
  rw [he] at o ⊢
  exact ⟨rfl, Lc.out h2 h3 o⟩

theorem Lc.drop (h : Lc w0 w p fr N l) (k : Key) (hok : kI.ok k) {e : Int} {l' : List (Key × Nat)} (he : dropA l k = (e, l')) :
    Calls Try.prog 30 #[.pointer (some ⟨p, 0, none⟩), kI.enc k] w fun x w' => x = .returned (.int .i64 e) ∧ Lc w0 w' p fr N l' := by
  obtain ⟨fp, h1, h2, h3⟩ := h
  refine (drop_any h1 k hok).mono ?_
  rintro x w' ⟨rfl, o⟩
  rw [he] at o ⊢
  exact ⟨rfl, Lc.out h2 h3 o⟩

theorem Lc.has (h : Lc w0 w p fr N l) (k : Key) (hok : kI.ok k) {b : Bool} (he : (lookA l k).isSome = b) :
    Calls Try.prog 28 #[.pointer (some ⟨p, 0, none⟩), kI.enc k] w fun x w' => x = .returned (.bool b) ∧ Lc w0 w' p fr N l := by
  obtain ⟨fp, h1, h2, h3⟩ := h
  refine (has_any h1 k hok).mono ?_
  rintro x w' ⟨rfl, o⟩
  rw [he]
  exact ⟨rfl, Lc.out h2 h3 o⟩

theorem Lc.keys (h : Lc w0 w p fr N l) {m : Nat} (hm : SortsTo m) (hm2 : m ≤ 1000000) (hl : l.length ≤ m) :
    Calls Try.prog 29 #[.pointer (some ⟨p, 0, none⟩)] w fun e w' => ∃ v, e = .returned v ∧ w'.ownsRow w.heap.size kI.tk 1 v l.length (l.map fun x => kI.enc x.1) ∧ Lc w0 w' p fr N l ∧ Below w.heap.size w w' := by
  have h4 := h
  obtain ⟨fp, h1, h2, h3⟩ := h
  refine (keys_any hm hm2 h1 hl).mono ?_
  rintro e w' ⟨v, rfl, o, b⟩
  exact ⟨v, rfl, o, h4.below b, b⟩

theorem Lc.new (n : Int) (hb : Below w0.heap.size w0 w) : Calls Try.prog 25 #[.int .i64 n] w fun x w' => ∃ p, x = .returned (.pointer (some ⟨p, 0, none⟩)) ∧ Lc w0 w' p (max n 1) 0 [] := by
  refine (new_any n w).mono ?_
  rintro x w' ⟨p, fp, rfl, c, b, hf⟩
  exact ⟨p, rfl, fp, c, fun x hx => Nat.le_trans hb.size (hf x hx), below_then hb b⟩

/-- What a row of one's own that is not empty holds. -/
theorem row_len {W : World} {base : Nat} {e : TypeId} {v : Value} {n : Nat} {xs : List Value} (h : W.ownsRow base e 1 v n xs) : ∃ a cap, v = .slice a n cap := by
  rcases h.2 with ⟨rfl, rfl⟩ | ⟨g, cap, cur, rfl, _⟩
  · exact ⟨none, 0, rfl⟩
  · exact ⟨_, cap, rfl⟩

theorem row_at {W : World} {base : Nat} {e : TypeId} {a : Option Addr} {n m cap : Nat} {xs : List Value} (h : W.ownsRow base e 1 (.slice a m cap) n xs) {i : Nat} (hi : i < n) : ∃ g, a = some ⟨g, 0, none⟩ ∧ base ≤ g ∧ W.cell? ⟨g, i, none⟩ = xs[i]? := by
  rcases h.2 with ⟨_, h0⟩ | ⟨g, cap, cur, he, hb, hgg, q1, q2, q3, q4⟩
  · omega
  · simp only [Value.slice.injEq] at he
    refine ⟨g, he.1, hb, ?_⟩
    rw [cell_of_heap hgg i, ← q4, Nat.mul_one, List.getElem?_take_of_lt hi]
    simp

end
end Go.Proofs.Ytokodmeabchmjaa.I
