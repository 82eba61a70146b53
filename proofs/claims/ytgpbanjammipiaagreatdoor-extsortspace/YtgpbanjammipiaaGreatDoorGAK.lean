/-
  Lemma texts, one behind the other: ILaw, IShown, HMem, HCmp, HPure, HRise, HSink. No statement of the seat is proved here.
-/
import Derived.Test.YtgpbanjammipiaaGreatDoorGAI
import Derived.Test.YtgpbanjammipiaaGreatDoorGAJ
import Derived.Test.YtgpbanjammipiaaGreatDoorGAG
import Derived.Test.YtgpbanjammipiaaGreatDoorGAC
import Derived.Test.YtgpbanjammipiaaGreatDoorGAD
import Derived.WalkKit
import Derived.WalkSpells
import Derived.WalkLawsBesides
import Derived.Laws.AppendOwnNone
import Derived.Laws.OwnMore
import Derived.Maps.AppendAt
import Derived.Lib.SliceRun
import Derived.Deep.RegionHeld
import Derived.Deep.RegionLaw
import Derived.Deep.RegionHeldLaw
import Derived.Deep.QuietTactic
import Derived.Deep.LoopGhost
import Derived.Defers
import Derived.Recover
namespace Go.Proofs.YtgpbanjammipiaaGreatDoor
open Go.RowKit Go.Maps

/-- The blocks hs stay. -/
def Hld (hs : List Nat) (w w' : World) : Prop := ∃ fp, Kept fp w w' ∧ ∀ x ∈ hs, x ∉ fp

theorem RowR.hld {w w' : World} {hs : List Nat} {v : Value} {l : List Rc} (h : RowR w v l) (k : Hld hs w w') (hv : ∀ x ∈ own v, x ∈ hs) : RowR w' v l := by
  obtain ⟨fp, k, a⟩ := k
  exact h.kept k (fun x hx => a x (hv x hx))
theorem RowB.hld {w w' : World} {hs : List Nat} {v : Value} {l : List Int} (h : RowB w v l) (k : Hld hs w w') (hv : ∀ x ∈ own v, x ∈ hs) : RowB w' v l := by
  obtain ⟨fp, k, a⟩ := k
  exact h.kept k (fun x hx => a x (hv x hx))
theorem RowK.hld {w w' : World} {hs : List Nat} {v : Value} {l : List Bool} (h : RowK w v l) (k : Hld hs w w') (hv : ∀ x ∈ own v, x ∈ hs) : RowK w' v l := by
  obtain ⟨fp, k, a⟩ := k
  exact h.kept k (fun x hx => a x (hv x hx))
theorem Hld.below {hs : List Nat} {w w' : World} (h : Below w.heap.size w w') : Hld hs w w' := ⟨[], Kept.of_below h, by simp⟩

/-- A disk of the call's own, beside which the blocks hs are held. -/
def Lw (w0 w : World) (p : Nat) (A : Dsk) (hs : List Nat) : Prop :=
  ∃ fp, Dk w fp p A.1 A.2 ∧ Below w0.heap.size w0 w ∧ (∀ x ∈ fp, w0.heap.size ≤ x) ∧ ∀ x ∈ hs, x ∉ fp ∧ x < w.heap.size

section
variable {w0 w w' : World} {p : Nat} {A : Dsk} {hs : List Nat}

theorem Lw.bel (h : Lw w0 w p A hs) : Below w0.heap.size w0 w := by
  obtain ⟨fp, d, b, f, a⟩ := h
  exact b
theorem Lw.size0 (h : Lw w0 w p A hs) : w0.heap.size ≤ w.heap.size := h.bel.size

theorem Lw.below (h : Lw w0 w p A hs) (hb : Below w.heap.size w w') : Lw w0 w' p A hs := by
  obtain ⟨fp, d, b, f, a⟩ := h
  exact ⟨fp, d.below hb, b.trans (hb.mono b.size), f, fun x hx => ⟨(a x hx).1, Nat.lt_of_lt_of_le (a x hx).2 hb.size⟩⟩

theorem Lw.sub {hs' : List Nat} (h : Lw w0 w p A hs) (k : ∀ x ∈ hs', x ∈ hs) : Lw w0 w p A hs' := by
  obtain ⟨fp, d, b, f, a⟩ := h
  exact ⟨fp, d, b, f, fun x hx => a x (k x hx)⟩

/-- What is new is held from now on. -/
theorem Lw.hold {hs' : List Nat} (h : Lw w0 w p A hs) (hb : Below w.heap.size w w') (hn : ∀ x ∈ hs', w.heap.size ≤ x ∧ x < w'.heap.size) : Lw w0 w' p A (hs' ++ hs) := by
  obtain ⟨fp, d, b, f, a⟩ := h
  have hlt := d.lt
  refine ⟨fp, d.below hb, b.trans (hb.mono b.size), f, fun x hx => ?_⟩
  rcases List.mem_append.1 hx with hx | hx
  · exact ⟨fun e => by have := hlt x e; have := (hn x hx).1; omega, (hn x hx).2⟩
  · exact ⟨(a x hx).1, Nat.lt_of_lt_of_le (a x hx).2 hb.size⟩

/-- An operation of the disk. -/
theorem Lw.op {B : Dsk} {fp : List Nat} (b : Below w0.heap.size w0 w) (f : ∀ x ∈ fp, w0.heap.size ≤ x) (a : ∀ x ∈ hs, x ∉ fp ∧ x < w.heap.size) (o : Outc w w' fp p B) : Lw w0 w' p B hs ∧ Hld hs w w' := by
  obtain ⟨fp', d', k, n⟩ := o
  refine ⟨⟨fp', d', b.trans (k.below b.size f), fun x hx => ?_, fun x hx => ⟨fun e => ?_, Nat.lt_of_lt_of_le (a x hx).2 k.size⟩⟩, fp, k, fun x hx => (a x hx).1⟩
  · rcases n x hx with e | e
    · exact f x e
    · have := b.size; omega
  · rcases n x e with e | e
    · exact (a x hx).1 e
    · have := (a x hx).2; omega

theorem Lw.new (room : Int) (hr : 0 ≤ room ∧ room ≤ 67108864) (hb : Below w0.heap.size w0 w) (hh : ∀ x ∈ hs, x < w.heap.size) : Calls Tryz.prog 12 #[.int .i64 room] w fun e w' => ∃ p, e = .returned (.pointer (some ⟨p, 0, none⟩)) ∧ Lw w0 w' p ([], upS room 0 0) hs ∧ Below w.heap.size w w' := by
  refine (new_dk room hr.2 w).mono ?_
  rintro e w' ⟨rfl, fp, d, b, f⟩
  rw [show max room 0 = room by omega] at d
  refine ⟨_, rfl, ⟨fp, d, hb.trans (b.mono hb.size), fun x hx => Nat.le_trans hb.size (f x hx), fun x hx => ⟨fun e => ?_, Nat.lt_of_lt_of_le (hh x hx) b.size⟩⟩, b⟩
  have := f x e
  have := hh x hx
  omega

theorem Lw.write (h : Lw w0 w p A hs) (nm : ByteArray) (hnm : nm.size ≤ maxLen) {v : Value} {l : List Rc} (hn : A.2.ops + l.length + 10 ≤ 1000000) (hv : IsR w v l) (hvd : l ≠ [] → ∀ x ∈ own v, x ∈ hs) {k : Int} {B : Dsk} (hB : writeW A nm.data.toList l = (k, B)) :
    Calls Tryz.prog 13 #[.pointer (some ⟨p, 0, none⟩), .string nm, v] w fun e w' => e = .returned (.int .i64 k) ∧ Lw w0 w' p B hs ∧ Hld hs w w' := by
  obtain ⟨fp, d, b, f, a⟩ := h
  refine (recWrite_any d nm hnm hn hv (fun hne x hx => (a x (hvd hne x hx)).1) hB).mono ?_
  rintro e w' ⟨rfl, o⟩
  exact ⟨rfl, Lw.op b f a o⟩

theorem Lw.size (h : Lw w0 w p A hs) (hn : A.2.ops ≤ 1000000) (nm : ByteArray) (hnm : nm.size ≤ maxLen) {m k : Int} {B : Dsk} (hB : beginA A.1 A.2 = B) (hm : sizeA B nm.data.toList = (m, k)) :
    Calls Tryz.prog 52 #[.pointer (some ⟨p, 0, none⟩), .string nm] w fun e w' => e = .returned (.tuple #[.int .i64 m, .int .i64 k]) ∧ Lw w0 w' p B hs ∧ Hld hs w w' := by
  obtain ⟨fp, d, b, f, a⟩ := h
  refine (d.size hn nm hnm).mono ?_
  rintro e w' ⟨rfl, o⟩
  rw [hB] at o ⊢
  rw [hm]
  exact ⟨rfl, Lw.op b f a o⟩

theorem Lw.create (h : Lw w0 w p A hs) (hn : A.2.ops ≤ 1000000) (nm : ByteArray) (hnm : nm.size ≤ maxLen) {k : Int} {B : Dsk} (hB : createA (beginA A.1 A.2) nm.data.toList = (k, B)) :
    Calls Tryz.prog 25 #[.pointer (some ⟨p, 0, none⟩), .string nm] w fun e w' => e = .returned (.int .i64 k) ∧ Lw w0 w' p B hs ∧ Hld hs w w' := by
  obtain ⟨fp, d, b, f, a⟩ := h
  refine (d.create hn nm hnm).mono ?_
  rintro e w' ⟨rfl, o⟩
  rw [hB] at o ⊢
  exact ⟨rfl, Lw.op b f a o⟩

theorem Lw.append (h : Lw w0 w p A hs) (hn : A.2.ops ≤ 1000000) (nm : ByteArray) (hnm : nm.size ≤ maxLen) (u : Value) (cs : List Int) (hu : IsB w u cs) (hcl : cs.length ≤ 1073741824) (hux : cs ≠ [] → ∀ x ∈ own u, x < w0.heap.size) {k : Int} {B : Dsk} (hB : appendA (beginA A.1 A.2) nm.data.toList cs = (k, B)) :
    Calls Tryz.prog 26 #[.pointer (some ⟨p, 0, none⟩), .string nm, u] w fun e w' => e = .returned (.int .i64 k) ∧ Lw w0 w' p B hs ∧ Hld hs w w' := by
  obtain ⟨fp, d, b, f, a⟩ := h
  refine (d.append hn nm hnm u cs hu hcl (fun hne x hx e => by have := hux hne x hx; have := f x e; omega)).mono ?_
  rintro e w' ⟨rfl, o⟩
  rw [hB] at o ⊢
  exact ⟨rfl, Lw.op b f a o⟩

theorem Lw.crash (h : Lw w0 w p A hs) (hn : A.2.ops ≤ 1048576) {B : Dsk} (hB : crashA [] A.1 A.2 = B) : Calls Tryz.prog 91 #[.pointer (some ⟨p, 0, none⟩), .slice none 0 0] w fun e w' => e = .returned (.tuple #[]) ∧ Lw w0 w' p B hs ∧ Hld hs w w' := by
  obtain ⟨fp, d, b, f, a⟩ := h
  refine (d.crash hn _ [] (IsK.nil _) (fun h => absurd rfl h) (Nat.zero_le _)).mono ?_
  rintro e w' ⟨rfl, o⟩
  rw [hB] at o
  exact ⟨rfl, Lw.op b f a o⟩

theorem Lw.restart (h : Lw w0 w p A hs) : Calls Tryz.prog 24 #[.pointer (some ⟨p, 0, none⟩)] w fun e w' => e = .returned (.tuple #[]) ∧ Lw w0 w' p (A.1, { A.2 with down := false }) hs ∧ Hld hs w w' := by
  obtain ⟨fp, d, b, f, a⟩ := h
  refine d.restart.mono ?_
  rintro e w' ⟨rfl, o⟩
  exact ⟨rfl, Lw.op b f a o⟩

theorem Lw.arm (h : Lw w0 w p A hs) (n : Int) (hn : n ≤ 9223372036854775807) (u : Value) (ks : List Bool) (hu : IsK w u ks) (hux : ks ≠ [] → ∀ x ∈ own u, x ∈ hs) (hkl : ks.length ≤ 1099511627776) {B : Dsk} (hB : armA A.1 A.2 n ks = B) :
    Calls Tryz.prog 22 #[.pointer (some ⟨p, 0, none⟩), .int .i64 n, u] w fun e w' => e = .returned (.tuple #[]) ∧ Lw w0 w' p B hs ∧ Hld hs w w' := by
  obtain ⟨fp, d, b, f, a⟩ := h
  refine (d.arm n hn u ks hu (fun hne x hx => (a x (hux hne x hx)).1) hkl).mono ?_
  rintro e w' ⟨rfl, o⟩
  rw [hB] at o
  exact ⟨rfl, Lw.op b f a o⟩

theorem Lw.down (h : Lw w0 w p A hs) : Calls Tryz.prog 23 #[.pointer (some ⟨p, 0, none⟩)] w fun e w' => e = .returned (.bool A.2.down) ∧ w' = w := by
  obtain ⟨fp, d, _⟩ := h
  exact d.down
theorem Lw.used (h : Lw w0 w p A hs) : Calls Tryz.prog 21 #[.pointer (some ⟨p, 0, none⟩)] w fun e w' => e = .returned (.int .i64 A.2.used) ∧ w' = w := by
  obtain ⟨fp, d, _⟩ := h
  exact d.used

/-- ReadAt, of all bytes of a file. -/
theorem Lw.readAll {l : List Ab} {R U k : Int} (h : Lw w0 w p (l, upS R U k) hs) (hk : k ≤ 999999) (nm : ByteArray) (hnm : nm.size ≤ maxLen) {x : Ab} (hx : lookA l nm.data.toList = some x) (n : Nat) (hn : n = x.2.1.length) :
    Calls Tryz.prog 147 #[.pointer (some ⟨p, 0, none⟩), .string nm, .int .i64 0, .int .i64 (n : Int)] w fun e w' => ∃ v, e = .returned (.tuple #[v, .int .i64 0]) ∧ RowB w' v x.2.1 ∧ Lw w0 w' p (l, upS R U (k + 1)) (own v ++ hs) ∧ Hld hs w w' := by
  obtain ⟨fp, d, b, f, a⟩ := h
  have e1 : errA (beginA l (upS R U k)) nm.data.toList = none := by
    rw [begin_up]
    unfold errA
    rw [if_neg (by simp [upS])]
    dsimp only
    rw [hx]
  refine (d.read (by simp only [upS]; omega) nm hnm e1 (by rw [begin_up]; exact hx) 0 n (by omega)).mono ?_
  rintro e w' ⟨v, rfl, r, fp', d', k', n', y⟩
  rw [List.drop_zero, List.take_of_length_le (by omega)] at r
  rw [begin_up] at d'
  obtain ⟨⟨fp2, d2, b2, f2, a2⟩, hh⟩ := Lw.op (hs := hs) (B := (l, upS R U (k + 1))) b f a ⟨fp', d', k', n'⟩
  refine ⟨v, rfl, r, ⟨fp', d', b2, fun x hx => ?_, fun x hx => ?_⟩, hh⟩
  · rcases n' x hx with e | e
    · exact f x e
    · have := b.size; omega
  · rcases List.mem_append.1 hx with hx | hx
    · exact ⟨(y x hx).2, r.lt x hx⟩
    · refine ⟨fun e => ?_, Nat.lt_of_lt_of_le (a x hx).2 k'.size⟩
      rcases n' x e with e | e
      · exact (a x hx).1 e
      · have := (a x hx).2; omega

/-- Read. -/
theorem Lw.read {l : List Ab} {R U k : Int} (h : Lw w0 w p (l, upS R U k) hs) (nm : ByteArray) (hnm : nm.size ≤ maxLen) {x : Ab} (hx : lookA l nm.data.toList = some x) (hlen : x.2.1.length ≤ 1000000000) {rs : List Rc} {er : Int} (hr : readB false x.2.1 = (rs, er)) (hok : ∀ y ∈ rs, okR y) (hk : k + 2 * (rs.length : Int) + 10 ≤ 999998) :
    Calls Tryz.prog 16 #[.pointer (some ⟨p, 0, none⟩), .string nm] w fun e w' => ∃ v k', e = .returned (.tuple #[v, .int .i64 er]) ∧ RowR w' v (if er = 0 then rs else []) ∧ Lw w0 w' p (l, upS R U k') (own v ++ hs) ∧ Hld hs w w' ∧ k ≤ k' ∧ k' ≤ k + 2 * (rs.length : Int) + 5 := by
  obtain ⟨fp, d, b, f, a⟩ := h
  refine (read_go d hnm hx hlen hr hok hk).mono ?_
  rintro e w' ⟨v, rfl, r, fp', k', d', h1, h2, k2, n', y⟩
  obtain ⟨⟨fp2, d2, b2, f2, a2⟩, hh⟩ := Lw.op (hs := hs) (B := (l, upS R U k')) b f a ⟨fp', d', k2, n'⟩
  refine ⟨v, k', rfl, r, ⟨fp', d', b2, fun x hx => ?_, fun x hx => ?_⟩, hh, h1, by omega⟩
  · rcases n' x hx with e | e
    · exact f x e
    · have := b.size; omega
  · rcases List.mem_append.1 hx with hx | hx
    · exact ⟨(y x hx).2, r.low x hx⟩
    · refine ⟨fun e => ?_, Nat.lt_of_lt_of_le (a x hx).2 k2.size⟩
      rcases n' x e with e | e
      · exact (a x hx).1 e
      · have := (a x hx).2; omega

/-- .. of a file that there is not. -/
theorem Lw.read_no {l : List Ab} {R U k : Int} (h : Lw w0 w p (l, upS R U k) hs) (nm : ByteArray) (hnm : nm.size ≤ maxLen) (hx : lookA l nm.data.toList = none) (hk : k ≤ 999998) :
    Calls Tryz.prog 16 #[.pointer (some ⟨p, 0, none⟩), .string nm] w fun e w' => e = .returned (.tuple #[.slice none 0 0, .int .i64 4]) ∧ Lw w0 w' p (l, upS R U (k + 1)) hs ∧ Hld hs w w' := by
  obtain ⟨fp, d, b, f, a⟩ := h
  refine (Go.Proofs.YtgpbanjammipiaaGreatDoor.read_no d hk hnm hx).mono ?_
  rintro e w' ⟨rfl, o⟩
  exact ⟨rfl, Lw.op b f a o⟩

theorem Lw.newReader_no {l : List Ab} {R U k : Int} (h : Lw w0 w p (l, upS R U k) hs) (nm : ByteArray) (hnm : nm.size ≤ maxLen) (hx : lookA l nm.data.toList = none) (hk : k ≤ 999998) :
    Calls Tryz.prog 31 #[.pointer (some ⟨p, 0, none⟩), .string nm] w fun e w' => e = .returned (.tuple #[.pointer none, .int .i64 4]) ∧ Lw w0 w' p (l, upS R U (k + 1)) hs ∧ Hld hs w w' := by
  obtain ⟨fp, d, b, f, a⟩ := h
  refine (Go.Proofs.YtgpbanjammipiaaGreatDoor.newReader_no d hk hnm hx).mono ?_
  rintro e w' ⟨rfl, o⟩
  exact ⟨rfl, Lw.op b f a o⟩

end

/-! ### few -/

theorem min160 (len : Nat) : ∃ m : Nat, m = min len 160 ∧ (∀ (ts : Array TypeId) (t : TypeId) (w : World), (Builtin.min_ ts t #[.int .i64 (len : Int), .int .i64 160]).run Tryz.prog w = .ok (.int .i64 (m : Int)) w) :=
  ⟨min len 160, rfl, fun ts t w => min_len len 160 160 rfl ts t w⟩

end Go.Proofs.YtgpbanjammipiaaGreatDoor

namespace Go.Proofs.YtgpbanjammipiaaGreatDoor
open Go.RowKit Go.Maps

section
variable {w0 w : World} {p : Nat} {hs : List Nat} {l0 : List Ab} {R U k : Int}

/-- Write, of records for which there is room. -/
theorem Lw.write_ok (h : Lw w0 w p (l0, upS R U k) hs) (nm : ByteArray) (hnm : nm.size ≤ maxLen) (hno : lookA l0 nm.data.toList = none) (hm : mayB nm.data.toList = true) {v : Value} {l : List Rc} (hU : U ≤ R) (hfit : U + sec (fileB l).length ≤ R)
    (hn : k + l.length + 10 ≤ 1000000) (hv : IsR w v l) (hvd : l ≠ [] → ∀ x ∈ own v, x ∈ hs) :
    Calls Tryz.prog 13 #[.pointer (some ⟨p, 0, none⟩), .string nm, v] w fun e w' => ∃ k', e = .returned (.int .i64 0) ∧ Lw w0 w' p (insA l0 (nm.data.toList, fileB l, fileB l), upS R (U + sec (fileB l).length) k') hs ∧ Hld hs w w' ∧ k < k' ∧ k' ≤ k + l.length + 3 := by
  obtain ⟨k', G, e, hG, h1, h2⟩ := write_up (R := R) (U := U) (k := k) hno hm hU l
  rw [if_pos hfit] at e
  refine (h.write nm hnm (by simp only [upS]; omega) hv hvd e).mono ?_
  rintro e w' ⟨rfl, a, b⟩
  exact ⟨k', rfl, a, b, h1, h2⟩

/-- .. of a file that is there. -/
theorem Lw.write_is (h : Lw w0 w p (l0, upS R U k) hs) (nm : ByteArray) (hnm : nm.size ≤ maxLen) {x : Ab} (hx : lookA l0 nm.data.toList = some x) (hm : mayB nm.data.toList = true) {v : Value} {l : List Rc}
    (hn : k + l.length + 10 ≤ 1000000) (hv : IsR w v l) (hvd : l ≠ [] → ∀ x ∈ own v, x ∈ hs) :
    Calls Tryz.prog 13 #[.pointer (some ⟨p, 0, none⟩), .string nm, v] w fun e w' => e = .returned (.int .i64 5) ∧ Lw w0 w' p (l0, upS R U (k + 1)) hs ∧ Hld hs w w' :=
  h.write nm hnm (by simp only [upS]; omega) hv hvd (Go.Proofs.YtgpbanjammipiaaGreatDoor.write_is hx hm l)
end

theorem IsR.empty (w : World) : IsR w (.slice none 0 0) [] := ⟨none, 0, rfl, Nat.le_refl _, fun _ => ⟨rfl, rfl⟩, by simp, by simp⟩
theorem nmF : (⟨#[102]⟩ : ByteArray).size ≤ maxLen := by show 1 ≤ maxLen; unfold maxLen; omega
theorem nmG : (⟨#[103]⟩ : ByteArray).size ≤ maxLen := by show 1 ≤ maxLen; unfold maxLen; omega
theorem nmA : (⟨#[97]⟩ : ByteArray).size ≤ maxLen := by show 1 ≤ maxLen; unfold maxLen; omega
theorem nmB : (⟨#[98]⟩ : ByteArray).size ≤ maxLen := by show 1 ≤ maxLen; unfold maxLen; omega

end Go.Proofs.YtgpbanjammipiaaGreatDoor



namespace Go.Proofs.YtgpbanjammipiaaGreatDoor
open Go.RowKit

set_option maxRecDepth 100000 in
set_option maxHeartbeats 1000000 in
theorem before_any (x1 x2 y1 y2 : Int) (w : World) :
    Calls Tryz.prog 102 #[.agg #[.int .u64 x1, .int .u64 x2], .agg #[.int .u64 y1, .int .u64 y2]] w fun e w' => e = .returned (.bool (ltR (x1, x2) (y1, y2))) ∧ Below w.heap.size w w' := by
  go_enter Tryz.func102, Tryz.ntmps102
  go_wp2
  all_goals
    go_ret
    refine ⟨?_, ((Below.refl _ w).alloc (Nat.le_refl _) _).alloc (by simp) _⟩
    simp only [Ending.returned.injEq, ltR]
    simp [*] <;> omega

set_option maxRecDepth 100000 in
set_option maxHeartbeats 1000000 in
theorem less_any (x1 x2 y1 y2 : Int) (w : World) :
    Calls Tryz.prog 98 #[.agg #[.int .u64 x1, .int .u64 x2], .agg #[.int .u64 y1, .int .u64 y2]] w fun e w' => e = .returned (.bool (ltR (x1, x2) (y1, y2))) ∧ Below w.heap.size w w' := by
  go_enter Tryz.func98, Tryz.ntmps98
  go_wp2
  all_goals
    go_ret
    refine ⟨?_, ((Below.refl _ w).alloc (Nat.le_refl _) _).alloc (by simp) _⟩
    simp only [Ending.returned.injEq, ltR]
    rename_i hx
    simp at hx
    simp [hx]

theorem idle_ahead (p : Addr) (w : World) :
    CallsD Tryz.prog 154 #[.pointer (some p)] .returning w fun e u' w' => e = .returned (.tuple #[]) ∧ u' = .returning ∧ w' = w := by
  refine callsD_of_wpS Tryz.func154 rfl fun c₀ cs hu => ?_
  apply wpS_seq
  apply wpS_region
  simp [wpOpsS, go_sem, recoverD, hu, Tryz.ntmps154, Exit.thenS]
  refine wpS_cond (t := false) (by simp [Act.eval, Array.replicate]) ?_
  simp only [Bool.false_eq_true, if_false]
  refine wpS_of_wp (wp_skip ?_)
  cases c₀
  simp_all [bodyPostS, results, Tryz.results154]

theorem idle_sound (p : Addr) (w : World) :
    CallsD Tryz.prog 131 #[.pointer (some p)] .returning w fun e u' w' => e = .returned (.tuple #[]) ∧ u' = .returning ∧ w' = w := by
  refine callsD_of_wpS Tryz.func131 rfl fun c₀ cs hu => ?_
  apply wpS_seq
  apply wpS_region
  simp [wpOpsS, go_sem, recoverD, hu, Tryz.ntmps131, Exit.thenS]
  refine wpS_cond (t := false) (by simp [Act.eval, Array.replicate]) ?_
  simp only [Bool.false_eq_true, if_false]
  refine wpS_of_wp (wp_skip ?_)
  cases c₀
  simp_all [bodyPostS, results, Tryz.results131]

theorem method_any (x1 x2 : Int) (w : World) : (method 330 52 (.agg #[.int .u64 x1, .int .u64 x2]) "Before").run Tryz.prog w = .ok (102, .agg #[.int .u64 x1, .int .u64 x2]) w := by
  kernel_rfl

theorem ahead_any (x1 x2 y1 y2 : Int) (w : World) :
    Calls Tryz.prog 132 #[.agg #[.int .u64 x1, .int .u64 x2], .agg #[.int .u64 y1, .int .u64 y2]] w fun e w' => e = .returned (.bool (ltR (x1, x2) (y1, y2))) ∧ Below w.heap.size w w' := by
  have hmf : ∀ (fn : Fn) (first cap : Array Value) (w : World), (Instr.makeFunc fn first cap).run Tryz.prog w = .ok (.func fn first cap) w := fun _ _ _ _ => rfl
  have hmm := method_any
  go_enter_defers Tryz.func132, Tryz.ntmps132
  go_wp2_with fail
  refine (before_any x1 x2 y1 y2 _).mono ?_
  rintro e w2 ⟨rfl, b2⟩
  have e3 := heap_alloc_new ((w.alloc (.cells #[.int .u64 x1, .int .u64 x2] 52)).alloc (.cells #[.int .u64 y1, .int .u64 y2] 52)) (.cells #[.bool false] 4)
  rw [World.size_alloc, World.size_alloc] at e3
  have e4 := (b2.block (w.heap.size + 1 + 1) (by rw [World.size_alloc, World.size_alloc, World.size_alloc]; omega)).trans e3
  have hp : w2.cell? ⟨w.heap.size + 1 + 1, 0, none⟩ = some (.bool false) := cell_of_heap e4 0
  have hf : w2.frozen? ⟨w.heap.size + 1 + 1, 0, none⟩ = false := frozen_of_heap e4 0
  clear e3 e4
  have B2 := hide b2
  clear b2
  go_wp2
  refine leaves_cons (f := 154) (args := #[.pointer (some ⟨w.heap.size + 1 + 1, 0, none⟩)]) (by simp) (by simp [go_sem]) ?_
  refine (idle_ahead ⟨w.heap.size + 1 + 1, 0, none⟩ _).mono ?_
  rintro e u' w'' ⟨rfl, rfl, rfl⟩
  have hb : Below w.heap.size w (w2.setCell ⟨w.heap.size + 1 + 1, 0, none⟩ (.bool (ltR (x1, x2) (y1, y2)))) := (((((Below.refl _ w).alloc (Nat.le_refl _) _).alloc (by simp) _).alloc (by simp; omega) _).trans (B2.out.mono (by simp; omega))).setCell (by simp; omega) _
  simpa [Leaves, settle, results, Tryz.results132, go_sem, hp] using hb

theorem sound_any (x1 x2 : Int) (w : World) :
    Calls Tryz.prog 103 #[.agg #[.int .u64 x1, .int .u64 x2]] w fun e w' => e = .returned (.bool true) ∧ Below w.heap.size w w' := by
  have hmf : ∀ (fn : Fn) (first cap : Array Value) (w : World), (Instr.makeFunc fn first cap).run Tryz.prog w = .ok (.func fn first cap) w := fun _ _ _ _ => rfl
  have hmm := method_any
  go_enter_defers Tryz.func103, Tryz.ntmps103
  go_wp2_with fail
  refine (before_any x1 x2 x1 x2 _).mono ?_
  rintro e w2 ⟨rfl, b2⟩
  have hp : w2.cell? ⟨w.heap.size + 1, 0, none⟩ = some (.bool false) := (b2.cell (p := ⟨w.heap.size + 1, 0, none⟩) (by show w.heap.size + 1 < _; simp)).trans (by simp)
  have hf : w2.frozen? ⟨w.heap.size + 1, 0, none⟩ = false := (World.frozen?_of_block (b2.block (w.heap.size + 1) (by simp))).trans (by simp)
  have B2 := hide b2
  clear b2
  go_wp2
  refine leaves_cons (f := 131) (args := #[.pointer (some ⟨w.heap.size + 1, 0, none⟩)]) (by simp) (by simp [go_sem]) ?_
  refine (idle_sound ⟨w.heap.size + 1, 0, none⟩ _).mono ?_
  rintro e u' w'' ⟨rfl, rfl, rfl⟩
  have hb : Below w.heap.size w (w2.setCell ⟨w.heap.size + 1, 0, none⟩ (.bool true)) := ((((Below.refl _ w).alloc (Nat.le_refl _) _).alloc (by simp) _).trans (B2.out.mono (by simp; omega))).setCell (by simp) _
  simpa [Leaves, settle, results, Tryz.results103, go_sem, hp] using hb

end Go.Proofs.YtgpbanjammipiaaGreatDoor

namespace Go.Proofs.YtgpbanjammipiaaGreatDoor

theorem ltR_iff (x y : Rc) : ltR x y = true ↔ x.1 < y.1 ∨ (x.1 = y.1 ∧ x.2 < y.2) := by simp [ltR]
theorem ltR_irr (x : Rc) : ltR x x = false := by simp [ltR]
theorem ltR_trans {x y z : Rc} (h : ltR x y = true) (k : ltR y z = true) : ltR x z = true := by
  rw [ltR_iff] at *
  omega
theorem nlt_trans {x y z : Rc} (h : ltR y x = false) (k : ltR z y = false) : ltR z x = false := by
  rw [Bool.eq_false_iff] at *
  rw [Ne, ltR_iff] at *
  omega
theorem nlt_of_lt {x y : Rc} (h : ltR x y = true) : ltR y x = false := by
  rw [Bool.eq_false_iff, Ne]
  rw [ltR_iff] at *
  omega
theorem nlt_antisymm {x y : Rc} (h : ltR x y = false) (k : ltR y x = false) : x = y := by
  rw [Bool.eq_false_iff, Ne, ltR_iff] at h k
  obtain ⟨a, b⟩ := x
  obtain ⟨c, d⟩ := y
  simp only at h k
  have : a = c := by omega
  have : b = d := by omega
  subst_vars
  rfl

/-- A row that rises. -/
def Rises (l : List Rc) : Prop := l.Pairwise (fun x y => ltR y x = false)

/-- Two rows that rise and have the same records are one. -/
theorem Rises.unique {l m : List Rc} (hl : Rises l) (hm : Rises m) (hp : l.Perm m) : l = m := by
  induction l generalizing m with
  | nil => exact (List.nil_perm.1 hp).symm
  | cons x l ih =>
    cases m with
    | nil => exact absurd hp.length_eq (by simp)
    | cons y m =>
      have hx : x ∈ y :: m := hp.subset (by simp)
      have hy : y ∈ x :: l := hp.symm.subset (by simp)
      have e : x = y := by
        rcases List.mem_cons.1 hx with rfl | hx
        · rfl
        · rcases List.mem_cons.1 hy with rfl | hy
          · rfl
          · exact nlt_antisymm ((List.pairwise_cons.1 hm).1 x hx) ((List.pairwise_cons.1 hl).1 y hy)
      subst e
      rw [ih (List.pairwise_cons.1 hl).2 (List.pairwise_cons.1 hm).2 (List.Perm.cons_inv hp)]

/-- A record put in its place. -/
def insR (x : Rc) : List Rc → List Rc
  | [] => [x]
  | y :: l => if ltR x y = true then x :: y :: l else y :: insR x l

theorem insR_perm (x : Rc) (l : List Rc) : (insR x l).Perm (x :: l) := by
  induction l with
  | nil => exact List.Perm.refl _
  | cons y l ih =>
    unfold insR
    split
    · exact List.Perm.refl _
    · exact (List.Perm.cons y ih).trans (List.Perm.swap x y l)

theorem insR_rises (x : Rc) {l : List Rc} (h : Rises l) : Rises (insR x l) := by
  induction l with
  | nil => simp [insR, Rises]
  | cons y l ih =>
    unfold insR
    obtain ⟨h1, h2⟩ := List.pairwise_cons.1 h
    split
    · rename_i hlt
      refine List.pairwise_cons.2 ⟨fun z hz => ?_, h⟩
      rcases List.mem_cons.1 hz with rfl | hz
      · exact nlt_of_lt hlt
      · exact nlt_trans (nlt_of_lt hlt) (h1 z hz)
    · rename_i hlt
      refine List.pairwise_cons.2 ⟨fun z hz => ?_, ih h2⟩
      rcases List.mem_cons.1 ((insR_perm x l).subset hz) with rfl | hz
      · exact Bool.eq_false_iff.2 hlt
      · exact h1 z hz

theorem insR_length (x : Rc) (l : List Rc) : (insR x l).length = l.length + 1 := by simpa using (insR_perm x l).length_eq

/-- Records, each put in its place. -/
def sortR : List Rc → List Rc → List Rc
  | out, [] => out
  | out, x :: l => sortR (insR x out) l

theorem sortR_append (out l m : List Rc) : sortR out (l ++ m) = sortR (sortR out l) m := by
  induction l generalizing out with
  | nil => rfl
  | cons x l ih => exact ih _

theorem sortR_rises {out : List Rc} (h : Rises out) (l : List Rc) : Rises (sortR out l) := by
  induction l generalizing out with
  | nil => exact h
  | cons x l ih => exact ih (insR_rises x h)

theorem sortR_perm (out l : List Rc) : (sortR out l).Perm (out ++ l) := by
  induction l generalizing out with
  | nil => simp [sortR]
  | cons x l ih =>
    refine (ih (insR x out)).trans ?_
    refine ((insR_perm x out).append_right l).trans ?_
    exact (List.perm_middle (a := x) (l₁ := out) (l₂ := l)).symm

/-! ### Heaps as rows -/

/-- None stands ahead of the one above it. -/
def HeapR (l : List Rc) : Prop := ∀ i, 0 < i → i < l.length → ltR l[i]! l[(i - 1) / 2]! = false

/-- The first stands behind none. -/
theorem HeapR.top {l : List Rc} (h : HeapR l) : ∀ i, i < l.length → ltR l[i]! l[0]! = false := by
  intro i
  induction i using Nat.strongRecOn with
  | ind i ih =>
    intro hi
    rcases Nat.eq_zero_or_pos i with rfl | h0
    · exact ltR_irr _
    · exact nlt_trans (ih ((i - 1) / 2) (by omega) (by omega)) (h i h0 hi)

/-- A row, that is a heap, of the records of S, which rises. -/
structure HeapOf (l S : List Rc) : Prop where
  heap : HeapR l
  perm : l.Perm S
  rises : Rises S

theorem HeapOf.nil : HeapOf [] [] := ⟨fun i _ hi => by simp at hi, List.Perm.refl _, List.Pairwise.nil⟩

theorem HeapOf.first {l S : List Rc} (h : HeapOf l S) (x : Rc) (S' : List Rc) (e : S = x :: S') : l[0]! = x := by
  subst e
  have hl : 0 < l.length := by rw [h.perm.length_eq]; simp
  have hm : l[0]! ∈ x :: S' := h.perm.subset (by rw [getElem!_pos l 0 hl]; exact List.getElem_mem hl)
  have hx : x ∈ l := h.perm.symm.subset (by simp)
  obtain ⟨i, hi, hxi⟩ := List.getElem_of_mem hx
  have h1 := h.heap.top i hi
  rw [getElem!_pos l i hi, hxi] at h1
  rcases List.mem_cons.1 hm with e | hm
  · exact e
  · exact (nlt_antisymm h1 ((List.pairwise_cons.1 h.rises).1 _ hm)).symm

/-- All but the place k are in order; and those below k are in order with the one above k. -/
structure Up (l : List Rc) (k : Nat) : Prop where
  rest : ∀ i, 0 < i → i < l.length → i ≠ k → ltR l[i]! l[(i - 1) / 2]! = false
  below : 0 < k → ∀ i, i < l.length → (i - 1) / 2 = k → 0 < i → ltR l[i]! l[(k - 1) / 2]! = false

theorem Up.done {l : List Rc} {k : Nat} (h : Up l k) (hk : k = 0 ∨ ltR l[k]! l[(k - 1) / 2]! = false) : HeapR l := by
  intro i h0 hi
  by_cases e : i = k
  · subst e
    rcases hk with rfl | hk
    · omega
    · exact hk
  · exact h.rest i h0 hi e

theorem swap_at (l : List Rc) (i j k : Nat) (_ : i < l.length) (_ : j < l.length) (hk : k < l.length) :
    ((l.set i l[j]!).set j l[i]!)[k]! = if k = j then l[i]! else if k = i then l[j]! else l[k]! := by
  rw [getElem!_pos _ k (by simpa using hk)]
  rw [List.getElem_set]
  by_cases e : j = k
  · simp [e]
  · rw [if_neg e, if_neg (fun h : k = j => e h.symm), List.getElem_set]
    by_cases e2 : i = k
    · rw [if_pos e2, if_pos e2.symm]
    · rw [if_neg e2, if_neg (fun h : k = i => e2 h.symm), getElem!_pos l k hk]

theorem swap_perm (l : List Rc) (i j : Nat) (hi : i < l.length) (hj : j < l.length) : ((l.set i l[j]!).set j l[i]!).Perm l := by
  rw [getElem!_pos l i hi, getElem!_pos l j hj]
  exact List.set_set_perm hi hj

theorem swap_len (l : List Rc) (i j : Nat) (x y : Rc) : ((l.set i x).set j y).length = l.length := by simp

theorem Up.step {l : List Rc} {k : Nat} (h : Up l k) (h0 : 0 < k) (hk : k < l.length) (hlt : ltR l[k]! l[(k - 1) / 2]! = true) : Up ((l.set k l[(k - 1) / 2]!).set ((k - 1) / 2) l[k]!) ((k - 1) / 2) := by
  have hp : (k - 1) / 2 < l.length := by omega
  have hpk : (k - 1) / 2 ≠ k := by omega
  constructor
  · intro i hi hl hne
    rw [swap_len] at hl
    rw [swap_at l k ((k - 1) / 2) i hk hp hl, swap_at l k ((k - 1) / 2) ((i - 1) / 2) hk hp (by omega), if_neg hne]
    by_cases e : i = k
    · subst e
      rw [if_pos rfl, if_pos rfl]
      exact nlt_of_lt hlt
    · rw [if_neg e]
      by_cases e1 : (i - 1) / 2 = (k - 1) / 2
      · rw [if_pos e1]
        have := h.rest i hi hl e
        rw [e1] at this
        exact nlt_trans (nlt_of_lt hlt) this
      · rw [if_neg e1]
        by_cases e2 : (i - 1) / 2 = k
        · rw [if_pos e2]
          exact h.below h0 i hl e2 hi
        · rw [if_neg e2]
          exact h.rest i hi hl e
  · intro hp0 i hl hi h1
    rw [swap_len] at hl
    rw [swap_at l k ((k - 1) / 2) i hk hp hl, swap_at l k ((k - 1) / 2) (((k - 1) / 2 - 1) / 2) hk hp (by omega)]
    have hg : ltR l[(k - 1) / 2]! l[((k - 1) / 2 - 1) / 2]! = false := h.rest _ hp0 hp hpk
    rw [if_neg (show ¬ ((k - 1) / 2 - 1) / 2 = (k - 1) / 2 by omega), if_neg (show ¬ ((k - 1) / 2 - 1) / 2 = k by omega)]
    by_cases e : i = (k - 1) / 2
    · omega
    · rw [if_neg e]
      by_cases e2 : i = k
      · rw [if_pos e2]
        exact hg
      · rw [if_neg e2]
        have := h.rest i h1 hl e2
        rw [hi] at this
        exact nlt_trans hg this

theorem Up.start {l : List Rc} (h : HeapR l) (x : Rc) : Up (l ++ [x]) l.length := by
  have hat : ∀ j, j < l.length → (l ++ [x])[j]! = l[j]! := fun j hj => by
    rw [getElem!_pos _ j (by simp; omega), getElem!_pos l j hj, List.getElem_append_left hj]
  constructor
  · intro i h0 hi hne
    have hi' : i < l.length := by simp at hi; omega
    rw [hat i hi', hat _ (by omega)]
    exact h i h0 hi'
  · intro h0 i hi hk h1
    simp at hi
    omega

/-- All but those below the place k are in order; and those below k are in order with the one above k. -/
structure Down (l : List Rc) (k : Nat) : Prop where
  rest : ∀ i, 0 < i → i < l.length → (i - 1) / 2 ≠ k → ltR l[i]! l[(i - 1) / 2]! = false
  below : 0 < k → ∀ i, i < l.length → (i - 1) / 2 = k → 0 < i → ltR l[i]! l[(k - 1) / 2]! = false

theorem Down.done {l : List Rc} {k : Nat} (h : Down l k) (hk : ∀ i, 0 < i → i < l.length → (i - 1) / 2 = k → ltR l[i]! l[k]! = false) : HeapR l := by
  intro i h0 hi
  by_cases e : (i - 1) / 2 = k
  · rw [e]; exact hk i h0 hi e
  · exact h.rest i h0 hi e

/-- f is one below k, ahead of k, and none below k is ahead of it. -/
theorem Down.step {l : List Rc} {k f : Nat} (h : Down l k) (h0 : 0 < f) (hf : f < l.length) (hk : (f - 1) / 2 = k) (hlt : ltR l[f]! l[k]! = true) (hall : ∀ i, 0 < i → i < l.length → (i - 1) / 2 = k → ltR l[i]! l[f]! = false) :
    Down ((l.set k l[f]!).set f l[k]!) f := by
  have hkl : k < l.length := by omega
  have hkf : k ≠ f := by omega
  constructor
  · intro i hi hl hne
    rw [swap_len] at hl
    rw [swap_at l k f i hkl hf hl, swap_at l k f ((i - 1) / 2) hkl hf (by omega), if_neg hne]
    by_cases e : i = f
    · subst e
      rw [if_pos rfl, if_pos hk]
      exact nlt_of_lt hlt
    · rw [if_neg e]
      by_cases e1 : (i - 1) / 2 = k
      · rw [if_pos e1, if_neg (by omega)]
        exact hall i hi hl e1
      · rw [if_neg e1]
        by_cases e2 : i = k
        · rw [if_pos e2]
          subst e2
          exact h.below hi f hf hk h0
        · rw [if_neg e2]
          exact h.rest i hi hl e1
  · intro _ i hl hi h1
    rw [swap_len] at hl
    rw [swap_at l k f i hkl hf hl, swap_at l k f ((f - 1) / 2) hkl hf (by omega), if_neg (by omega), if_neg (by omega), if_neg (by omega), if_pos hk]
    have := h.rest i h1 hl (by omega)
    rw [hi] at this
    exact this

theorem Down.start {l : List Rc} (h : HeapR l) (x : Rc) : Down ((l.set 0 x).take (l.length - 1)) 0 := by
  have hat : ∀ j, 0 < j → j < l.length - 1 → ((l.set 0 x).take (l.length - 1))[j]! = l[j]! := fun j h0 hj => by
    rw [getElem!_pos _ j (by simp; omega), getElem!_pos l j (by omega), List.getElem_take, List.getElem_set_ne (by omega)]
  constructor
  · intro i h0 hi hne
    have hi' : i < l.length - 1 := by simp at hi; omega
    rw [hat i h0 hi', hat _ (by omega) (by omega)]
    exact h i h0 (by omega)
  · intro h0
    omega

end Go.Proofs.YtgpbanjammipiaaGreatDoor

namespace Go.Proofs.YtgpbanjammipiaaGreatDoor
open Go.RowKit

set_option maxRecDepth 100000 in
set_option maxHeartbeats 4000000 in
theorem rise_any {w : World} {g n cap : Nat} {l : List Rc} (h : RowR w (.slice (some ⟨g, 0, none⟩) n cap) l) (h0 : 0 < l.length) (hmax : l.length ≤ 1000000) (hup : Up l (l.length - 1)) :
    Calls Tryz.prog 104 #[.slice (some ⟨g, 0, none⟩) n cap] w fun e w' => e = .returned (.tuple #[]) ∧ ∃ l', RowR w' (.slice (some ⟨g, 0, none⟩) n cap) l' ∧ HeapR l' ∧ l'.Perm l ∧ Kept [g] w w' := by
  have hn := h.len
  obtain ⟨k0, hk0⟩ : ∃ k0, n = k0 + 1 := ⟨n - 1, by omega⟩
  have hw0 : IntKind.i64.wrap ((n : Int) - 1) = (k0 : Int) := by rw [i64_small _ (by omega) (by omega)]; omega
  have hnm : n ≤ 1000000 := by omega
  have HUP := hide hup
  have HR := hide h
  have HN := hide (And.intro hn hk0)
  clear hup h hn hk0 h0 hmax
  go_enter Tryz.func104, Tryz.ntmps104
  go_wp2
  go_loopw [2] (fun v wr => ∃ (k : Nat) (lk : List Rc), v = .int .i64 k ∧ k < n ∧ Hid (lk.length = n) ∧ Hid (RowR wr (.slice (some ⟨g, 0, none⟩) n cap) lk) ∧ Hid (Up lk k) ∧ Hid (lk.Perm l) ∧ Hid (Kept [g] w wr)) (fun v _ => numOf v)
  case atStart =>
    exact ⟨k0, l, by first | rfl | go_num, by have := HN.out; omega, HN.out.1.symm, HR.out, (show k0 = l.length - 1 by have := HN.out; omega) ▸ HUP.out, List.Perm.refl _, Kept.refl _ _⟩
  case round =>
    obtain ⟨k, lk, rfl, hk, HL, HRk, HU, HP, HK⟩ := hrel
    by_cases hk0 : k = 0
    · subst hk0
      go_wp2
      go_end0
      exact ⟨rfl, lk, HRk.out, HU.out.done (.inl rfl), HP.out, HK.out⟩
    · obtain ⟨j, hj⟩ : ∃ j, k = j + 1 := ⟨k - 1, by omega⟩
      obtain ⟨p, hp⟩ : ∃ p, p = (k - 1) / 2 := ⟨_, rfl⟩
      have hpn : p < n := by omega
      have hw1 : IntKind.i64.wrap ((k : Int) - 1) = (j : Int) := by rw [i64_small _ (by omega) (by omega)]; omega
      have hw2 : (j : Int).tdiv 2 = (p : Int) := by rw [Int.tdiv_eq_ediv_of_nonneg (by omega)]; omega
      have hw3 : IntKind.i64.wrap (p : Int) = (p : Int) := i64_small _ (by omega) (by omega)
      have hkp : (0 : Int) < (k : Int) := by omega
      have HJ := hide (And.intro hj hp)
      clear hj hp
      obtain ⟨x, hx⟩ : ∃ x, x = lk[k]! := ⟨_, rfl⟩
      obtain ⟨y, hy⟩ : ∃ y, y = lk[p]! := ⟨_, rfl⟩
      obtain ⟨c1, c2⟩ := HRk.out.cell2 k (by have := HL.out; omega)
      obtain ⟨d1, d2⟩ := HRk.out.cell2 p (by have := HL.out; omega)
      rw [← hx] at c1 c2
      rw [← hy] at d1 d2
      have HX := hide (And.intro hx hy)
      clear hx hy
      obtain ⟨x1, x2⟩ := x
      obtain ⟨y1, y2⟩ := y
      simp only at c1 c2 d1 d2
      obtain ⟨b, hb⟩ : ∃ b, b = ltR (x1, x2) (y1, y2) := ⟨_, rfl⟩
      have HA : Hid (∀ W, Calls Tryz.prog 132 #[.agg #[.int .u64 x1, .int .u64 x2], .agg #[.int .u64 y1, .int .u64 y2]] W fun e w' => e = .returned (.bool b) ∧ Below W.heap.size W w') := fun W => by rw [hb]; exact ahead_any x1 x2 y1 y2 W
      have HB := hide hb
      clear hb
      go_wp2
      go_region_law (go_simp; go_at_call 132; refine (HA.out _).mono ?_; rintro e w5 ⟨rfl, b5⟩)
      all_goals
        have r5 : RowR w5 (.slice (some ⟨g, 0, none⟩) n cap) lk := HRk.out.kept (Kept.of_below (fp := []) (a := wr) ⟨b5.os, b5.tape, b5.output, b5.size, b5.block⟩) (fun _ _ => by simp)
        have k5 : Kept [g] w w5 := HK.out.trans (fp' := []) (Kept.of_below (a := wr) ⟨b5.os, b5.tape, b5.output, b5.size, b5.block⟩) (fun _ hx => by simp at hx)
        obtain ⟨c1', c2'⟩ := r5.cell2 k (by have := HL.out; omega)
        obtain ⟨d1', d2'⟩ := r5.cell2 p (by have := HL.out; omega)
        rw [← HX.out.1] at c1' c2'
        rw [← HX.out.2] at d1' d2'
        simp only at c1' c2' d1' d2'
        have z1 := r5.frozenAt (k * 2)
        have z2 := r5.frozenAt (k * 2 + 1)
        have z3 := r5.frozenAt (p * 2)
        have z4 := r5.frozenAt (p * 2 + 1)
        have R5 := hide r5
        have K5 := hide k5
        clear r5 k5 b5 c1 c2 d1 d2
        cases b with
        | false =>
          go_wp2
          refine bodyPost_ret (results_none rfl _ _ _) rfl ?_
          refine ⟨rfl, lk, R5.out, HU.out.done (.inr ?_), HP.out, K5.out⟩
          have e1 := HX.out
          have e2 := HJ.out
          have e3 := HB.out
          rw [← e2.2, ← e1.1, ← e1.2, ← e3]
        | true =>
          have hne : ¬ k = p := by have := HJ.out; omega
          go_wp2
          go_region
          all_goals
            go_wp2
            go_roundw
            case rel =>
              have e1 := HX.out
              have e2 := HJ.out
              have e3 := HB.out
              have e4 := HL.out
              have q := (R5.out.stored k (by omega) (y1, y2) (e1.2 ▸ R5.out.okAt p (by omega))).stored p (by simp; omega) (x1, x2) (e1.1 ▸ R5.out.okAt k (by omega))
              rw [e1.2, e1.1] at q
              refine ⟨p, (lk.set k lk[p]!).set p lk[k]!, by first | rfl | go_num, hpn, by show _ = _; rw [swap_len]; exact e4, ?_, ?_, (swap_perm lk k p (by omega) (by omega)).trans HP.out, ?_⟩
              · rw [← e1.2, ← e1.1] at q ⊢
                exact q
              · rw [e2.2] at e1 ⊢
                exact HU.out.step (by omega) (by omega) (by rw [← e1.1, ← e1.2]; exact e3.symm)
              · exact ((((K5.out.setCell (.inl (by simp)) _).setCell (.inl (by simp)) _).setCell (.inl (by simp)) _).setCell (.inl (by simp)) _).drew
            case measure =>
              have := HJ.out
              simp [numOf]
              omega

end Go.Proofs.YtgpbanjammipiaaGreatDoor

namespace Go.Proofs.YtgpbanjammipiaaGreatDoor
open Go.RowKit

set_option maxRecDepth 100000 in
set_option maxHeartbeats 4000000 in
theorem sink_any {w : World} {g n cap : Nat} {l : List Rc} (h : RowR w (.slice (some ⟨g, 0, none⟩) n cap) l) (hmax : l.length ≤ 1000000) (hdn : Down l 0) :
    Calls Tryz.prog 107 #[.slice (some ⟨g, 0, none⟩) n cap] w fun e w' => e = .returned (.tuple #[]) ∧ ∃ l', RowR w' (.slice (some ⟨g, 0, none⟩) n cap) l' ∧ HeapR l' ∧ l'.Perm l ∧ Kept [g] w w' := by
  have hn := h.len
  have hnm : n ≤ 1000000 := by omega
  have HDN := hide hdn
  have HR := hide h
  have HN := hide hn
  clear hdn h hn hmax
  go_enter Tryz.func107, Tryz.ntmps107
  go_wp2
  go_loopw [2] (fun v wr => ∃ (k : Nat) (lk : List Rc), v = .int .i64 k ∧ k ≤ n ∧ Hid (lk.length = n) ∧ Hid (RowR wr (.slice (some ⟨g, 0, none⟩) n cap) lk) ∧ Hid (Down lk k) ∧ Hid (lk.Perm l) ∧ Hid (Kept [g] w wr)) (fun v _ => n + 1 - numOf v)
  case atStart =>
    exact ⟨0, l, by first | rfl | go_num, Nat.zero_le _, HN.out.symm, HR.out, HDN.out, List.Perm.refl _, Kept.refl _ _⟩
  case round =>
    obtain ⟨k, lk, rfl, hk, HL, HRk, HD, HP, HK⟩ := hrel
    have hw1 : IntKind.i64.wrap (2 * (k : Int)) = 2 * (k : Int) := i64_small _ (by omega) (by omega)
    have hw2 : IntKind.i64.wrap (2 * (k : Int) + 1) = 2 * (k : Int) + 1 := i64_small _ (by omega) (by omega)
    have hw3 : IntKind.i64.wrap (2 * (k : Int) + 2) = 2 * (k : Int) + 2 := i64_small _ (by omega) (by omega)
    go_wp2
    obtain ⟨wo, hwo⟩ : ∃ wo, wo = wr := ⟨_, rfl⟩
    subst hwo
    go_loopw [3, 4] (fun v3 v4 wr2 => ∃ (f b : Nat), v3 = .int .i64 f ∧ v4 = .int .i64 b ∧ f ≤ n ∧ 2 * k + 1 ≤ b ∧ b ≤ 2 * k + 3 ∧ Hid (f = k ∨ (0 < f ∧ f < n ∧ (f - 1) / 2 = k ∧ ltR lk[f]! lk[k]! = true)) ∧ Hid (∀ i, 2 * k + 1 ≤ i → i < b → i < n → ltR lk[i]! lk[f]! = false) ∧ Hid (RowR wr2 (.slice (some ⟨g, 0, none⟩) n cap) lk) ∧ Hid (Kept [g] w wr2)) (fun _ v4 _ => 2 * k + 4 - numOf v4)
    case atStart => exact ⟨k, 2 * k + 1, rfl, by go_num, hk, Nat.le_refl _, by omega, .inl rfl, fun i h1 h2 => by omega, HRk.out, HK.out⟩
    case round =>
      obtain ⟨f, b, rfl, rfl, hf, hb1, hb2, HF, HS, HRb, HKb⟩ := hrel
      have hw4 : IntKind.i64.wrap ((b : Int) + 1) = (b : Int) + 1 := i64_small _ (by omega) (by omega)
      by_cases h1 : b ≤ 2 * k + 2
      · by_cases h2 : b < n
        · have h1' : (b : Int) ≤ 2 * (k : Int) + 2 := by omega
          have hfn : f < n := by rcases HF.out with e | e <;> omega
          obtain ⟨x, hx⟩ : ∃ x, x = lk[b]! := ⟨_, rfl⟩
          obtain ⟨y, hy⟩ : ∃ y, y = lk[f]! := ⟨_, rfl⟩
          obtain ⟨c1, c2⟩ := HRb.out.cell2 b (by have := HL.out; omega)
          obtain ⟨d1, d2⟩ := HRb.out.cell2 f (by have := HL.out; omega)
          rw [← hx] at c1 c2
          rw [← hy] at d1 d2
          have HX := hide (And.intro hx hy)
          clear hx hy
          obtain ⟨x1, x2⟩ := x
          obtain ⟨y1, y2⟩ := y
          simp only at c1 c2 d1 d2
          obtain ⟨t, ht⟩ : ∃ t, t = ltR (x1, x2) (y1, y2) := ⟨_, rfl⟩
          have HA : Hid (∀ W, Calls Tryz.prog 132 #[.agg #[.int .u64 x1, .int .u64 x2], .agg #[.int .u64 y1, .int .u64 y2]] W fun e w' => e = .returned (.bool t) ∧ Below W.heap.size W w') := fun W => by rw [ht]; exact ahead_any x1 x2 y1 y2 W
          have HB := hide ht
          clear ht
          go_wp2
          go_region_law (go_simp; go_at_call 132; refine (HA.out _).mono ?_; rintro e w5 ⟨rfl, b5⟩)
          all_goals
            have r5 : RowR w5 (.slice (some ⟨g, 0, none⟩) n cap) lk := HRb.out.kept (Kept.of_below (fp := []) (a := wr) ⟨b5.os, b5.tape, b5.output, b5.size, b5.block⟩) (fun _ _ => by simp)
            have k5 : Kept [g] w w5 := HKb.out.trans (fp' := []) (Kept.of_below (a := wr) ⟨b5.os, b5.tape, b5.output, b5.size, b5.block⟩) (fun _ hx => by simp at hx)
            have R5 := hide r5
            have K5 := hide k5
            clear r5 k5 b5 c1 c2 d1 d2
            cases t with
            | false =>
              go_wp2
              go_roundw
              case rel =>
                have e1 := HX.out
                have e3 := HB.out
                refine ⟨f, b + 1, rfl, by go_num, hf, by omega, by omega, HF.out, ?_, R5.out, K5.out⟩
                intro i hi hib hin
                rcases Nat.lt_or_ge i b with hlt | hge
                · exact HS.out i hi hlt hin
                · rw [show i = b by omega, ← e1.1, ← e1.2]
                  exact e3.symm
              case measure => simp [numOf]; omega
            | true =>
              go_wp2
              go_roundw
              case rel =>
                have e1 := HX.out
                have e3 := HB.out
                rw [e1.1, e1.2] at e3
                refine ⟨b, b + 1, rfl, by go_num, by omega, by omega, by omega, .inr ⟨by omega, h2, by omega, ?_⟩, ?_, R5.out, K5.out⟩
                · rcases HF.out with e | e
                  · rw [e] at e3
                    exact e3.symm
                  · exact ltR_trans e3.symm e.2.2.2
                · intro i hi hib hin
                  rcases Nat.lt_or_ge i b with hlt | hge
                  · exact nlt_trans (nlt_of_lt e3.symm) (HS.out i hi hlt hin)
                  · rw [show i = b by omega]
                    exact ltR_irr _
              case measure => simp [numOf]; omega
        · have h1' : (b : Int) ≤ 2 * (k : Int) + 2 := by omega
          have ALL : Hid (∀ i, 0 < i → i < lk.length → (i - 1) / 2 = k → ltR lk[i]! lk[f]! = false) := fun i h0 hi he => HS.out i (by omega) (by have := HL.out; omega) (by have := HL.out; omega)
          by_cases hfk : f = k
          · subst hfk
            go_wp2
            refine bodyPost_ret (results_none rfl _ _ _) rfl ?_
            exact ⟨rfl, lk, HRb.out, HD.out.done ALL.out, HP.out, HKb.out⟩
          · have hkf : ¬ k = f := fun e => hfk e.symm
            have hF : Hid (0 < f ∧ f < n ∧ (f - 1) / 2 = k ∧ ltR lk[f]! lk[k]! = true) := by rcases HF.out with e | e; exact absurd e hfk; exact e
            have hfn : f < n := hF.out.2.1
            have hkn : k < n := by have := hF.out; omega
            obtain ⟨x, hx⟩ : ∃ x, x = lk[k]! := ⟨_, rfl⟩
            obtain ⟨y, hy⟩ : ∃ y, y = lk[f]! := ⟨_, rfl⟩
            obtain ⟨c1, c2⟩ := HRb.out.cell2 k (by have := HL.out; omega)
            obtain ⟨d1, d2⟩ := HRb.out.cell2 f (by have := HL.out; omega)
            rw [← hx] at c1 c2
            rw [← hy] at d1 d2
            have HX := hide (And.intro hx hy)
            clear hx hy
            obtain ⟨x1, x2⟩ := x
            obtain ⟨y1, y2⟩ := y
            simp only at c1 c2 d1 d2
            have z1 := HRb.out.frozenAt (k * 2)
            have z2 := HRb.out.frozenAt (k * 2 + 1)
            have z3 := HRb.out.frozenAt (f * 2)
            have z4 := HRb.out.frozenAt (f * 2 + 1)
            go_wp2
            go_region
            all_goals
              go_wp2
              go_roundw
              case rel =>
                have e1 := HX.out
                have e2 := hF.out
                have e4 := HL.out
                have q := (HRb.out.stored k (by omega) (y1, y2) (e1.2 ▸ HRb.out.okAt f (by omega))).stored f (by simp; omega) (x1, x2) (e1.1 ▸ HRb.out.okAt k (by omega))
                refine ⟨f, (lk.set k lk[f]!).set f lk[k]!, by first | rfl | go_num, by omega, by show _ = _; rw [swap_len]; exact e4, ?_, HD.out.step e2.1 (by omega) e2.2.2.1 e2.2.2.2 ALL.out, (swap_perm lk k f (by omega) (by omega)).trans HP.out, ?_⟩
                · rw [← e1.2, ← e1.1]
                  exact q
                · exact ((((HKb.out.setCell (.inl (by simp)) _).setCell (.inl (by simp)) _).setCell (.inl (by simp)) _).setCell (.inl (by simp)) _).drew
              case measure =>
                have := hF.out
                simp [numOf]
                omega
      · have h1' : ¬ (b : Int) ≤ 2 * (k : Int) + 2 := by omega
        have ALL : Hid (∀ i, 0 < i → i < lk.length → (i - 1) / 2 = k → ltR lk[i]! lk[f]! = false) := fun i h0 hi he => HS.out i (by omega) (by have := HL.out; omega) (by have := HL.out; omega)
        by_cases hfk : f = k
        · subst hfk
          go_wp2
          refine bodyPost_ret (results_none rfl _ _ _) rfl ?_
          exact ⟨rfl, lk, HRb.out, HD.out.done ALL.out, HP.out, HKb.out⟩
        · have hkf : ¬ k = f := fun e => hfk e.symm
          have hF : Hid (0 < f ∧ f < n ∧ (f - 1) / 2 = k ∧ ltR lk[f]! lk[k]! = true) := by rcases HF.out with e | e; exact absurd e hfk; exact e
          have hfn : f < n := hF.out.2.1
          have hkn : k < n := by have := hF.out; omega
          obtain ⟨x, hx⟩ : ∃ x, x = lk[k]! := ⟨_, rfl⟩
          obtain ⟨y, hy⟩ : ∃ y, y = lk[f]! := ⟨_, rfl⟩
          obtain ⟨c1, c2⟩ := HRb.out.cell2 k (by have := HL.out; omega)
          obtain ⟨d1, d2⟩ := HRb.out.cell2 f (by have := HL.out; omega)
          rw [← hx] at c1 c2
          rw [← hy] at d1 d2
          have HX := hide (And.intro hx hy)
          clear hx hy
          obtain ⟨x1, x2⟩ := x
          obtain ⟨y1, y2⟩ := y
          simp only at c1 c2 d1 d2
          have z1 := HRb.out.frozenAt (k * 2)
          have z2 := HRb.out.frozenAt (k * 2 + 1)
          have z3 := HRb.out.frozenAt (f * 2)
          have z4 := HRb.out.frozenAt (f * 2 + 1)
          go_wp2
          go_region
          all_goals
            go_wp2
            go_roundw
            case rel =>
              have e1 := HX.out
              have e2 := hF.out
              have e4 := HL.out
              have q := (HRb.out.stored k (by omega) (y1, y2) (e1.2 ▸ HRb.out.okAt f (by omega))).stored f (by simp; omega) (x1, x2) (e1.1 ▸ HRb.out.okAt k (by omega))
              refine ⟨f, (lk.set k lk[f]!).set f lk[k]!, by first | rfl | go_num, by omega, by show _ = _; rw [swap_len]; exact e4, ?_, HD.out.step e2.1 (by omega) e2.2.2.1 e2.2.2.2 ALL.out, (swap_perm lk k f (by omega) (by omega)).trans HP.out, ?_⟩
              · rw [← e1.2, ← e1.1]
                exact q
              · exact ((((HKb.out.setCell (.inl (by simp)) _).setCell (.inl (by simp)) _).setCell (.inl (by simp)) _).setCell (.inl (by simp)) _).drew
            case measure =>
              have := hF.out
              simp [numOf]
              omega

end Go.Proofs.YtgpbanjammipiaaGreatDoor
