/-
  Operations on a file that there must be: Size, Append, WriteAt. A lemma file: no statement of the seat is proved here.
-/
import Derived.Test.YtbhjdcoehgajcaaDWrite
namespace Go.Proofs.Ytbhjdcoehgajcaa
open Go.RowKit Go.Maps Go.Sort Go.Shelf

/-- The file of a name, as it is told. -/
def lookA (l : List Ab) (n : List UInt8) : Option Ab := l.find? (fun x => x.1 == n)

theorem look_ab (fs : List Fl) (n : List UInt8) : lookA (fs.map Fl.ab) n = (look fs n).map Fl.ab := by
  unfold lookA look
  rw [List.find?_map]
  rfl

/-- An operation on a file of that name: what it answers if the disk is down, or there is none. -/
def errA (A : List Ab × Ds) (n : List UInt8) : Option Int := if A.2.down then some 7 else match lookA A.1 n with | none => some 4 | some _ => none

theorem errA_ne {A : List Ab × Ds} {n : List UInt8} {k : Int} (h : errA A n = some k) : k = 7 ∨ k = 4 := by
  unfold errA at h
  split at h
  · simp at h; omega
  · split at h
    · simp at h; omega
    · simp at h

/-- A file in the place of the one of its name. -/
def setA (l : List Ab) (x : Ab) : List Ab := l.map (fun y => if y.1 == x.1 then x else y)

theorem setA_split {a b : List Ab} {x y : Ab} (h : (a ++ x :: b).Pairwise (fun f g => f.1 < g.1)) (hn : y.1 = x.1) : setA (a ++ x :: b) y = a ++ y :: b := by
  rw [List.pairwise_append, List.pairwise_cons] at h
  have e1 : a.map (fun z => if z.1 == y.1 then y else z) = a := by
    have : ∀ z ∈ a, (if z.1 == y.1 then y else z) = z := fun z hz => by
      have := lt_ne (h.2.2 z hz x (by simp))
      rw [hn, if_neg (by simpa using this)]
    exact (List.map_congr_left this).trans (List.map_id a)
  have e2 : b.map (fun z => if z.1 == y.1 then y else z) = b := by
    have : ∀ z ∈ b, (if z.1 == y.1 then y else z) = z := fun z hz => by
      have := lt_ne (h.2.1.1 z hz)
      rw [hn, if_neg (by simpa using Ne.symm this)]
    exact (List.map_congr_left this).trans (List.map_id b)
  unfold setA
  rw [List.map_append, List.map_cons, e1, e2, if_pos (by simp [hn])]

/-- What write answers, and leaves. -/
def writeA (l : List Ab) (s : Ds) (x : Ab) (at_ : Int) (cs : List Int) : Int × (List Ab × Ds) :=
  if at_ < 0 ∨ (x.2.1.length : Int) < at_ then (1, (l, s))
  else if s.room - s.used < moreA x.2.1 at_.toNat cs then (6, (l, s))
  else (0, (setA l (x.1, putA x.2.1 at_.toNat cs, x.2.2), { s with used := s.used + moreA x.2.1 at_.toNat cs }))

theorem sortedA {fs : List Fl} (h : fs.Pairwise (fun f g => f.name < g.name)) : (fs.map Fl.ab).Pairwise (fun f g => f.1 < g.1) := List.pairwise_map.2 h

theorem lookA_mem {l : List Ab} {n : List UInt8} {x : Ab} (h : lookA l n = some x) : x ∈ l ∧ x.1 = n := by
  unfold lookA at h
  exact ⟨List.mem_of_find?_eq_some h, by simpa using List.find?_some h⟩

theorem okA_set {a b : List Ab} {x y : Ab} {s s' : Ds} (h : okA (a ++ x :: b) s) (hn : y.1 = x.1) (hy : y.2.2.length ≤ y.2.1.length) (hu : s'.used = s.used - sec x.2.1.length + sec y.2.1.length) (hf : s'.used ≤ s'.room)
    (hr : s'.room = s.room) (ho : s'.ops = s.ops) (hl : s'.left = s.left) (hk : s'.keep = s.keep) : okA (a ++ y :: b) s' := by
  have h1 := h.used
  rw [usedB_append, usedB_cons] at h1
  refine ⟨fun z hz => ?_, ?_, hf, by rw [hr]; exact h.room, by rw [ho]; exact h.ops, ?_, by rw [hl]; exact h.left, by rw [hk]; exact h.keep, fun z hz => ?_⟩
  · rcases List.mem_append.1 hz with hz | hz
    · exact h.ok z (by simp [hz])
    · rcases List.mem_cons.1 hz with rfl | hz
      · exact hy
      · exact h.ok z (by simp [hz])
  · rw [usedB_append, usedB_cons]
    omega
  · rw [ho]
    have := h.len
    simpa using this
  · rcases List.mem_append.1 hz with hz | hz
    · exact h.names z (by simp [hz])
    · rcases List.mem_cons.1 hz with rfl | hz
      · rw [hn]
        exact h.names x (by simp)
      · exact h.names z (by simp [hz])

theorem moreA_nonneg (now : List Int) (a : Nat) (cs : List Int) : 0 ≤ moreA now a cs := by
  unfold moreA
  have := sec_mono (m := now.length) (n := max now.length (a + cs.length)) (by omega)
  omega

/-- Files and what is told of them, taken apart at a name. -/
theorem split_look {l : List Ab} {n : List UInt8} {x : Ab} (h : lookA l n = some x) : ∃ a b, l = a ++ x :: b := List.append_of_mem (lookA_mem h).1

theorem writeA_ok {l : List Ab} {s : Ds} (h : okA l s) (hs : l.Pairwise (fun f g => f.1 < g.1)) {n : List UInt8} {x : Ab} (hx : lookA l n = some x) (at_ : Int) (cs : List Int) : okA (writeA l s x at_ cs).2.1 (writeA l s x at_ cs).2.2 := by
  unfold writeA
  split
  · exact h
  · rename_i h1
    split
    · exact h
    · rename_i h2
      obtain ⟨a, b, rfl⟩ := split_look hx
      have e := setA_split (y := (x.1, putA x.2.1 at_.toNat cs, x.2.2)) hs rfl
      simp only
      rw [e]
      have hl := putA_length x.2.1 at_.toNat cs (by omega)
      have hok := h.ok x (by simp)
      have hm := moreA_nonneg x.2.1 at_.toNat cs
      refine okA_set h rfl ?_ ?_ ?_ rfl rfl rfl rfl
      · simp only [hl]
        omega
      · simp only [hl, moreA]
        omega
      · simp only
        omega

section
variable {w : World} {p bm : Nat} {kv : Value} {fs : List Fl} {s : Ds}

theorem file_len {f : Fl} (ho : okA (fs.map Fl.ab) s) (hf : f ∈ fs) : f.now.length ≤ 1073741824 ∧ f.syn.length ≤ f.now.length := by
  have h1 := usedB_mem (l := fs.map Fl.ab) (x := f.ab) (List.mem_map.2 ⟨f, hf, rfl⟩)
  have h2 := ho.used
  have h3 := ho.fits
  have h4 := ho.room
  have h5 := sec_le _ _ (Int.le_trans h1 (by omega : usedB (fs.map Fl.ab) ≤ 67108864))
  refine ⟨?_, ho.ok f.ab (List.mem_map.2 ⟨f, hf, rfl⟩)⟩
  simp only [Fl.ab] at h5
  omega

theorem write_any (h : DiskAt w p bm kv fs s) (ho : okA (fs.map Fl.ab) s) {n : List UInt8} {f : Fl} (hf : look fs n = some f) (at_ : Int) (h64 : -9223372036854775808 ≤ at_ ∧ at_ ≤ 9223372036854775807) (u : Value) (cs : List Int) (hu : IsB w u cs) (hcl : cs.length ≤ 1073741824)
    (hux : cs ≠ [] → ∀ x ∈ own u, x ∉ feet p bm kv fs) :
    Calls Try.prog 44 #[.pointer (some ⟨p, 0, none⟩), .pointer (some ⟨f.blk, 0, none⟩), .int .i64 at_, u] w fun e w' => e = .returned (.int .i64 (writeA (fs.map Fl.ab) s f.ab at_ cs).1) ∧ ∃ fs' s', Left w w' p bm kv fs kv fs' s' (writeA (fs.map Fl.ab) s f.ab at_ cs).2 := by
  have hfm := (look_name hf).1
  have hfl := file_len ho hfm
  by_cases h1 : at_ < 0 ∨ (f.now.length : Int) < at_
  · refine (write_arg (h.files f hfm) at_ h64 h1 u).mono ?_
    rintro e w' ⟨rfl, rfl⟩
    have e1 : writeA (fs.map Fl.ab) s f.ab at_ cs = (1, (fs.map Fl.ab, s)) := by
      exact if_pos h1
    rw [e1]
    exact ⟨rfl, fs, s, h, rfl, Kept.refl _ _, Newly.refl _ _⟩
  · obtain ⟨a, rfl⟩ : ∃ a : Nat, at_ = (a : Int) := ⟨at_.toNat, by omega⟩
    have ha : a ≤ f.now.length := by omega
    obtain ⟨ds, rs, rfl⟩ := List.append_of_mem hfm
    have hs0 : 0 ≤ s.used ∧ s.used ≤ s.room ∧ s.room ≤ 67108864 := ⟨by rw [ho.used]; exact usedB_nonneg _, ho.fits, ho.room⟩
    by_cases h2 : s.room - s.used < moreA f.now a cs
    · refine (write_no h hfl.1 a ha u cs hu hcl hs0 h2).mono ?_
      rintro e w' ⟨rfl, b⟩
      have e1 : writeA ((ds ++ f :: rs).map Fl.ab) s f.ab (a : Int) cs = (6, ((ds ++ f :: rs).map Fl.ab, s)) := by
        exact (if_neg h1).trans (if_pos h2)
      rw [e1]
      exact ⟨rfl, _, s, h.below b, rfl, Kept.of_below b, Newly.refl _ _⟩
    · refine (write_go h hfl.1 a ha u cs hu hcl (fun hne x hx e => hux hne x hx ((feet_perm p bm kv ds rs f).mem_iff.2 (List.mem_append.2 (.inl e)))) hs0 (by omega)).mono ?_
      rintro e w' ⟨rfl, vn, d, k, nw⟩
      have e1 : writeA ((ds ++ f :: rs).map Fl.ab) s f.ab (a : Int) cs = (0, (setA ((ds ++ f :: rs).map Fl.ab) (f.name, putA f.now a cs, f.syn), { s with used := s.used + moreA f.now a cs })) := by
        exact (if_neg h1).trans (if_neg h2)
      rw [e1]
      refine ⟨rfl, _, _, d, ?_, k, feet_file nw rfl⟩
      have e2 := setA_split (a := ds.map Fl.ab) (b := rs.map Fl.ab) (x := f.ab) (y := (f.name, putA f.now a cs, f.syn)) (by have := sortedA h.sorted; simpa using this) rfl
      simp only [List.map_append, List.map_cons]
      rw [e2]
      rfl
end

/-- A disk, by its blocks. -/
def Dk (w : World) (fp : List Nat) (p : Nat) (l : List Ab) (s : Ds) : Prop := ∃ bm kv fs, DiskAt w p bm kv fs s ∧ fs.map Fl.ab = l ∧ fp = feet p bm kv fs ∧ okA l s

/-- What an operation leaves. -/
def Outc (w w' : World) (fp : List Nat) (p : Nat) (A : List Ab × Ds) : Prop := ∃ fp', Dk w' fp' p A.1 A.2 ∧ Kept fp w w' ∧ Newly w fp fp'

theorem Left.outc {w w' : World} {p bm : Nat} {kv kv' : Value} {fs fs' : List Fl} {s' : Ds} {A : List Ab × Ds} (h : Left w w' p bm kv fs kv' fs' s' A) (ho : okA A.1 A.2) : Outc w w' (feet p bm kv fs) p A := by
  obtain ⟨h1, rfl, h3, h4⟩ := h
  exact ⟨_, ⟨bm, kv', fs', h1, rfl, rfl, ho⟩, h3, h4⟩

theorem Left.trans {w w1 w2 : World} {p bm : Nat} {kv kv1 kv2 : Value} {fs fs1 fs2 : List Fl} {s1 s2 : Ds} {A B : List Ab × Ds} (h : Left w w1 p bm kv fs kv1 fs1 s1 A) (k : Left w1 w2 p bm kv1 fs1 kv2 fs2 s2 B) : Left w w2 p bm kv fs kv2 fs2 s2 B :=
  ⟨k.1, k.2.1, h.2.2.1.trans k.2.2.1 h.2.2.2, h.2.2.2.trans k.2.2.2 h.2.2.1.size⟩

section
variable {w : World} {p bm : Nat} {kv : Value} {fs : List Fl} {s : Ds}

theorem find_err (h : DiskAt w p bm kv fs s) (ho : okA (fs.map Fl.ab) s) (hn : s.ops ≤ 1000000) (nm : ByteArray) (hnm : nm.size ≤ maxLen) {k : Int} (he : errA (beginA (fs.map Fl.ab) s) nm.data.toList = some k) :
    Calls Try.prog 34 #[.pointer (some ⟨p, 0, none⟩), .string nm] w fun e w' => e = .returned (.tuple #[.pointer none, .int .i64 k]) ∧ ∃ kv' fs' s', Left w w' p bm kv fs kv' fs' s' (beginA (fs.map Fl.ab) s) := by
  refine (find_any h ho hn nm hnm).mono ?_
  rintro e w' ⟨kv', fs', s', rfl, L⟩
  refine ⟨?_, kv', fs', s', L⟩
  have e1 := L.2.1
  rw [← e1] at he
  unfold errA at he
  unfold findV
  cases hd : s'.down with
  | true => simp [hd] at he; simp [← he]
  | false =>
    simp only [hd, look_ab] at he ⊢
    cases hl : look fs' nm.data.toList with
    | none => simp [hl] at he; simp [← he]
    | some f => simp [hl] at he

theorem find_ok (h : DiskAt w p bm kv fs s) (ho : okA (fs.map Fl.ab) s) (hn : s.ops ≤ 1000000) (nm : ByteArray) (hnm : nm.size ≤ maxLen) {x : Ab} (he : errA (beginA (fs.map Fl.ab) s) nm.data.toList = none) (hx : lookA (beginA (fs.map Fl.ab) s).1 nm.data.toList = some x) :
    Calls Try.prog 34 #[.pointer (some ⟨p, 0, none⟩), .string nm] w fun e w' => ∃ kv' fs' s' f, e = .returned (.tuple #[.pointer (some ⟨f.blk, 0, none⟩), .int .i64 0]) ∧ look fs' nm.data.toList = some f ∧ f.ab = x ∧ Left w w' p bm kv fs kv' fs' s' (beginA (fs.map Fl.ab) s) := by
  refine (find_any h ho hn nm hnm).mono ?_
  rintro e w' ⟨kv', fs', s', rfl, L⟩
  have e1 := L.2.1
  rw [← e1] at he hx
  rw [look_ab] at hx
  cases hl : look fs' nm.data.toList with
  | none => simp [hl] at hx
  | some f =>
    refine ⟨kv', fs', s', f, ?_, hl, by simpa [hl] using hx, L⟩
    unfold errA at he
    unfold findV
    cases hd : s'.down with
    | true => simp [hd] at he
    | false => simp

theorem errA_none {A : List Ab × Ds} {n : List UInt8} (h : errA A n = none) : ∃ x, lookA A.1 n = some x := by
  unfold errA at h
  split at h
  · simp at h
  · split at h
    · simp at h
    · rename_i x hx
      exact ⟨x, hx⟩
end

end Go.Proofs.Ytbhjdcoehgajcaa
