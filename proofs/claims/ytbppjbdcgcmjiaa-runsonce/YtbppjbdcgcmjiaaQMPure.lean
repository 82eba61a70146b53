/-
  Rows that are merged by a heap of their heads. Plain facts. A lemma file: no statement of the seat is proved here.
-/
import Derived.Test.YtbppjbdcgcmjiaaGLaw
import Derived.Test.YtbppjbdcgcmjiaaQPure
namespace Go.Proofs.Ytbppjbdcgcmjiaa

/-- A head's record. -/
def hdR (h : G.Rc) : Rc := (h.1, h.2.1)

theorem hdR_le {h k : G.Rc} (hk : G.ltR k h = false) : ltR (hdR k) (hdR h) = false := by
  rw [Bool.eq_false_iff, Ne, G.ltR_iff] at hk
  rw [Bool.eq_false_iff, Ne, ltR_iff]
  simp only [hdR]
  omega

/-- What goes on with row i: its first is pushed, the others are left. -/
def NextIs (i : Nat) (S : List G.Rc) (ls : List (List Rc)) (S' : List G.Rc) (ls' : List (List Rc)) : Prop :=
  (ls[i]?.getD [] = [] ∧ S' = S ∧ ls' = ls) ∨ ∃ x t, ls[i]?.getD [] = x :: t ∧ S' = G.insR (x.1, x.2, (i : Int)) S ∧ ls' = ls.set i t

/-- Rows that are merged: j of them have been begun, P has been popped, S are the heads, ls what is left. -/
structure Mrg (rows : List (List Rc)) (j : Nat) (ls : List (List Rc)) (S : List G.Rc) (P : List Rc) : Prop where
  len : ls.length = rows.length
  rise : ∀ i : Nat, Rises (ls[i]?.getD [])
  run : ∀ h ∈ S, 0 ≤ h.2.2 ∧ h.2.2 < rows.length ∧ ∀ y ∈ ls[h.2.2.toNat]?.getD [], ltR y (hdR h) = false
  all : ∀ i : Nat, i < j → ls[i]?.getD [] ≠ [] → ∃ h ∈ S, h.2.2 = i
  perm : (P ++ (S.map hdR ++ ls.flatten)).Perm rows.flatten
  risen : Rises P
  less : ∀ x ∈ P, ∀ h ∈ S, ltR (hdR h) x = false

theorem flat_set {ls : List (List Rc)} {i : Nat} {x : Rc} {t : List Rc} (h : ls[i]?.getD [] = x :: t) : ls.flatten.Perm (x :: (ls.set i t).flatten) := by
  induction ls generalizing i with
  | nil => simp at h
  | cons l ls ih =>
    cases i with
    | zero =>
      simp at h
      subst h
      simp
    | succ i =>
      simp only [List.getElem?_cons_succ] at h
      rw [List.set_cons_succ, List.flatten_cons, List.flatten_cons]
      exact ((ih h).append_left l).trans List.perm_middle

theorem set_getD {ls : List (List Rc)} {i : Nat} {x : Rc} {t : List Rc} (h : ls[i]?.getD [] = x :: t) (k : Nat) : (ls.set i t)[k]?.getD [] = if k = i then t else ls[k]?.getD [] := by
  have hi : i < ls.length := by
    rcases Nat.lt_or_ge i ls.length with h1 | h1
    · exact h1
    · rw [List.getElem?_eq_none h1] at h
      cases h
  by_cases e : k = i
  · subst e
    rw [if_pos rfl, List.getElem?_set_self hi]
    rfl
  · rw [if_neg e, List.getElem?_set_ne (fun h => e h.symm)]

/-- A row is begun, or goes on. -/
theorem Mrg.next {rows ls ls' : List (List Rc)} {j j' i : Nat} {S S' : List G.Rc} {P : List Rc} (h : Mrg rows j ls S P) (hi : i < rows.length) (hn : NextIs i S ls S' ls')
    (hj : ∀ k, k < j' → k = i ∨ k < j) (hless : ∀ x ∈ P, ∀ y ∈ ls[i]?.getD [], ltR y x = false) : Mrg rows j' ls' S' P := by
  rcases hn with ⟨h1, rfl, rfl⟩ | ⟨x, t, h1, rfl, rfl⟩
  · refine ⟨h.len, h.rise, h.run, fun k hk hne => ?_, h.perm, h.risen, h.less⟩
    rcases hj k hk with rfl | hk
    · exact absurd h1 hne
    · exact h.all k hk hne
  · have hxt := h.rise i
    rw [h1] at hxt
    obtain ⟨ht1, ht2⟩ := List.pairwise_cons.1 hxt
    have hmem : ∀ z ∈ G.insR (x.1, x.2, (i : Int)) S, z = (x.1, x.2, (i : Int)) ∨ z ∈ S := fun z hz => by
      have := (G.insR_perm (x.1, x.2, (i : Int)) S).subset hz
      simpa using this
    have hin : ∀ z, z = (x.1, x.2, (i : Int)) ∨ z ∈ S → z ∈ G.insR (x.1, x.2, (i : Int)) S := fun z hz => (G.insR_perm (x.1, x.2, (i : Int)) S).symm.subset (by simpa using hz)
    refine ⟨by rw [List.length_set]; exact h.len, fun k => ?_, fun z hz => ?_, fun k hk hne => ?_, ?_, h.risen, fun a ha z hz => ?_⟩
    · rw [set_getD h1]
      split
      · exact ht2
      · exact h.rise k
    · rcases hmem z hz with rfl | hz
      · refine ⟨by simp, by simpa using hi, fun y hy => ?_⟩
        rw [set_getD h1, if_pos (by simp)] at hy
        exact ht1 y hy
      · obtain ⟨a1, a2, a3⟩ := h.run z hz
        refine ⟨a1, a2, fun y hy => a3 y ?_⟩
        rw [set_getD h1] at hy
        split at hy
        · rename_i e
          rw [e, h1]
          exact List.mem_cons_of_mem _ hy
        · exact hy
    · rw [set_getD h1] at hne
      split at hne
      · rename_i e
        exact ⟨_, hin _ (.inl rfl), by rw [e]⟩
      · rename_i e
        rcases hj k hk with h2 | h2
        · exact absurd h2 e
        · obtain ⟨z, hz, e2⟩ := h.all k h2 hne
          exact ⟨z, hin _ (.inr hz), e2⟩
    · refine List.Perm.trans (List.Perm.append_left P ?_) h.perm
      refine (((G.insR_perm (x.1, x.2, (i : Int)) S).map hdR).append_right _).trans ?_
      refine List.Perm.trans ?_ ((flat_set h1).symm.append_left (S.map hdR))
      simp only [List.map_cons, List.cons_append, hdR]
      exact List.perm_middle.symm
    · rcases hmem z hz with rfl | hz
      · exact hless a ha x (by rw [h1]; simp)
      · exact h.less a ha z hz

theorem Mrg.pop {rows ls : List (List Rc)} {S : List G.Rc} {h0 : G.Rc} {P : List Rc} (h : Mrg rows rows.length ls (h0 :: S) P) (hS : G.Rises (h0 :: S)) {ls' : List (List Rc)} {S' : List G.Rc} (hn : NextIs h0.2.2.toNat S ls S' ls') :
    Mrg rows rows.length ls' S' (P ++ [hdR h0]) := by
  obtain ⟨a1, a2, a3⟩ := h.run h0 (by simp)
  have hle : ∀ k ∈ S, ltR (hdR k) (hdR h0) = false := fun k hk => hdR_le ((List.pairwise_cons.1 hS).1 k hk)
  have hmid : Mrg rows 0 ls S (P ++ [hdR h0]) := by
    refine ⟨h.len, h.rise, fun z hz => h.run z (by simp [hz]), fun i hi _ => by omega, ?_, ?_, fun x hx z hz => ?_⟩
    · refine List.Perm.trans ?_ h.perm
      rw [List.append_assoc]
      refine List.Perm.append_left P ?_
      simp
    · exact List.pairwise_append.2 ⟨h.risen, by simp, fun a ha b hb => by simp at hb; subst hb; exact h.less a ha h0 (by simp)⟩
    · rcases List.mem_append.1 hx with hx | hx
      · exact h.less x hx z (by simp [hz])
      · simp at hx
        subst hx
        exact hle z hz
  have hall : Mrg rows 0 ls' S' (P ++ [hdR h0]) := hmid.next (by omega) hn (fun k hk => by omega) (fun x hx y hy => by
    rcases List.mem_append.1 hx with hx | hx
    · exact nlt_trans (h.less x hx h0 (by simp)) (a3 y hy)
    · simp at hx
      subst hx
      exact a3 y hy)
  refine ⟨hall.len, hall.rise, hall.run, fun k hk hne => ?_, hall.perm, hall.risen, hall.less⟩
  -- which rows have a head
  rcases hn with ⟨h1, rfl, rfl⟩ | ⟨x, t, h1, rfl, rfl⟩
  · obtain ⟨z, hz, e⟩ := h.all k hk hne
    rcases List.mem_cons.1 hz with rfl | hz
    · rw [show z.2.2.toNat = k by omega] at h1
      exact absurd h1 hne
    · exact ⟨z, hz, e⟩
  · have hin : ∀ z, z = (x.1, x.2, (h0.2.2.toNat : Int)) ∨ z ∈ S → z ∈ G.insR (x.1, x.2, (h0.2.2.toNat : Int)) S := fun z hz => (G.insR_perm (x.1, x.2, (h0.2.2.toNat : Int)) S).symm.subset (by simpa using hz)
    rw [set_getD h1] at hne
    split at hne
    · rename_i e
      exact ⟨_, hin _ (.inl rfl), by simp; omega⟩
    · rename_i e
      obtain ⟨z, hz, e2⟩ := h.all k hk hne
      rcases List.mem_cons.1 hz with rfl | hz
      · omega
      · exact ⟨z, hin _ (.inr hz), e2⟩

theorem Mrg.start {rows : List (List Rc)} (h : ∀ i : Nat, Rises (rows[i]?.getD [])) : Mrg rows 0 rows [] [] :=
  ⟨rfl, h, by simp, fun i hi _ => by omega, by simp, List.Pairwise.nil, by simp⟩

theorem Mrg.done {rows ls : List (List Rc)} {P : List Rc} (h : Mrg rows rows.length ls [] P) : P = sortR [] rows.flatten := by
  have hf : ls.flatten = [] := by
    rw [List.flatten_eq_nil_iff]
    intro l hl
    obtain ⟨i, hi⟩ := List.getElem?_of_mem hl
    have hil := (List.getElem?_eq_some_iff.1 hi).1
    refine Classical.byContradiction fun hne => ?_
    obtain ⟨z, hz, _⟩ := h.all i (by rw [← h.len]; exact hil) (by rw [hi]; exact hne)
    simp at hz
  have hp := h.perm
  rw [hf] at hp
  simp at hp
  rw [sort_of_perm hp.symm, sort_id h.risen]

theorem Mrg.count {rows ls : List (List Rc)} {j : Nat} {S : List G.Rc} {P : List Rc} (h : Mrg rows j ls S P) : P.length + S.length ≤ rows.flatten.length := by
  have := h.perm.length_eq
  simp only [List.length_append, List.length_map] at this
  omega

end Go.Proofs.Ytbppjbdcgcmjiaa
