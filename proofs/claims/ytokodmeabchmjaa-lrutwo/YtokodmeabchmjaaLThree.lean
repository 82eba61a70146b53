/-
  Three caches beside one another. A lemma file: no statement of the seat is proved here.
-/
import Derived.Test.YtokodmeabchmjaaLPure2
namespace Go.Proofs.Ytokodmeabchmjaa
open Go.RowKit Go.Maps

/-- A cache, as it is told: where it is, how many uses at most, its keys. -/
structure Told where
  p : Nat
  n : Nat
  l : List (Int × Nat)

def Apart (a b : List Nat) : Prop := ∀ x ∈ a, x ∉ b

theorem Apart.symm {a b : List Nat} (h : Apart a b) : Apart b a := fun x hx hy => h x hy hx

def L3 (w0 w : World) (x y z : Told) : Prop := ∃ fx fy fz, Ck kI w fx x.p 5 x.n x.l ∧ Ck kI w fy y.p 5 y.n y.l ∧ Ck kI w fz z.p 5 z.n z.l ∧ Apart fx fy ∧ Apart fy fz ∧ Apart fz fx ∧
  (∀ b, b ∈ fx ∨ b ∈ fy ∨ b ∈ fz → w0.heap.size ≤ b) ∧ Below w0.heap.size w0 w

section
variable {w0 w w' : World} {x y z : Told}

theorem L3.bel (h : L3 w0 w x y z) : Below w0.heap.size w0 w := by obtain ⟨_, _, _, _, _, _, _, _, _, _, h⟩ := h; exact h

theorem L3.rot (h : L3 w0 w x y z) : L3 w0 w y z x := by
  obtain ⟨fx, fy, fz, h1, h2, h3, a1, a2, a3, hb, h⟩ := h
  exact ⟨fy, fz, fx, h2, h3, h1, a2, a3, a1, fun b hm => hb b (by rcases hm with h | h | h <;> simp [h]), h⟩

theorem L3.below (h : L3 w0 w x y z) (hb : Below w.heap.size w w') : L3 w0 w' x y z := by
  obtain ⟨fx, fy, fz, h1, h2, h3, a1, a2, a3, h4, h5⟩ := h
  exact ⟨fx, fy, fz, h1.below hb, h2.below hb, h3.below hb, a1, a2, a3, h4, below_then h5 hb⟩

theorem L3.step {fx fy fz : List Nat} (h2 : Ck kI w fy y.p 5 y.n y.l) (h3 : Ck kI w fz z.p 5 z.n z.l) (a1 : Apart fx fy) (a2 : Apart fy fz) (a3 : Apart fz fx)
    (h4 : ∀ b, b ∈ fx ∨ b ∈ fy ∨ b ∈ fz → w0.heap.size ≤ b) (h5 : Below w0.heap.size w0 w) {n' : Nat} {l' : List (Int × Nat)} (o : Outc kI w w' fx x.p 5 n' l') : L3 w0 w' ⟨x.p, n', l'⟩ y z := by
  obtain ⟨fx', o1, o2, o3⟩ := o
  refine ⟨fx', fy, fz, o1, h2.kept o2 (fun b hb hx => a1 b hx hb), h3.kept o2 a3, fun b hb hy => ?_, a2, fun b hz hb => ?_, fun b hb => ?_, h5.trans (o2.below h5.size (fun b hb => h4 b (.inl hb)))⟩
  · rcases o3 b hb with h | h
    · exact a1 b h hy
    · have := h2.lt b hy
      omega
  · rcases o3 b hb with h | h
    · exact a3 b hz h
    · have := h3.lt b hz
      omega
  · rcases hb with hb | hb | hb
    · rcases o3 b hb with h | h
      · exact h4 b (.inl h)
      · exact Nat.le_trans h5.size h
    · exact h4 b (.inr (.inl hb))
    · exact h4 b (.inr (.inr hb))

theorem L3.call (h : L3 w0 w x y z) {f : Nat} {args : Array Value} {R : Ending → Prop} {n' : Nat} {l' : List (Int × Nat)} (hc : ∀ fp, Ck kI w fp x.p 5 x.n x.l → Calls Try.prog f args w fun e w' => R e ∧ Outc kI w w' fp x.p 5 n' l') :
    Calls Try.prog f args w fun e w' => R e ∧ L3 w0 w' ⟨x.p, n', l'⟩ y z := by
  obtain ⟨fx, fy, fz, h1, h2, h3, a1, a2, a3, h4, h5⟩ := h
  refine (hc fx h1).mono ?_
  rintro e w' ⟨r, o⟩
  exact ⟨r, L3.step h2 h3 a1 a2 a3 h4 h5 o⟩

theorem L3.use (h : L3 w0 w x y z) (hn : x.n + 1 ≤ 1000000) (k : Int) (hok : kI.ok k) : Calls Try.prog 26 #[.pointer (some ⟨x.p, 0, none⟩), .int .i64 k] w fun e w' => (∃ a b c, e = .returned (.tuple #[a, b, c])) ∧ L3 w0 w' ⟨x.p, x.n + 1, (useA 5 x.l k).2.2⟩ y z :=
  h.call fun _ c => (I.use_any c hn k hok).mono fun _ _ ⟨he, o⟩ => ⟨⟨_, _, _, he⟩, o⟩

theorem L3.pin (h : L3 w0 w x y z) (k : Int) (hok : kI.ok k) (hb : ∀ n, lookA x.l k = some n → n ≤ 1000000) : Calls Try.prog 27 #[.pointer (some ⟨x.p, 0, none⟩), .int .i64 k] w fun e w' => (∃ a : Int, e = .returned (.int .i64 a)) ∧ L3 w0 w' ⟨x.p, x.n, (pinA x.l k).2⟩ y z :=
  h.call fun _ c => (I.pin_any c k hok hb).mono fun _ _ ⟨he, o⟩ => ⟨⟨_, he⟩, o⟩

theorem L3.unpin (h : L3 w0 w x y z) (k : Int) (hok : kI.ok k) (hb : ∀ n, lookA x.l k = some n → n ≤ 1000000) : Calls Try.prog 31 #[.pointer (some ⟨x.p, 0, none⟩), .int .i64 k] w fun e w' => (∃ a : Int, e = .returned (.int .i64 a)) ∧ L3 w0 w' ⟨x.p, x.n, (unpinA x.l k).2⟩ y z :=
  h.call fun _ c => (I.unpin_any c k hok hb).mono fun _ _ ⟨he, o⟩ => ⟨⟨_, he⟩, o⟩

theorem L3.keys (h : L3 w0 w x y z) (hl : x.l.length ≤ 12) : Calls Try.prog 29 #[.pointer (some ⟨x.p, 0, none⟩)] w fun e w' => ∃ v, e = .returned v ∧ w'.ownsRow w.heap.size kI.tk 1 v x.l.length (x.l.map fun y => kI.enc y.1) ∧ L3 w0 w' x y z ∧ Below w.heap.size w w' := by
  have h0 := h
  obtain ⟨fx, fy, fz, h1, _⟩ := h
  refine (I.keys_any sortsTo12 (by omega) h1 hl).mono ?_
  rintro e w' ⟨v, rfl, o, b⟩
  exact ⟨v, rfl, o, h0.below b, b⟩

end

/-! ### How often keys are pinned, at most -/
def PinsLe (b : Nat) (l : List (Int × Nat)) : Prop := ∀ x ∈ l, x.2 ≤ b

theorem PinsLe.look {b : Nat} {l : List (Int × Nat)} (h : PinsLe b l) {k : Int} {n : Nat} (hl : lookA l k = some n) : n ≤ b := by
  unfold lookA at hl
  obtain ⟨x, hx, rfl⟩ := Option.map_eq_some_iff.1 hl
  exact h x (List.mem_of_find?_eq_some hx)

theorem PinsLe.mono {b c : Nat} {l : List (Int × Nat)} (h : PinsLe b l) (hc : b ≤ c) : PinsLe c l := fun x hx => Nat.le_trans (h x hx) hc

theorem PinsLe.del {b : Nat} {l : List (Int × Nat)} (h : PinsLe b l) (k : Int) : PinsLe b (delA l k) := fun x hx => h x (List.mem_filter.1 hx).1

theorem PinsLe.snoc {b n : Nat} {l : List (Int × Nat)} (h : PinsLe b l) (k : Int) (hn : n ≤ b) : PinsLe b (l ++ [(k, n)]) := fun x hx => by
  rcases List.mem_append.1 hx with hx | hx
  · exact h x hx
  · simp at hx
    subst hx
    exact hn

theorem PinsLe.set {b n : Nat} {l : List (Int × Nat)} (h : PinsLe b l) (k : Int) (hn : n ≤ b) : PinsLe b (setA l k n) := fun x hx => by
  obtain ⟨y, hy, rfl⟩ := List.mem_map.1 hx
  split
  · exact hn
  · exact h y hy

theorem PinsLe.use {b : Nat} {l : List (Int × Nat)} (h : PinsLe b l) (fr k : Int) : PinsLe b (useA fr l k).2.2 := by
  unfold useA
  cases hl : lookA l k with
  | some n => exact (h.del k).snoc k (h.look hl)
  | none =>
    simp only
    split
    · cases firstA l with
      | none => exact h
      | some k0 => exact (h.del k0).snoc k (Nat.zero_le _)
    · exact h.snoc k (Nat.zero_le _)

theorem PinsLe.pin {b : Nat} {l : List (Int × Nat)} (h : PinsLe b l) (k : Int) : PinsLe (b + 1) (pinA l k).2 := by
  unfold pinA
  cases hl : lookA l k with
  | some n => exact (h.mono (Nat.le_succ _)).set k (Nat.succ_le_succ (h.look hl))
  | none => exact h.mono (Nat.le_succ _)

theorem PinsLe.unpin {b : Nat} {l : List (Int × Nat)} (h : PinsLe b l) (k : Int) : PinsLe b (unpinA l k).2 := by
  unfold unpinA
  cases hl : lookA l k with
  | some n =>
    simp only
    split
    · exact h
    · exact h.set k (Nat.le_trans (Nat.sub_le _ _) (h.look hl))
  | none => exact h

/-- No more keys than frames. -/
theorem useA_len {l : List (Int × Nat)} (h : l.length ≤ 5) (hn : (l.map fun x => x.1).Nodup) (k : Int) : (useA 5 l k).2.2.length ≤ 5 ∧ ((useA 5 l k).2.2.map fun x => x.1).Nodup := by
  have hdel : ∀ k0, (lookA l k0).isSome → (delA l k0).length + 1 = l.length := fun k0 h0 => by
    unfold delA
    clear h
    induction l with
    | nil => simp [lookA] at h0
    | cons x l ih =>
      rw [List.map_cons, List.nodup_cons] at hn
      rw [List.filter_cons]
      by_cases e : x.1 = k0
      · have : l.filter (fun y => !decide (y.1 = k0)) = l := List.filter_eq_self.2 fun y hy => by
          simp only [Bool.not_eq_true', decide_eq_false_iff_not]
          exact fun e2 => hn.1 (List.mem_map.2 ⟨y, hy, by rw [e2, e]⟩)
        simp [e, this]
      · have h1 : (lookA l k0).isSome := by
          unfold lookA at h0 ⊢
          rw [List.find?_cons] at h0
          simpa [e] using h0
        have := ih hn.2 h1
        simp [e]
        omega
  have hnd : ∀ k0 : Int, ((delA l k0).map fun x => x.1).Nodup := fun k0 => hn.sublist (List.filter_sublist.map _)
  have hnot : ∀ k0 : Int, k0 ∉ (delA l k0).map fun x => x.1 := fun k0 hm => by
    obtain ⟨y, hy, e⟩ := List.mem_map.1 hm
    have := (List.mem_filter.1 hy).2
    simp [e] at this
  have hsn : ∀ (l2 : List (Int × Nat)) (n : Nat), (l2.map fun x => x.1).Nodup → k ∉ (l2.map fun x => x.1) → ((l2 ++ [(k, n)]).map fun x => x.1).Nodup := fun l2 n h1 h2 => by
    rw [List.map_append, List.nodup_append]
    exact ⟨h1, by simp, fun a ha b hb e => by simp at hb; subst hb; subst e; exact h2 ha⟩
  unfold useA
  cases hl : lookA l k with
  | some n =>
    have := hdel k (by rw [hl]; rfl)
    exact ⟨by simp; omega, hsn _ _ (hnd k) (hnot k)⟩
  | none =>
    have hk : k ∉ l.map fun x => x.1 := fun hm => by
      obtain ⟨y, hy, e⟩ := List.mem_map.1 hm
      unfold lookA at hl
      rw [Option.map_eq_none_iff] at hl
      have := List.find?_eq_none.1 hl y hy
      simp [e] at this
    simp only
    split
    · cases hf : firstA l with
      | none => exact ⟨h, hn⟩
      | some k0 =>
        have h0 : (lookA l k0).isSome := by
          unfold firstA at hf
          obtain ⟨y, hy, rfl⟩ := Option.map_eq_some_iff.1 hf
          unfold lookA
          rw [Option.isSome_map]
          exact List.find?_isSome.2 ⟨y, List.mem_of_find?_eq_some hy, by simp⟩
        have := hdel k0 h0
        exact ⟨by simp; omega, hsn _ _ (hnd k0) (fun hm => hk (by
          obtain ⟨y, hy, e⟩ := List.mem_map.1 hm
          exact List.mem_map.2 ⟨y, (List.mem_filter.1 hy).1, e⟩))⟩
    · exact ⟨by simp; omega, hsn _ _ hn hk⟩

end Go.Proofs.Ytokodmeabchmjaa
