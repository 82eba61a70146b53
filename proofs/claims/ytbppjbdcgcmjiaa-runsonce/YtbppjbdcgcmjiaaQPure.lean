/-
  Records combined: it does not matter in which order, nor in what pieces. Plain facts. A lemma file: no statement of the seat is proved here.
-/
import Derived.Test.YtbppjbdcgcmjiaaQRun
namespace Go.Proofs.Ytbppjbdcgcmjiaa

/-- Of natural numbers. -/
def combN (how : Int) (a b : Nat) : Nat := if how = 1 then min (a + b) 18446744073709551615 else min a b
theorem combN_comm (how : Int) (a b : Nat) : combN how a b = combN how b a := by unfold combN; split <;> omega
theorem combN_assoc (how : Int) (a b c : Nat) : combN how (combN how a b) c = combN how a (combN how b c) := by unfold combN; split <;> omega
theorem combV_nat (how a b : Int) (ha : 0 ≤ a) (hb : 0 ≤ b) : (combV how a b).toNat = combN how a.toNat b.toNat := by
  unfold combV combN
  split
  · split <;> omega
  · split <;> omega

def optC (how : Int) : Option Nat → Option Nat → Option Nat
  | none, b => b
  | some a, none => some a
  | some a, some b => some (combN how a b)
theorem optC_none (how : Int) (a : Option Nat) : optC how a none = a := by cases a <;> rfl
theorem optC_comm (how : Int) (a b : Option Nat) : optC how a b = optC how b a := by
  cases a <;> cases b <;> simp [optC, combN_comm how]
theorem optC_assoc (how : Int) (a b c : Option Nat) : optC how (optC how a b) c = optC how a (optC how b c) := by
  cases a <;> cases b <;> cases c <;> simp [optC, combN_assoc how]

/-- All values of a key, combined. -/
def valK (how k : Int) : List Rc → Option Nat
  | [] => none
  | x :: l => optC how (if x.1 = k then some x.2.toNat else none) (valK how k l)

theorem valK_append (how k : Int) (l m : List Rc) : valK how k (l ++ m) = optC how (valK how k l) (valK how k m) := by
  induction l with
  | nil => rfl
  | cons x l ih => simp only [List.cons_append, valK, ih, optC_assoc]

theorem valK_perm (how k : Int) {l m : List Rc} (h : l.Perm m) : valK how k l = valK how k m := by
  induction h with
  | nil => rfl
  | cons x _ ih => simp only [valK, ih]
  | swap x y l => simp only [valK, ← optC_assoc]; rw [optC_comm how (if y.1 = k then _ else _)]
  | trans _ _ h1 h2 => exact h1.trans h2

/-- Keys rise, each is there once. -/
def Strict (l : List Rc) : Prop := l.Pairwise (fun x y => x.1 < y.1)

theorem Strict.rises {l : List Rc} (h : Strict l) : Rises l := h.imp fun h => by
  rw [Bool.eq_false_iff, Ne, ltR_iff]
  omega

theorem valK_none {how k : Int} {l : List Rc} (h : ∀ x ∈ l, x.1 ≠ k) : valK how k l = none := by
  induction l with
  | nil => rfl
  | cons x l ih =>
    rw [valK, if_neg (h x (by simp)), ih (fun y hy => h y (by simp [hy]))]
    rfl

theorem valK_mem {how k : Int} {l : List Rc} (h : ∃ x ∈ l, x.1 = k) : valK how k l ≠ none := by
  induction l with
  | nil => simp at h
  | cons x l ih =>
    rw [valK]
    by_cases hx : x.1 = k
    · rw [if_pos hx]
      cases valK how k l <;> simp [optC]
    · rw [if_neg hx]
      obtain ⟨y, hy, hk⟩ := h
      rcases List.mem_cons.1 hy with rfl | hy
      · exact absurd hk hx
      · exact ih ⟨y, hy, hk⟩

theorem Strict.valK_eq {how : Int} {l : List Rc} (h : Strict l) {x : Rc} (hx : x ∈ l) : valK how x.1 l = some x.2.toNat := by
  induction l with
  | nil => simp at hx
  | cons y l ih =>
    obtain ⟨h1, h2⟩ := List.pairwise_cons.1 h
    rw [valK]
    rcases List.mem_cons.1 hx with rfl | hx
    · rw [if_pos rfl, valK_none (fun z hz => by have := h1 z hz; omega)]
      rfl
    · rw [if_neg (by have := h1 x hx; omega), ih h2 hx]
      rfl

/-- Two rows with strict keys that tell the same of each key are one. -/
theorem Strict.unique {how : Int} {l m : List Rc} (hl : Strict l) (hm : Strict m) (okl : ∀ e ∈ l, okR e) (okm : ∀ e ∈ m, okR e) (h : ∀ k, valK how k l = valK how k m) : l = m := by
  have key : ∀ {l m : List Rc}, Strict l → Strict m → (∀ e ∈ l, okR e) → (∀ e ∈ m, okR e) → (∀ k, valK how k l = valK how k m) → ∀ x ∈ l, x ∈ m := by
    intro l m hl hm okl okm h x hx
    have e1 := hl.valK_eq (how := how) hx
    rw [h x.1] at e1
    have : ∃ y ∈ m, y.1 = x.1 := Classical.byContradiction fun hn => by
      rw [valK_none (fun y hy he => hn ⟨y, hy, he⟩)] at e1
      cases e1
    obtain ⟨y, hy, hk⟩ := this
    have e2 := hm.valK_eq (how := how) hy
    rw [hk, e1] at e2
    simp only [Option.some.injEq] at e2
    have a1 := (okl x hx).2
    have a2 := (okm y hy).2
    have e3 : x = y := Prod.ext hk.symm (by omega)
    rw [e3]
    exact hy
  refine Rises.unique hl.rises hm.rises ?_
  have nd : ∀ {l : List Rc}, Strict l → l.Nodup := fun h => h.imp fun h e => by subst e; omega
  exact (List.perm_ext_iff_of_nodup (nd hl) (nd hm)).2 fun x => ⟨key hl hm okl okm h x, key hm hl okm okl (fun k => (h k).symm) x⟩

theorem revInd {p : List Rc → Prop} (nil : p []) (append_singleton : ∀ l x, p l → p (l ++ [x])) : ∀ l, p l := fun l => by
  have : ∀ m : List Rc, p m.reverse := by
    intro m
    induction m with
    | nil => exact nil
    | cons x m ih => rw [List.reverse_cons]; exact append_singleton _ _ ih
  have h := this l.reverse
  rwa [List.reverse_reverse] at h

theorem addR_ok {how : Int} {l : List Rc} {x : Rc} (hl : ∀ e ∈ l, okR e) (hx : okR x) : ∀ e ∈ addR how l x, okR e := by
  intro e he
  unfold addR at he
  split at he
  · rcases List.mem_append.1 he with h | h
    · exact hl e h
    · simp at h
      subst h
      exact hx
  · rename_i hc
    have hne : l ≠ [] := fun e => hc (.inr (.inl e))
    have hlen := List.length_pos_iff.2 hne
    rcases List.mem_or_eq_of_mem_set he with h | rfl
    · exact hl e h
    · have h1 := hl l[l.length - 1]! (by rw [getElem!_pos l (l.length - 1) (by omega)]; exact List.getElem_mem _)
      exact ⟨hx.1, combV_ok _ _ _ h1.2 hx.2⟩

theorem foldR_snocL (how : Int) (l : List Rc) (x : Rc) : foldR how (l ++ [x]) = addR how (foldR how l) x := by simp [foldR]

theorem foldR_ok {how : Int} {l : List Rc} (h : ∀ e ∈ l, okR e) : ∀ e ∈ foldR how l, okR e := by
  induction l using revInd with
  | nil => simp [foldR]
  | append_singleton l x ih =>
    rw [foldR_snocL]
    exact addR_ok (ih (fun e he => h e (by simp [he]))) (h x (by simp))

theorem foldR_zero (l : List Rc) : foldR 0 l = l := by
  induction l using revInd with
  | nil => rfl
  | append_singleton l x ih => rw [foldR_snocL, ih, addR_push (.inl rfl)]

/-- What is behind a fold of a row that rises. -/
theorem foldR_strict {how : Int} (hh : how ≠ 0) {l : List Rc} (h : Rises l) (hok : ∀ e ∈ l, okR e) :
    Strict (foldR how l) ∧ (∀ k, valK how k (foldR how l) = valK how k l) ∧ (∀ y ∈ foldR how l, ∃ z ∈ l, z.1 = y.1) := by
  induction l using revInd with
  | nil => exact ⟨List.Pairwise.nil, fun _ => rfl, by simp [foldR]⟩
  | append_singleton l x ih =>
    have hr := List.pairwise_append.1 h
    have okl : ∀ e ∈ l, okR e := fun e he => hok e (by simp [he])
    have okx : okR x := hok x (by simp)
    obtain ⟨h1, h2, h3⟩ := ih hr.1 okl
    have fok := foldR_ok (how := how) okl
    rw [foldR_snocL]
    have hle : ∀ y ∈ foldR how l, y.1 ≤ x.1 := fun y hy => by
      obtain ⟨z, hz, e⟩ := h3 y hy
      have := hr.2.2 z hz x (by simp)
      rw [Bool.eq_false_iff, Ne, ltR_iff] at this
      omega
    generalize foldR how l = F at h1 h2 h3 fok hle
    rcases List.eq_nil_or_concat F with rfl | ⟨F', y, hF⟩
    · rw [addR_push (.inr (.inl rfl))]
      refine ⟨by simp [Strict], fun k => ?_, fun y hy => ⟨x, by simp, by simp at hy; rw [hy]⟩⟩
      rw [List.nil_append, valK_append, ← h2 k]
      rfl
    · rw [List.concat_eq_append] at hF
      subst hF
      have hlast : (F' ++ [y])[(F' ++ [y]).length - 1]! = y := by
        rw [getElem!_pos _ _ (by simp)]
        simp
      by_cases hk : y.1 = x.1
      · rw [addR_comb (by rw [hlast]; simp [hh, hk]), hlast]
        have es : (F' ++ [y]).set ((F' ++ [y]).length - 1) (x.1, combV how y.2 x.2) = F' ++ [(x.1, combV how y.2 x.2)] := by
          rw [List.set_append_right _ _ (by simp)]
          simp
        rw [es]
        have hp := List.pairwise_append.1 h1
        refine ⟨List.pairwise_append.2 ⟨hp.1, by simp, fun a ha b hb => ?_⟩, fun k => ?_, fun z hz => ?_⟩
        · simp at hb
          subst hb
          have := hp.2.2 a ha y (by simp)
          simp only
          omega
        · rw [valK_append how k l, ← h2 k, valK_append, valK_append, optC_assoc]
          congr 1
          have a1 := (fok y (by simp)).2
          have a2 := okx.2
          simp only [valK, optC_none]
          by_cases e : x.1 = k
          · rw [if_pos e, if_pos (hk.trans e), if_pos e, combV_nat _ _ _ a1.1 a2.1]
            rfl
          · rw [if_neg e, if_neg (fun h => e (hk.symm.trans h)), if_neg e]
            rfl
        · rcases List.mem_append.1 hz with hz | hz
          · obtain ⟨a, ha, e⟩ := h3 z (by simp [hz])
            exact ⟨a, by simp [ha], e⟩
          · simp at hz
            exact ⟨x, by simp, by rw [hz]⟩
      · rw [addR_push (.inr (.inr (by rw [hlast]; exact hk)))]
        refine ⟨List.pairwise_append.2 ⟨h1, by simp, fun a ha b hb => ?_⟩, fun k => ?_, fun z hz => ?_⟩
        · simp at hb
          subst hb
          have hy := hle y (by simp)
          rcases List.mem_append.1 ha with ha | ha
          · have := (List.pairwise_append.1 h1).2.2 a ha y (by simp)
            omega
          · simp at ha
            subst ha
            omega
        · rw [valK_append how k (F' ++ [y]), valK_append how k l, h2 k]
        · rcases List.mem_append.1 hz with hz | hz
          · obtain ⟨a, ha, e⟩ := h3 z hz
            exact ⟨a, by simp [ha], e⟩
          · simp at hz
            exact ⟨x, by simp, by rw [hz]⟩

/-- Sorted of records. -/
def canR (how : Int) (l : List Rc) : List Rc := foldR how (sortR [] l)

theorem sortR_ok {l : List Rc} (h : ∀ e ∈ l, okR e) : ∀ e ∈ sortR [] l, okR e := fun e he => h e (by simpa using (sortR_perm [] l).subset he)
theorem sorts_rise (l : List Rc) : Rises (sortR [] l) := sortR_rises (by simp [Rises]) l
theorem sortP (l : List Rc) : (sortR [] l).Perm l := by simpa using sortR_perm [] l
theorem sort_of_perm {l m : List Rc} (h : l.Perm m) : sortR [] l = sortR [] m := Rises.unique (sorts_rise l) (sorts_rise m) ((sortP l).trans (h.trans (sortP m).symm))
theorem sort_id {l : List Rc} (h : Rises l) : sortR [] l = l := Rises.unique (sorts_rise l) h (sortP l)
theorem canR_ok {how : Int} {l : List Rc} (h : ∀ e ∈ l, okR e) : ∀ e ∈ canR how l, okR e := foldR_ok (sortR_ok h)
theorem canR_zero (l : List Rc) : canR 0 l = sortR [] l := foldR_zero _
theorem canR_strict {how : Int} (hh : how ≠ 0) {l : List Rc} (hok : ∀ e ∈ l, okR e) : Strict (canR how l) := (foldR_strict hh (sorts_rise l) (sortR_ok hok)).1
theorem canR_val {how : Int} (hh : how ≠ 0) {l : List Rc} (hok : ∀ e ∈ l, okR e) (k : Int) : valK how k (canR how l) = valK how k l :=
  ((foldR_strict hh (sorts_rise l) (sortR_ok hok)).2.1 k).trans (valK_perm how k (sortP l))
theorem canR_rises {how : Int} {l : List Rc} (hok : ∀ e ∈ l, okR e) : Rises (canR how l) := by
  by_cases hh : how = 0
  · subst hh
    rw [canR_zero]
    exact sorts_rise l
  · exact (canR_strict hh hok).rises
theorem canR_le (how : Int) (l : List Rc) : (canR how l).length ≤ l.length := by
  have := foldR_le how (sortR [] l)
  rw [(sortP l).length_eq] at this
  exact this

/-- Two rows have the same records, as far as how asks. -/
def Like (how : Int) (l m : List Rc) : Prop := if how = 0 then l.Perm m else ∀ k, valK how k l = valK how k m

theorem Like.refl (how : Int) (l : List Rc) : Like how l l := by unfold Like; split; exact List.Perm.refl _; exact fun _ => rfl
theorem Like.symm {how : Int} {l m : List Rc} (h : Like how l m) : Like how m l := by
  unfold Like at *
  split at h
  · rename_i e; rw [if_pos e]; exact h.symm
  · rename_i e; rw [if_neg e]; exact fun k => (h k).symm
theorem Like.trans {how : Int} {l m n : List Rc} (h : Like how l m) (k : Like how m n) : Like how l n := by
  unfold Like at *
  split at h
  · rename_i e; rw [if_pos e] at *; exact h.trans k
  · rename_i e; rw [if_neg e] at *; exact fun i => (h i).trans (k i)
theorem Like.of_perm {how : Int} {l m : List Rc} (h : l.Perm m) : Like how l m := by
  unfold Like
  split
  · exact h
  · exact fun k => valK_perm how k h
theorem Like.append {how : Int} {l m l' m' : List Rc} (h : Like how l l') (k : Like how m m') : Like how (l ++ m) (l' ++ m') := by
  unfold Like at *
  split
  · rename_i e; rw [if_pos e] at *; exact h.append k
  · rename_i e; rw [if_neg e] at *; intro i; rw [valK_append, valK_append, h i, k i]
theorem canR_like {how : Int} {l : List Rc} (hok : ∀ e ∈ l, okR e) : Like how (canR how l) l := by
  unfold Like
  split
  · rename_i e; subst e; rw [canR_zero]; exact sortP l
  · rename_i e; exact canR_val e hok
/-- What is like is sorted to the same. -/
theorem Like.can {how : Int} {l m : List Rc} (h : Like how l m) (okl : ∀ e ∈ l, okR e) (okm : ∀ e ∈ m, okR e) : canR how l = canR how m := by
  unfold Like at h
  split at h
  · rename_i e; subst e; rw [canR_zero, canR_zero]; exact sort_of_perm h
  · rename_i e
    exact Strict.unique (how := how) (canR_strict e okl) (canR_strict e okm) (canR_ok okl) (canR_ok okm) fun k => by rw [canR_val e okl, canR_val e okm, h k]

theorem Like.flat {how : Int} {ls ms : List (List Rc)} (hl : ls.length = ms.length) (h : ∀ i, i < ls.length → Like how (ls[i]?.getD []) (ms[i]?.getD [])) : Like how ls.flatten ms.flatten := by
  induction ls generalizing ms with
  | nil =>
    obtain rfl : ms = [] := List.eq_nil_of_length_eq_zero hl.symm
    exact Like.refl _ _
  | cons x ls ih =>
    cases ms with
    | nil => simp at hl
    | cons y ms =>
      rw [List.flatten_cons, List.flatten_cons]
      refine Like.append (by simpa using h 0 (by simp)) (ih (by simpa using hl) fun i hi => ?_)
      have := h (i + 1) (by simpa using hi)
      simpa using this

theorem flat_ok {ls : List (List Rc)} (h : ∀ l ∈ ls, ∀ e ∈ l, okR e) : ∀ e ∈ ls.flatten, okR e := fun e he => by
  obtain ⟨l, hl, he⟩ := List.mem_flatten.1 he
  exact h l hl e he

/-- Rows sorted each, then together. -/
theorem can_flat {how : Int} {ls : List (List Rc)} (h : ∀ l ∈ ls, ∀ e ∈ l, okR e) : canR how (ls.map (canR how)).flatten = canR how ls.flatten := by
  refine Like.can (Like.flat (by simp) fun i hi => ?_) (flat_ok fun l hl => ?_) (flat_ok h)
  · simp only [List.length_map] at hi
    simp only [List.getElem?_map, List.getElem?_eq_getElem hi, Option.map_some, Option.getD_some]
    exact canR_like (h _ (List.getElem_mem hi))
  · obtain ⟨m, hm, rfl⟩ := List.mem_map.1 hl
    exact canR_ok (h m hm)

theorem can_can {how : Int} {l : List Rc} (hok : ∀ e ∈ l, okR e) : canR how (canR how l) = canR how l := Like.can (canR_like hok) (canR_ok hok) hok

end Go.Proofs.Ytbppjbdcgcmjiaa
