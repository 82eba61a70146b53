/-
  What RunsTotal asks: keys of one row combined in two ways, sums and least ones. Plain facts. A lemma file: no statement of the seat is proved here.
-/
import Derived.Test.YtbppjbdcgcmjiaaQFew
namespace Go.Proofs.Ytbppjbdcgcmjiaa

theorem addR_keys {l m : List Rc} (x : Rc) (h : l.map (·.1) = m.map (·.1)) : (addR 1 l x).map (·.1) = (addR 2 m x).map (·.1) := by
  have hl : l.length = m.length := by simpa using congrArg List.length h
  by_cases h0 : l = []
  · subst h0
    obtain rfl : m = [] := List.eq_nil_of_length_eq_zero (by simpa using hl.symm)
    rw [addR_push (.inr (.inl rfl)), addR_push (.inr (.inl rfl))]
  · have hp : 0 < l.length := List.length_pos_iff.2 h0
    have hm0 : m ≠ [] := fun e => h0 (List.eq_nil_of_length_eq_zero (by rw [hl, e]; rfl))
    have hk : l[l.length - 1]!.1 = m[m.length - 1]!.1 := by
      rw [getElem!_pos l (l.length - 1) (by omega), getElem!_pos m (m.length - 1) (by omega)]
      have h1 := congrArg (fun (s : List Int) => s[l.length - 1]?) h
      simp only [List.getElem?_map] at h1
      rw [List.getElem?_eq_getElem (by omega), List.getElem?_eq_getElem (by omega)] at h1
      simp only [Option.map_some, Option.some.injEq] at h1
      simp only [← hl]
      exact h1
    by_cases hx : l[l.length - 1]!.1 = x.1
    · rw [addR_comb (fun h => by
        rcases h with h | h | h
        · exact absurd h (by decide)
        · exact h0 h
        · exact h hx), addR_comb (fun h => by
        rcases h with h | h | h
        · exact absurd h (by decide)
        · exact hm0 h
        · exact h (hk ▸ hx)), List.map_set, List.map_set, h, hl]
    · rw [addR_push (.inr (.inr hx)), addR_push (.inr (.inr (by rw [← hk]; exact hx))), List.map_append, List.map_append, h]

theorem foldR_keys : ∀ l : List Rc, (foldR 1 l).map (·.1) = (foldR 2 l).map (·.1) :=
  revInd rfl fun l x ih => by
    rw [foldR_snocL, foldR_snocL]
    exact addR_keys x ih

theorem canR_keys (l : List Rc) : (canR 1 l).map (·.1) = (canR 2 l).map (·.1) := foldR_keys _
theorem canR_len (l : List Rc) : (canR 1 l).length = (canR 2 l).length := by simpa using congrArg List.length (canR_keys l)
theorem canR_key (l : List Rc) (i : Nat) (hi : i < (canR 1 l).length) : (canR 1 l)[i]!.1 = (canR 2 l)[i]!.1 := by
  have hl := canR_len l
  rw [getElem!_pos _ i hi, getElem!_pos _ i (by omega)]
  have h1 := congrArg (fun (s : List Int) => s[i]?) (canR_keys l)
  simp only [List.getElem?_map] at h1
  rw [List.getElem?_eq_getElem (by omega), List.getElem?_eq_getElem (by omega)] at h1
  simpa using h1

/-- The loop over all records, for one key: the sum so far and the least one so far. -/
def TotSt (k : Int) (l : List Rc) (s t : Int) : Prop :=
  (valK 1 k l = none ∧ valK 2 k l = none ∧ s = 0 ∧ t = 18446744073709551615) ∨
  (valK 1 k l = some s.toNat ∧ valK 2 k l = some t.toNat ∧ 0 ≤ s ∧ s ≤ l.length * 4294967296 ∧ 0 ≤ t ∧ t < 4294967296)

theorem TotSt.nil (k : Int) : TotSt k [] 0 18446744073709551615 := .inl ⟨rfl, rfl, rfl, rfl⟩
theorem TotSt.bounds {k : Int} {l : List Rc} {s t : Int} (h : TotSt k l s t) (hl : l.length ≤ 100) : 0 ≤ s ∧ s ≤ 429496729600 ∧ 0 ≤ t ∧ t < 18446744073709551616 := by
  rcases h with ⟨_, _, rfl, rfl⟩ | ⟨_, _, h1, h2, h3, h4⟩
  · omega
  · omega
theorem TotSt.miss {k : Int} {l : List Rc} {s t : Int} (h : TotSt k l s t) {x : Rc} (hx : ¬ x.1 = k) : TotSt k (l ++ [x]) s t := by
  have e : ∀ how, valK how k (l ++ [x]) = valK how k l := fun how => by
    rw [valK_append]
    simp only [valK, if_neg hx]
    exact optC_none how _
  unfold TotSt at h ⊢
  rw [e, e]
  rcases h with h | ⟨h1, h2, h3, h4, h5, h6⟩
  · exact .inl h
  · exact .inr ⟨h1, h2, h3, by simp; omega, h5, h6⟩
theorem TotSt.hit {k : Int} {l : List Rc} {s t : Int} (h : TotSt k l s t) {x : Rc} (hx : x.1 = k) (hv : 0 ≤ x.2 ∧ x.2 < 4294967296) (hl : l.length ≤ 100) : TotSt k (l ++ [x]) (s + x.2) (if t ≤ x.2 then t else x.2) := by
  have e : ∀ how, valK how k (l ++ [x]) = optC how (valK how k l) (some x.2.toNat) := fun how => by
    rw [valK_append]
    simp only [valK, if_pos hx]
    rfl
  refine .inr ?_
  rw [e, e]
  rcases h with ⟨h1, h2, rfl, rfl⟩ | ⟨h1, h2, h3, h4, h5, h6⟩
  · rw [h1, h2, if_neg (by omega)]
    refine ⟨by simp [optC], by simp [optC], by omega, by simp; omega, by omega, by omega⟩
  · rw [h1, h2]
    refine ⟨?_, ?_, by omega, by simp; omega, by split <;> omega, by split <;> omega⟩
    · simp only [optC, combN, if_true, Option.some.injEq]
      omega
    · simp only [optC, combN]
      rw [if_neg (by decide)]
      simp only [Option.some.injEq]
      split <;> omega
theorem TotSt.done {k : Int} {D : List Rc} {s t : Int} (h : TotSt k D s t) (hok : ∀ e ∈ D, okR e) {x y : Rc} (hx : x ∈ canR 1 D) (hy : y ∈ canR 2 D) (hxk : x.1 = k) (hyk : y.1 = k) : x.2 = s ∧ y.2 = t := by
  have v1 : valK 1 k D = some x.2.toNat := by
    rw [← canR_val (by decide) hok, ← hxk]
    exact (canR_strict (by decide) hok).valK_eq hx
  have v2 : valK 2 k D = some y.2.toNat := by
    rw [← canR_val (by decide) hok, ← hyk]
    exact (canR_strict (by decide) hok).valK_eq hy
  have ox := (canR_ok hok x hx).2
  have oy := (canR_ok hok y hy).2
  rcases h with ⟨h1, _⟩ | ⟨h1, h2, h3, _, h5, _⟩
  · rw [v1] at h1
    cases h1
  · rw [v1] at h1
    rw [v2] at h2
    simp only [Option.some.injEq] at h1 h2
    omega

/-- A record whose value counts round 2^32. -/
def mkR (x : Rc) : Rc := (x.1, x.2 % 4294967296)
def prt (E : List Rc) (i : Nat) : List Rc := (E.take i).map mkR ++ E.drop i
theorem prt_zero (E : List Rc) : prt E 0 = E := by simp [prt]
theorem prt_all (E : List Rc) : prt E E.length = E.map mkR := by simp [prt]
theorem prt_length (E : List Rc) (i : Nat) (hi : i ≤ E.length) : (prt E i).length = E.length := by simp [prt]; omega
theorem mid_get (l r : List Rc) (x : Rc) : (l ++ x :: r)[l.length]! = x := by simp
theorem mid_set (l r : List Rc) (x y : Rc) : (l ++ x :: r).set l.length y = l ++ y :: r := by simp
theorem prt_set (E : List Rc) (i : Nat) (hi : i < E.length) : (prt E i).set i ((prt E i)[i]!.1, (prt E i)[i]!.2 % 4294967296) = prt E (i + 1) := by
  have hl : ((E.take i).map mkR).length = i := by simp; omega
  have e : prt E i = (E.take i).map mkR ++ E[i] :: E.drop (i + 1) := by rw [prt, List.drop_eq_getElem_cons hi]
  have hg : (prt E i)[i]! = E[i] := by
    rw [e]
    have := mid_get ((E.take i).map mkR) (E.drop (i + 1)) E[i]
    rw [hl] at this
    exact this
  rw [hg, e]
  have := mid_set ((E.take i).map mkR) (E.drop (i + 1)) E[i] (E[i].1, E[i].2 % 4294967296)
  rw [hl] at this
  rw [this, prt, List.take_succ_eq_append_getElem hi, List.map_append]
  simp [mkR]
theorem mkR_ok {E : List Rc} (h : ∀ e ∈ E, okR e) : ∀ e ∈ E.map mkR, okR e ∧ e.2 < 4294967296 := fun e he => by
  rw [List.mem_map] at he
  obtain ⟨x, hx, rfl⟩ := he
  have := h x hx
  unfold okR mkR at *
  refine ⟨⟨this.1, ?_⟩, ?_⟩
  · dsimp only
    omega
  · dsimp only
    omega

theorem u64_and32 (x : Int) (h0 : 0 ≤ x) (h1 : x < 18446744073709551616) : bits .and .u64 x 4294967295 = x % 4294967296 := by
  have hm : (BitVec.ofInt 64 4294967295).toNat = 2 ^ 32 - 1 := by decide
  have key : (BitVec.ofInt 64 x &&& BitVec.ofInt 64 4294967295).toNat = (x % ((2 ^ 64 : Nat) : Int)).toNat % 2 ^ 32 := by
    rw [BitVec.toNat_and, BitVec.toNat_ofInt, hm, Nat.and_two_pow_sub_one_eq_mod]
  show IntKind.u64.wrap ((BitVec.ofInt 64 x &&& BitVec.ofInt 64 4294967295).toNat : Nat) = x % 4294967296
  rw [key, IntKind.wrap_u64]
  omega

end Go.Proofs.Ytbppjbdcgcmjiaa
