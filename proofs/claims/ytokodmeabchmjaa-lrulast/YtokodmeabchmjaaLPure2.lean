/-
  Truths that came in; keys that were used last. A lemma file: no statement of the seat is proved here.
-/
import Derived.Test.YtokodmeabchmjaaLPure
namespace Go.Proofs.Ytokodmeabchmjaa
open Go.RowKit Go.Maps

/-- The slice value v holds the truths ks. -/
def IsK (w : World) (v : Value) (ks : List Bool) : Prop :=
  ∃ (a : Option Addr) (cap : Nat), v = .slice a ks.length cap ∧ ks.length ≤ cap ∧ (a = none → ks = [] ∧ cap = 0) ∧
    (∀ x, a = some x → ∀ j, j < ks.length → w.cell? (x.add j) = some (.bool (ks[j]?.getD false)))

theorem IsK.nil (w : World) : IsK w (.slice none 0 0) [] := ⟨none, 0, rfl, Nat.le_refl _, fun _ => ⟨rfl, rfl⟩, by simp⟩

theorem IsK.at_ {w : World} {a : Option Addr} {len cap : Nat} {ks : List Bool} (h : IsK w (.slice a len cap) ks) (i : Nat) (hi : i < ks.length) : ∃ b off, a = some ⟨b, off, none⟩ ∧ ∀ w', Below w.heap.size w w' → w'.cell? ⟨b, off + i, none⟩ = some (.bool (ks[i]?.getD false)) := by
  obtain ⟨a', cap', he, h1, h2, h3⟩ := h
  simp only [Value.slice.injEq] at he
  obtain ⟨rfl, rfl, rfl⟩ := he
  cases a with
  | none => rw [(h2 rfl).1] at hi; simp at hi
  | some x =>
    obtain ⟨b, off, spot⟩ := x
    have hc := h3 _ rfl i hi
    have hspot : spot = none := by simpa [Addr.add] using World.cell?_spot (h3 _ rfl 0 (by omega))
    subst hspot
    have e : (Addr.add ⟨b, off, none⟩ i) = ⟨b, off + i, none⟩ := by
      unfold Addr.add
      split
      · simp_all
      · rfl
    rw [e] at hc
    exact ⟨b, off, rfl, fun w' hb => (Kept.of_below (fp := []) hb).cell hc (by simp)⟩

/-! ### The last ones, each once -/

/-- The first of each. -/
def firsts : List Int → List Int
  | [] => []
  | x :: ys => x :: (firsts ys).filter (fun y => !decide (y = x))

theorem firsts_nodup : ∀ ys, (firsts ys).Nodup
  | [] => List.nodup_nil
  | x :: ys => by
    rw [firsts, List.nodup_cons]
    exact ⟨by simp, (firsts_nodup ys).sublist List.filter_sublist⟩

/-- Keys, the last one last, none pinned. -/
def lastly (W : List Int) : List (Int × Nat) := W.reverse.map fun k => (k, 0)

theorem lastly_length (W : List Int) : (lastly W).length = W.length := by simp [lastly]

theorem lookA_lastly {W : List Int} {k : Int} : lookA (lastly W) k = if k ∈ W then some 0 else none := by
  unfold lookA
  by_cases h : k ∈ W
  · rw [if_pos h]
    have : ((lastly W).find? (fun x => decide (x.1 = k))).isSome := List.find?_isSome.2 ⟨(k, 0), by simp [lastly, h], by simp⟩
    obtain ⟨y, hy⟩ := Option.isSome_iff_exists.1 this
    rw [hy]
    have h2 := List.mem_of_find?_eq_some hy
    simp only [lastly, List.mem_map] at h2
    obtain ⟨z, _, rfl⟩ := h2
    rfl
  · rw [if_neg h, Option.map_eq_none_iff, List.find?_eq_none]
    intro x hx
    simp only [lastly, List.mem_map, List.mem_reverse] at hx
    obtain ⟨z, hz, rfl⟩ := hx
    simp only [decide_eq_true_eq]
    intro e
    exact h (e ▸ hz)

theorem delA_lastly {W : List Int} {k : Int} : delA (lastly W) k = lastly (W.filter (fun y => !decide (y = k))) := by
  unfold delA lastly
  rw [List.filter_map, ← List.filter_reverse]
  rfl

theorem lastly_cons (W : List Int) (k : Int) : lastly (k :: W) = lastly W ++ [(k, 0)] := by simp [lastly]

theorem firstA_lastly {W : List Int} (h : W ≠ []) : firstA (lastly W) = some (W.getLast h) := by
  unfold firstA
  obtain ⟨D, x, rfl⟩ : ∃ D x, W = D ++ [x] := ⟨W.dropLast, W.getLast h, (List.dropLast_concat_getLast h).symm⟩
  simp [lastly]

theorem filter_ne {W : List Int} {k : Int} (h : k ∉ W) : W.filter (fun y => !decide (y = k)) = W :=
  List.filter_eq_self.2 fun x hx => by simpa using fun e : x = k => h (e ▸ hx)

theorem length_filter_ne {W : List Int} {k : Int} (hn : W.Nodup) (h : k ∈ W) : (W.filter (fun y => !decide (y = k))).length + 1 = W.length := by
  induction W with
  | nil => simp at h
  | cons x W ih =>
    rw [List.nodup_cons] at hn
    rw [List.filter_cons]
    by_cases e : x = k
    · subst e
      rw [filter_ne hn.1]
      simp
    · have hk : k ∈ W := by
        rcases List.mem_cons.1 h with h | h
        · exact absurd h.symm e
        · exact h
      have := ih hn.2 hk
      simp [e]
      omega

/-- What Use leaves of keys of which none is pinned. -/
theorem useA_lastly {n : Nat} (hn : 1 ≤ n) {W : List Int} (hd : W.Nodup) (hl : W.length ≤ n) (k : Int) : ∃ g, useA (n : Int) (lastly W) k = (g, 0, lastly ((k :: W.filter (fun y => !decide (y = k))).take n)) := by
  unfold useA
  rw [lookA_lastly]
  by_cases h : k ∈ W
  · rw [if_pos h]
    simp only
    refine ⟨none, ?_⟩
    rw [delA_lastly, ← lastly_cons, List.take_of_length_le]
    have := length_filter_ne hd h
    simp only [List.length_cons]
    omega
  · rw [if_neg h]
    simp only
    rw [lastly_length, filter_ne h]
    by_cases hr : (n : Int) ≤ (W.length : Int)
    · rw [if_pos hr]
      have hne : W ≠ [] := fun e => by subst e; simp at hr; omega
      rw [firstA_lastly hne]
      simp only
      refine ⟨some (W.getLast hne), ?_⟩
      obtain ⟨D, x, rfl⟩ : ∃ D x, W = D ++ [x] := ⟨W.dropLast, W.getLast hne, (List.dropLast_concat_getLast hne).symm⟩
      rw [delA_lastly, ← lastly_cons]
      have hx : (D ++ [x]).getLast hne = x := by simp
      rw [hx]
      have hxd : x ∉ D := by
        rw [List.nodup_append] at hd
        exact fun hm => hd.2.2 x hm x (by simp) rfl
      have hlen : D.length + 1 = n := by simp at hl hr; omega
      congr 3
      rw [List.filter_append, filter_ne hxd, ← hlen]
      simp
    · rw [if_neg hr, ← lastly_cons]
      refine ⟨none, ?_⟩
      rw [List.take_of_length_le]
      simp only [List.length_cons]
      omega

/-- Cut to n, the next one comes first. -/
theorem take_firsts (n : Nat) (x : Int) (ys : List Int) : (x :: ((firsts ys).take n).filter (fun y => !decide (y = x))).take n = (firsts (x :: ys)).take n := by
  rw [firsts]
  cases n with
  | zero => rfl
  | succ n =>
    rw [List.take_succ_cons, List.take_succ_cons]
    congr 1
    have hnd := firsts_nodup ys
    generalize firsts ys = F at hnd
    by_cases h : x ∈ F.take (n + 1)
    · conv => rhs; rw [← List.take_append_drop (n + 1) F]
      rw [List.filter_append]
      have hx : x ∉ F.drop (n + 1) := by
        rw [← List.take_append_drop (n + 1) F, List.nodup_append] at hnd
        exact fun hm => hnd.2.2 x h x hm rfl
      have hlen := length_filter_ne (hnd.sublist (List.take_sublist (n + 1) F)) h
      rw [List.length_take] at hlen
      by_cases hF : n + 1 ≤ F.length
      · rw [List.take_append_of_le_length (by omega)]
      · rw [List.drop_of_length_le (by omega)]
        simp
    · rw [filter_ne h]
      have e : (F.filter (fun y => !decide (y = x))).take n = F.take n := by
        conv => lhs; rw [← List.take_append_drop (n + 1) F]
        rw [List.filter_append, filter_ne h]
        by_cases hF : n + 1 ≤ F.length
        · rw [List.take_append_of_le_length (by rw [List.length_take]; omega), List.take_take]
          congr 1
          omega
        · rw [List.drop_of_length_le (by omega), List.filter_nil, List.append_nil, List.take_take]
          congr 1
          omega
      rw [e, List.take_take]
      congr 1
      omega

end Go.Proofs.Ytokodmeabchmjaa
