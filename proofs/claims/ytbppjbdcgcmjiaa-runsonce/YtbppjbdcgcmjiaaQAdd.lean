/-
  runs.add: onto a row of the call's own; in the row that it is gone through. A lemma file: no statement of the seat is proved here.
-/
import Derived.Deep.QuietTactic
import Derived.BigQuiet
import Derived.Test.YtbppjbdcgcmjiaaQComb
namespace Go.Proofs.Ytbppjbdcgcmjiaa
open Go.RowKit

/-- A record behind a row, or combined with its last one. -/
def addR (how : Int) (l : List Rc) (x : Rc) : List Rc :=
  if how = 0 ∨ l = [] ∨ l[l.length - 1]!.1 ≠ x.1 then l ++ [x] else l.set (l.length - 1) (x.1, combV how l[l.length - 1]!.2 x.2)

theorem addR_push {how : Int} {l : List Rc} {x : Rc} (h : how = 0 ∨ l = [] ∨ l[l.length - 1]!.1 ≠ x.1) : addR how l x = l ++ [x] := if_pos h
theorem addR_comb {how : Int} {l : List Rc} {x : Rc} (h : ¬ (how = 0 ∨ l = [] ∨ l[l.length - 1]!.1 ≠ x.1)) : addR how l x = l.set (l.length - 1) (x.1, combV how l[l.length - 1]!.2 x.2) := if_neg h
theorem addR_length (how : Int) (l : List Rc) (x : Rc) : l.length ≤ (addR how l x).length ∧ (addR how l x).length ≤ l.length + 1 := by
  unfold addR
  split <;> simp

/-- 'row[k].Val = v'. -/
theorem RowR.storedVal {w : World} {g n cap : Nat} {l : List Rc} (h : RowR w (.slice (some ⟨g, 0, none⟩) n cap) l) (k : Nat) (hk : k < l.length) (v : Int) (hv : 0 ≤ v ∧ v < 18446744073709551616) :
    RowR (w.setCell ⟨g, k * 2 + 1, none⟩ (.int .u64 v)) (.slice (some ⟨g, 0, none⟩) n cap) (l.set k (l[k]!.1, v)) := by
  have e := h.len
  subst e
  refine ⟨?_, fun y hy => ?_⟩
  · have h2 := (h.1.stored (k * 2 + 1) (.int .u64 v)).1
    have e : (flatR l).set (k * 2) (.int .u64 l[k]!.1) = flatR l := by
      apply List.ext_getElem?
      intro i
      by_cases hi : k * 2 = i
      · subst hi
        rw [List.getElem?_set_self (by rw [flatR_length]; omega)]
        exact (flatR_at l k 0 hk (by omega)).symm
      · rw [List.getElem?_set_ne hi]
    rw [List.length_set, flatR_set l k hk, e]
    exact h2
  · rcases List.mem_or_eq_of_mem_set hy with hy | rfl
    · exact h.2 y hy
    · exact ⟨(h.okAt k hk).1, hv⟩

section
variable {ops : Array Oper} {rest : List Oper} {o : Oper} {a : Act} {Q : Exit → Act → World → Prop}
/-- 'append(row, x)' of which is known what it leaves: at the operation. -/
theorem wp_appendX (R : Value → World → Prop) (w : World) (hgd : o.guard = none) (s x : Operand) (ho : o.op = .call { callee := .builtin .append, args := #[s, x], argTypes := #[22, 22] })
    (v u : Value) (hs : a.eval s = v) (hx : a.eval x = u) (hr : ∃ v' w', (Builtin.append_ #[22, 22] o.type #[v, u]).run Try.prog w = .ok v' w' ∧ R v' w')
    (h : ∀ v' w', R v' w' → wpList Try.prog ops Q rest (a.put o.dst v') w') :
    wpList Try.prog ops Q (o :: rest) a w := by
  refine wpList_plain hgd fun K hK => ?_
  obtain ⟨v', w', hr, h2⟩ := hr
  unfold Oper.wp execOp
  simp only [ho, resolve, invoke, builtin, Sem.run_bind, Sem.run_pure, Result.andThen_ok, List.map_toArray, List.map_cons, List.map_nil, hs, hx, hr]
  exact hK _ _ (h v' w' h2)
end

/-- The world at the append. -/
def wAdd (w : World) (x1 x2 : Int) (q : Nat) : World := (w.alloc (.cells #[.int .u64 x1, .int .u64 x2] 44)).drewN q

set_option maxRecDepth 100000 in
set_option maxHeartbeats 2000000 in
theorem add_gen (R : Value → World → Prop) {w : World} {v : Value} {l : List Rc} (h : RowR w v l) (hmax : l.length ≤ 1000000) (how x1 x2 : Int) (hx : okR (x1, x2))
    (happ : (how = 0 ∨ l = [] ∨ l[l.length - 1]!.1 ≠ x1) → ∀ q ty, ∃ v' w', (Builtin.append_ #[22, 22] ty #[v, .slice (some ⟨w.heap.size + 1, 0, none⟩) 1 1]).run Try.prog ((wAdd w x1 x2 q).alloc (.cells #[.int .u64 x1, .int .u64 x2] 44)) = .ok v' w' ∧ R v' w')
    (hput : ¬ (how = 0 ∨ l = [] ∨ l[l.length - 1]!.1 ≠ x1) → ∀ q g k cap, v = .slice (some ⟨g, 0, none⟩) (k + 1) cap → l.length = k + 1 → R v ((wAdd w x1 x2 q).setCell ⟨g, k * 2 + 1, none⟩ (.int .u64 (combV how l[k]!.2 x2)))) :
    Calls Try.prog 32 #[v, .agg #[.int .u64 x1, .int .u64 x2], .int .i64 how] w fun e w' => ∃ v', e = .returned v' ∧ R v' w' := by
  obtain ⟨a, n, cap, rfl, hn, hcap⟩ : ∃ a n cap, v = .slice a n cap ∧ n = l.length ∧ n ≤ cap := by
    rcases h.form with ⟨rfl, rfl⟩ | ⟨g, cap, rfl, h1⟩
    · exact ⟨none, 0, 0, rfl, rfl, Nat.le_refl _⟩
    · exact ⟨_, _, cap, rfl, rfl, h1⟩
  have hn1 : n ≤ 1000000 := by omega
  clear hmax
  unfold wAdd at happ hput
  by_cases h0 : how = 0
  · subst h0
    have HAP := hide (happ (.inl rfl))
    clear h hx hn happ hput
    go_enter Try.func32, Try.ntmps32
    go_wp2
    go_quiet (fail)
    go_wp2_with (first | (at_builtin; refine wp_appendX R _ rfl _ _ rfl (.slice a n cap) (.slice (some ⟨w.heap.size + 1, 0, none⟩) 1 1) rfl rfl (HAP.out _ _) ?_; intro v' w' hr) | go_in)
    go_ret
    exact ⟨_, rfl, hr⟩
  · have hb0 : (how == 0) = false := by simpa using h0
    rcases Nat.eq_zero_or_pos n with hz | hz
    · subst hz
      obtain rfl : l = [] := List.eq_nil_of_length_eq_zero hn.symm
      have HAP := hide (happ (.inr (.inl rfl)))
      clear h hx h0 hn happ hput
      go_enter Try.func32, Try.ntmps32
      go_wp2
      go_quiet (fail)
      go_wp2_with (first | (at_builtin; refine wp_appendX R _ rfl _ _ rfl (.slice a 0 cap) (.slice (some ⟨w.heap.size + 1, 0, none⟩) 1 1) rfl rfl (HAP.out _ _) ?_; intro v' w' hr) | go_in)
      go_ret
      exact ⟨_, rfl, hr⟩
    · obtain ⟨k, rfl⟩ : ∃ k, n = k + 1 := ⟨n - 1, by omega⟩
      have hk0 : decide ((k : Int) < 0) = false := decide_eq_false (by omega)
      obtain ⟨y, hy⟩ : ∃ y, y = l[k]! := ⟨_, rfl⟩
      have hlast : l[l.length - 1]! = y := by rw [hy, ← hn]; rfl
      obtain ⟨g, hg⟩ : ∃ g, a = some ⟨g, 0, none⟩ := by
        obtain ⟨g, c, e, _⟩ := h.blk (by omega)
        simp only [Value.slice.injEq] at e
        exact ⟨g, e.1⟩
      subst hg
      obtain ⟨c1, c2⟩ := h.cell2 k (by omega)
      have z1 := h.frozenAt (k * 2 + 1)
      rw [← hy] at c1 c2
      have oky := h.okAt k (by omega)
      rw [← hy] at oky
      have hgb : g < w.heap.size := h.low g (by simp [own, Value.ownBlock])
      have hne : l ≠ [] := fun e => by subst e; simp at hn
      have hw1 : IntKind.i64.wrap ((k : Int) + 1 - 1) = (k : Int) := by rw [i64_small _ (by omega) (by omega)]; omega
      rw [hlast] at happ hput
      have OKY := hide oky
      have HX := hide hx
      have HN := hide hn
      have HAP := hide happ
      have HPUT := hide hput
      have HY := hide hy
      obtain ⟨y1, y2⟩ := y
      dsimp only at c1 c2
      by_cases hkey : y1 = x1
      · subst hkey
        have HP : Hid (∀ q, R (.slice (some ⟨g, 0, none⟩) (k + 1) cap) (((w.alloc (.cells #[.int .u64 y1, .int .u64 x2] 44)).drewN q).setCell ⟨g, k * 2 + 1, none⟩ (.int .u64 (combV how y2 x2)))) := fun q => by
          have := HPUT.out (by simp [h0, hne]) q g k cap rfl HN.out.symm
          rw [← HY.out] at this
          exact this
        have hkk : (k : Int) < (k : Int) + 1 := by omega
        have CB := hide (fun w => combine_any how y2 x2 OKY.out.2 HX.out.2 w)
        clear h hx h0 hn hlast hne hy oky happ hput HAP HPUT HY
        go_enter Try.func32, Try.ntmps32
        go_wp2
        go_quiet (fail)
        go_wp2
        go_region_law (go_simp; go_at_call 20; refine (CB.out _).mono ?_; rintro e w' ⟨rfl, rfl⟩)
        all_goals
          go_wp2
          go_ret
          exact ⟨_, rfl, HP.out _⟩
      · have HA := hide (HAP.out (.inr (.inr hkey)))
        have hkb : (y1 != x1) = true := by simpa using hkey
        clear h hx h0 hn hlast hne hy oky happ hput HAP HPUT HY
        go_enter Try.func32, Try.ntmps32
        go_wp2
        go_quiet (fail)
        go_wp2_with (first | (at_builtin; refine wp_appendX R _ rfl _ _ rfl (.slice (some ⟨g, 0, none⟩) (k + 1) cap) (.slice (some ⟨w.heap.size + 1, 0, none⟩) 1 1) rfl rfl (HA.out _ _) ?_; intro v' w' hr) | go_in)
        go_ret
        exact ⟨_, rfl, hr⟩

theorem wAdd_kept (w : World) (x1 x2 : Int) (q : Nat) : Kept [] w (wAdd w x1 x2 q) := ((Kept.refl _ w).alloc _).drewN q
theorem wAdd_size (w : World) (x1 x2 : Int) (q : Nat) : (wAdd w x1 x2 q).heap.size = w.heap.size + 1 := by simp [wAdd]
theorem wAdd_one (w : World) (x1 x2 : Int) (q : Nat) (hx : okR (x1, x2)) : IsR ((wAdd w x1 x2 q).alloc (.cells #[.int .u64 x1, .int .u64 x2] 44)) (.slice (some ⟨w.heap.size + 1, 0, none⟩) 1 1) [(x1, x2)] := by
  have := isR_one (wAdd w x1 x2 q) x1 x2 hx
  rw [wAdd_size] at this
  exact this

/-- onto a row of the call's own. -/
theorem add_any {w : World} {v : Value} {l : List Rc} (h : RowR w v l) (hmax : l.length ≤ 1000000) (how x1 x2 : Int) (hx : okR (x1, x2)) :
    Calls Try.prog 32 #[v, .agg #[.int .u64 x1, .int .u64 x2], .int .i64 how] w fun e w' => ∃ v', e = .returned v' ∧ RowR w' v' (addR how l (x1, x2)) ∧ Kept (own v) w w' ∧ Newly w (own v) (own v') := by
  refine add_gen (fun v' w' => RowR w' v' (addR how l (x1, x2)) ∧ Kept (own v) w w' ∧ Newly w (own v) (own v')) h hmax how x1 x2 hx (fun hc q ty => ?_) (fun hc q g k cap hv hk => ?_)
  · have k1 : Kept [] w ((wAdd w x1 x2 q).alloc (.cells #[.int .u64 x1, .int .u64 x2] 44)) := (wAdd_kept w x1 x2 q).alloc _
    obtain ⟨v', w', h1, h2, h3, h4⟩ := (h.kept k1 (fun _ _ => by simp)).append (wAdd_one w x1 x2 q hx) (by simp; omega) ty
    rw [addR_push hc]
    refine ⟨v', w', h1, h2, (k1.mono (by simp)).trans h3 (Newly.refl _ _), fun y hy => ?_⟩
    rcases h4 y hy with h | h
    · exact .inl h
    · exact .inr (Nat.le_trans k1.size h)
  · subst hv
    rw [addR_comb hc]
    have r := (h.kept (wAdd_kept w x1 x2 q) (fun _ _ => by simp)).storedVal k (by omega) (combV how l[k]!.2 x2) (combV_ok _ _ _ (h.okAt k (by omega)).2 hx.2)
    have e : l[l.length - 1]! = l[k]! := by rw [hk]; rfl
    rw [e, show l.length - 1 = k by omega]
    have e1 : l[k]!.1 = x1 := by
      rw [← e]
      exact Classical.byContradiction fun hn => hc (.inr (.inr hn))
    rw [e1] at r
    exact ⟨r, ((wAdd_kept w x1 x2 q).mono (by simp)).setCell (.inl (by simp [own, Value.ownBlock])) _, Newly.refl _ _⟩

theorem set2 (xs : List Value) (i : Nat) (u v : Value) (h : i + 1 < xs.length) : xs.take i ++ [u, v] ++ xs.drop (i + 2) = (xs.set i u).set (i + 1) v := by
  apply List.ext_getElem?
  intro j
  rcases Nat.lt_trichotomy j i with h1 | rfl | h1
  · rw [List.append_assoc, List.getElem?_append_left (by simp; omega), List.getElem?_take_of_lt h1, List.getElem?_set_ne (by omega), List.getElem?_set_ne (by omega)]
  · rw [List.append_assoc, List.getElem?_append_right (by simp; omega), List.getElem?_set_ne (by omega), List.getElem?_set_self (by omega)]
    simp [show j - min j xs.length = 0 by omega]
  · by_cases h2 : j = i + 1
    · subst h2
      rw [List.append_assoc, List.getElem?_append_right (by simp; omega), List.getElem?_set_self (by simp; omega)]
      simp [show i + 1 - min i xs.length = 1 by omega]
    · rw [List.getElem?_append_right (by simp; omega), List.getElem?_set_ne (by omega), List.getElem?_set_ne (by omega), List.getElem?_drop]
      congr 1
      simp
      omega

/-- 'append(row[:k], x)' where the row goes on behind k. -/
theorem RowR.pushIn {w : World} {g n cap : Nat} {M : List Rc} (h : RowR w (.slice (some ⟨g, 0, none⟩) n cap) M) (k : Nat) (hk : k < M.length) {b : Nat} {x : Rc} (hb : IsR w (.slice (some ⟨b, 0, none⟩) 1 1) [x]) (ty : TypeId) :
    ∃ w', (Builtin.append_ #[22, 22] ty #[.slice (some ⟨g, 0, none⟩) k cap, .slice (some ⟨b, 0, none⟩) 1 1]).run Try.prog w = .ok (.slice (some ⟨g, 0, none⟩) (k + 1) cap) w' ∧ RowR w' (.slice (some ⟨g, 0, none⟩) n cap) (M.set k x) ∧ Kept [g] w w' := by
  obtain ⟨i0, hi, hz0, hz1, hz2⟩ := info_parts Try.infoRec
  have e := h.len
  subst e
  obtain ⟨a', c', ea, _, _, hc, hok⟩ := hb
  simp only [Value.slice.injEq] at ea
  obtain ⟨rfl, _, rfl⟩ := ea
  rcases h.1.2 with ⟨e, _⟩ | ⟨g', cap', cur, e, hb0, hg, hn, hm, hs, ht⟩
  · simp at e
  · simp only [Value.slice.injEq, Option.some.injEq, Addr.mk.injEq, and_true, true_and] at e
    obtain ⟨rfl, rfl⟩ := e
    have hrun := run_append_room (P := Try.prog) w 22 ty 44 i0 Try.underlying22 hi g k cap cur hg ⟨b, 0, none⟩ 1 1 (encR x) (by rw [hz1]; rfl) (fun j u hu => hc _ rfl j u (by simpa [flatR] using hu)) (fun u hu => flatR_oneCell [x] u (by simpa [flatR] using hu)) (by omega) (by rw [hz1, hs, encR_length]; omega)
    refine ⟨_, hrun, ?_, ?_⟩
    · rw [hz1, encR_length]
      have e2 : (cur.toList.take (k * 2) ++ encR x ++ cur.toList.drop (k * 2 + 2)) = (cur.toList.set (k * 2) (.int .u64 x.1)).set (k * 2 + 1) (.int .u64 x.2) := set2 _ _ _ _ (by simp [hs]; omega)
      rw [e2]
      refine ⟨⟨by rw [flatR_length], .inr ⟨g, cap, _, by simp, hb0, setRow_heap w g cur _ _ _ hg, by simpa using hn, hm, by simp [hs], ?_⟩⟩, fun y hy => ?_⟩
      · rw [flatR_set M k hk, ← ht, List.length_set]
        simp only [List.take_set]
      · rcases List.mem_or_eq_of_mem_set hy with hy | rfl
        · exact h.2 y hy
        · exact hok _ (by simp)
    · exact ⟨rfl, rfl, rfl, by simp, fun j _ hj => setRow_other w g j _ (by simpa using hj)⟩

/-- .. in the row that it is gone through. -/
theorem addIn_any {w : World} {g cap : Nat} {M : List Rc} (h : RowR w (.slice (some ⟨g, 0, none⟩) M.length cap) M) (k : Nat) (hk : k < M.length) (hmax : M.length ≤ 1000000) (how x1 x2 : Int) (hx : okR (x1, x2)) :
    Calls Try.prog 32 #[.slice (some ⟨g, 0, none⟩) k cap, .agg #[.int .u64 x1, .int .u64 x2], .int .i64 how] w fun e w' => ∃ k' M', e = .returned (.slice (some ⟨g, 0, none⟩) k' cap) ∧
      RowR w' (.slice (some ⟨g, 0, none⟩) M'.length cap) M' ∧ M'.length = M.length ∧ k' ≤ k + 1 ∧ M'.take k' = addR how (M.take k) (x1, x2) ∧ (∀ j, k < j → M'[j]! = M[j]!) ∧ Kept [g] w w' := by
  have hlt : (M.take k).length = k := by simp; omega
  have hf := h.front k (by omega)
  have hset : ∀ (x : Rc) (i j : Nat), i ≤ k → k < j → (M.set i x)[j]! = M[j]! := fun x i j hi hj => by
    rw [List.getElem!_eq_getElem?_getD, List.getElem!_eq_getElem?_getD, List.getElem?_set_ne (by omega)]
  refine (add_gen (fun v' w' => ∃ k' M', v' = .slice (some ⟨g, 0, none⟩) k' cap ∧ RowR w' (.slice (some ⟨g, 0, none⟩) M'.length cap) M' ∧ M'.length = M.length ∧ k' ≤ k + 1 ∧ M'.take k' = addR how (M.take k) (x1, x2) ∧ (∀ j, k < j → M'[j]! = M[j]!) ∧ Kept [g] w w') hf (by omega) how x1 x2 hx (fun hc q ty => ?_) (fun hc q g' k' cap' hv hk' => ?_)).mono ?_
  · have k1 : Kept [] w ((wAdd w x1 x2 q).alloc (.cells #[.int .u64 x1, .int .u64 x2] 44)) := (wAdd_kept w x1 x2 q).alloc _
    obtain ⟨w', h1, h2, h3⟩ := (h.kept k1 (fun _ _ => by simp)).pushIn k hk (wAdd_one w x1 x2 q hx) ty
    refine ⟨_, w', h1, k + 1, M.set k (x1, x2), rfl, by rw [List.length_set]; exact h2, by simp, Nat.le_refl _, ?_, fun j hj => hset _ _ _ (Nat.le_refl _) hj, (k1.mono (by simp)).trans h3 (Newly.refl _ _)⟩
    rw [addR_push hc]
    rw [List.take_succ_eq_append_getElem (by simpa using hk), List.getElem_set_self, List.take_set_of_le (Nat.le_refl _)]
  · simp only [Value.slice.injEq, Option.some.injEq, Addr.mk.injEq, and_true] at hv
    obtain ⟨rfl, rfl, rfl⟩ := hv
    have hat : (M.take (k' + 1))[k']! = M[k']! := by
      rw [getElem!_pos _ k' (by omega), getElem!_pos M k' (by omega), List.getElem_take]
    have r := (h.kept (wAdd_kept w x1 x2 q) (fun _ _ => by simp)).storedVal k' (by omega) (combV how M[k']!.2 x2) (combV_ok _ _ _ (h.okAt k' (by omega)).2 hx.2)
    have e : (M.take (k' + 1))[(M.take (k' + 1)).length - 1]! = M[k']! := by rw [hk', Nat.add_sub_cancel, hat]
    have e1 : M[k']!.1 = x1 := by
      rw [← e]
      exact Classical.byContradiction fun hn => hc (.inr (.inr hn))
    rw [e1] at r
    rw [hat]
    refine ⟨k' + 1, _, rfl, by rw [List.length_set]; exact r, by simp, by omega, ?_, fun j hj => hset _ _ _ (by omega) hj, ((wAdd_kept w x1 x2 q).mono (by simp)).setCell (.inl (by simp)) _⟩
    rw [addR_comb hc, e, hk', Nat.add_sub_cancel, List.take_set]
  · rintro e w' ⟨v', rfl, k', M', rfl, h1⟩
    exact ⟨k', M', rfl, h1⟩

end Go.Proofs.Ytbppjbdcgcmjiaa
