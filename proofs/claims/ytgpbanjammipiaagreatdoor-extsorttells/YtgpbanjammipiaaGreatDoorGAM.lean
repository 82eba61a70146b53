/-
  Lemma texts, one behind the other: QAdd, QFold, QPure, QApp, QRefS, JOps. No statement of the seat is proved here.
-/
import Derived.Deep.QuietTactic
import Derived.BigQuiet
import Derived.Test.YtgpbanjammipiaaGreatDoorGAL
import Derived.Test.YtgpbanjammipiaaGreatDoorGAK
namespace Go.Proofs.YtgpbanjammipiaaGreatDoor
open Go.RowKit

/-- A record behind a row, or combined with its last one. -/
def addR (how : Int) (l : List Rc) (x : Rc) : List Rc :=
  if how = 0 ∨ l = [] ∨ l[l.length - 1]!.1 ≠ x.1 then l ++ [x] else l.set (l.length - 1) (x.1, combV how l[l.length - 1]!.2 x.2)

theorem addR_push {how : Int} {l : List Rc} {x : Rc} (h : how = 0 ∨ l = [] ∨ l[l.length - 1]!.1 ≠ x.1) : addR how l x = l ++ [x] := if_pos h
theorem addR_comb {how : Int} {l : List Rc} {x : Rc} (h : ¬ (how = 0 ∨ l = [] ∨ l[l.length - 1]!.1 ≠ x.1)) : addR how l x = l.set (l.length - 1) (x.1, combV how l[l.length - 1]!.2 x.2) := if_neg h
theorem addR_length (how : Int) (l : List Rc) (x : Rc) : l.length ≤ (addR how l x).length ∧ (addR how l x).length ≤ l.length + 1 := by
  unfold addR
  split <;> simp

/-- 'row[k].Val = v'. -/
theorem RowR.storedVal {w : World} {g n cap : Nat} {l : List Rc} (h : RowR w (.slice (some ⟨g, 0, none⟩) n cap) l) (k : Nat) (hk : k < l.length) (v : Int) (hv : 0 ≤ v ∧ v < 18446744073709551616) :
    RowR (w.setCell ⟨g, k * 2 + 1, none⟩ (.int .u64 v)) (.slice (some ⟨g, 0, none⟩) n cap) (l.set k (l[k]!.1, v)) := by
  have e := h.len
  subst e
  refine ⟨?_, fun y hy => ?_⟩
  · have h2 := (h.1.stored (k * 2 + 1) (.int .u64 v)).1
    have e : (flatR l).set (k * 2) (.int .u64 l[k]!.1) = flatR l := by
      apply List.ext_getElem?
      intro i
      by_cases hi : k * 2 = i
      · subst hi
        rw [List.getElem?_set_self (by rw [flatR_length]; omega)]
        exact (flatR_at l k 0 hk (by omega)).symm
      · rw [List.getElem?_set_ne hi]
    rw [List.length_set, flatR_set l k hk, e]
    exact h2
  · rcases List.mem_or_eq_of_mem_set hy with hy | rfl
    · exact h.2 y hy
    · exact ⟨(h.okAt k hk).1, hv⟩

section
variable {ops : Array Oper} {rest : List Oper} {o : Oper} {a : Act} {Q : Exit → Act → World → Prop}
/-- 'append(row, x)' of which is known what it leaves: at the operation. -/
theorem wp_appendX (R : Value → World → Prop) (w : World) (hgd : o.guard = none) (s x : Operand) (ho : o.op = .call { callee := .builtin .append, args := #[s, x], argTypes := #[22, 22] })
    (v u : Value) (hs : a.eval s = v) (hx : a.eval x = u) (hr : ∃ v' w', (Builtin.append_ #[22, 22] o.type #[v, u]).run Tryz.prog w = .ok v' w' ∧ R v' w')
    (h : ∀ v' w', R v' w' → wpList Tryz.prog ops Q rest (a.put o.dst v') w') :
    wpList Tryz.prog ops Q (o :: rest) a w := by
  refine wpList_plain hgd fun K hK => ?_
  obtain ⟨v', w', hr, h2⟩ := hr
  unfold Oper.wp execOp
  simp only [ho, resolve, invoke, builtin, Sem.run_bind, Sem.run_pure, Result.andThen_ok, List.map_toArray, List.map_cons, List.map_nil, hs, hx, hr]
  exact hK _ _ (h v' w' h2)
end

/-- The world at the append. -/
def wAdd (w : World) (x1 x2 : Int) (q : Nat) : World := (w.alloc (.cells #[.int .u64 x1, .int .u64 x2] 52)).drewN q

set_option maxRecDepth 100000 in
set_option maxHeartbeats 2000000 in
theorem add_gen (R : Value → World → Prop) {w : World} {v : Value} {l : List Rc} (h : RowR w v l) (hmax : l.length ≤ 1000000) (how x1 x2 : Int) (hx : okR (x1, x2))
    (happ : (how = 0 ∨ l = [] ∨ l[l.length - 1]!.1 ≠ x1) → ∀ q ty, ∃ v' w', (Builtin.append_ #[22, 22] ty #[v, .slice (some ⟨w.heap.size + 1, 0, none⟩) 1 1]).run Tryz.prog ((wAdd w x1 x2 q).alloc (.cells #[.int .u64 x1, .int .u64 x2] 52)) = .ok v' w' ∧ R v' w')
    (hput : ¬ (how = 0 ∨ l = [] ∨ l[l.length - 1]!.1 ≠ x1) → ∀ q g k cap, v = .slice (some ⟨g, 0, none⟩) (k + 1) cap → l.length = k + 1 → R v ((wAdd w x1 x2 q).setCell ⟨g, k * 2 + 1, none⟩ (.int .u64 (combV how l[k]!.2 x2)))) :
    Calls Tryz.prog 76 #[v, .agg #[.int .u64 x1, .int .u64 x2], .int .i64 how] w fun e w' => ∃ v', e = .returned v' ∧ R v' w' := by
  obtain ⟨a, n, cap, rfl, hn, hcap⟩ : ∃ a n cap, v = .slice a n cap ∧ n = l.length ∧ n ≤ cap := by
    rcases h.form with ⟨rfl, rfl⟩ | ⟨g, cap, rfl, h1⟩
    · exact ⟨none, 0, 0, rfl, rfl, Nat.le_refl _⟩
    · exact ⟨_, _, cap, rfl, rfl, h1⟩
  have hn1 : n ≤ 1000000 := by omega
  clear hmax
  unfold wAdd at happ hput
  by_cases h0 : how = 0
  · subst h0
    have HAP := hide (happ (.inl rfl))
    clear h hx hn happ hput
    go_enter Tryz.func76, Tryz.ntmps76
    go_wp2
    go_quiet (fail)
    go_wp2_with (first | (at_builtin; refine wp_appendX R _ rfl _ _ rfl (.slice a n cap) (.slice (some ⟨w.heap.size + 1, 0, none⟩) 1 1) rfl rfl (HAP.out _ _) ?_; intro v' w' hr) | go_in)
    go_ret
    exact ⟨_, rfl, hr⟩
  · have hb0 : (how == 0) = false := by simpa using h0
    rcases Nat.eq_zero_or_pos n with hz | hz
    · subst hz
      obtain rfl : l = [] := List.eq_nil_of_length_eq_zero hn.symm
      have HAP := hide (happ (.inr (.inl rfl)))
      clear h hx h0 hn happ hput
      go_enter Tryz.func76, Tryz.ntmps76
      go_wp2
      go_quiet (fail)
      go_wp2_with (first | (at_builtin; refine wp_appendX R _ rfl _ _ rfl (.slice a 0 cap) (.slice (some ⟨w.heap.size + 1, 0, none⟩) 1 1) rfl rfl (HAP.out _ _) ?_; intro v' w' hr) | go_in)
      go_ret
      exact ⟨_, rfl, hr⟩
    · obtain ⟨k, rfl⟩ : ∃ k, n = k + 1 := ⟨n - 1, by omega⟩
      have hk0 : decide ((k : Int) < 0) = false := decide_eq_false (by omega)
      obtain ⟨y, hy⟩ : ∃ y, y = l[k]! := ⟨_, rfl⟩
      have hlast : l[l.length - 1]! = y := by rw [hy, ← hn]; rfl
      obtain ⟨g, hg⟩ : ∃ g, a = some ⟨g, 0, none⟩ := by
        obtain ⟨g, c, e, _⟩ := h.blk (by omega)
        simp only [Value.slice.injEq] at e
        exact ⟨g, e.1⟩
      subst hg
      obtain ⟨c1, c2⟩ := h.cell2 k (by omega)
      have z1 := h.frozenAt (k * 2 + 1)
      rw [← hy] at c1 c2
      have oky := h.okAt k (by omega)
      rw [← hy] at oky
      have hgb : g < w.heap.size := h.low g (by simp [own, Value.ownBlock])
      have hne : l ≠ [] := fun e => by subst e; simp at hn
      have hw1 : IntKind.i64.wrap ((k : Int) + 1 - 1) = (k : Int) := by rw [i64_small _ (by omega) (by omega)]; omega
      rw [hlast] at happ hput
      have OKY := hide oky
      have HX := hide hx
      have HN := hide hn
      have HAP := hide happ
      have HPUT := hide hput
      have HY := hide hy
      obtain ⟨y1, y2⟩ := y
      dsimp only at c1 c2
      by_cases hkey : y1 = x1
      · subst hkey
        have HP : Hid (∀ q, R (.slice (some ⟨g, 0, none⟩) (k + 1) cap) (((w.alloc (.cells #[.int .u64 y1, .int .u64 x2] 52)).drewN q).setCell ⟨g, k * 2 + 1, none⟩ (.int .u64 (combV how y2 x2)))) := fun q => by
          have := HPUT.out (by simp [h0, hne]) q g k cap rfl HN.out.symm
          rw [← HY.out] at this
          exact this
        have hkk : (k : Int) < (k : Int) + 1 := by omega
        have CB := hide (fun w => combine_any how y2 x2 OKY.out.2 HX.out.2 w)
        clear h hx h0 hn hlast hne hy oky happ hput HAP HPUT HY
        go_enter Tryz.func76, Tryz.ntmps76
        go_wp2
        go_quiet (fail)
        go_wp2
        go_region_law (go_simp; go_at_call 79; refine (CB.out _).mono ?_; rintro e w' ⟨rfl, rfl⟩)
        all_goals
          go_wp2
          go_ret
          exact ⟨_, rfl, HP.out _⟩
      · have HA := hide (HAP.out (.inr (.inr hkey)))
        have hkb : (y1 != x1) = true := by simpa using hkey
        clear h hx h0 hn hlast hne hy oky happ hput HAP HPUT HY
        go_enter Tryz.func76, Tryz.ntmps76
        go_wp2
        go_quiet (fail)
        go_wp2_with (first | (at_builtin; refine wp_appendX R _ rfl _ _ rfl (.slice (some ⟨g, 0, none⟩) (k + 1) cap) (.slice (some ⟨w.heap.size + 1, 0, none⟩) 1 1) rfl rfl (HA.out _ _) ?_; intro v' w' hr) | go_in)
        go_ret
        exact ⟨_, rfl, hr⟩

theorem wAdd_kept (w : World) (x1 x2 : Int) (q : Nat) : Kept [] w (wAdd w x1 x2 q) := ((Kept.refl _ w).alloc _).drewN q
theorem wAdd_size (w : World) (x1 x2 : Int) (q : Nat) : (wAdd w x1 x2 q).heap.size = w.heap.size + 1 := by simp [wAdd]
theorem wAdd_one (w : World) (x1 x2 : Int) (q : Nat) (hx : okR (x1, x2)) : IsR ((wAdd w x1 x2 q).alloc (.cells #[.int .u64 x1, .int .u64 x2] 52)) (.slice (some ⟨w.heap.size + 1, 0, none⟩) 1 1) [(x1, x2)] := by
  have := isR_one (wAdd w x1 x2 q) x1 x2 hx
  rw [wAdd_size] at this
  exact this

/-- onto a row of the call's own. -/
theorem add_anyQ {w : World} {v : Value} {l : List Rc} (h : RowR w v l) (hmax : l.length ≤ 1000000) (how x1 x2 : Int) (hx : okR (x1, x2)) :
    Calls Tryz.prog 76 #[v, .agg #[.int .u64 x1, .int .u64 x2], .int .i64 how] w fun e w' => ∃ v', e = .returned v' ∧ RowR w' v' (addR how l (x1, x2)) ∧ Kept (own v) w w' ∧ Newly w (own v) (own v') := by
  refine add_gen (fun v' w' => RowR w' v' (addR how l (x1, x2)) ∧ Kept (own v) w w' ∧ Newly w (own v) (own v')) h hmax how x1 x2 hx (fun hc q ty => ?_) (fun hc q g k cap hv hk => ?_)
  · have k1 : Kept [] w ((wAdd w x1 x2 q).alloc (.cells #[.int .u64 x1, .int .u64 x2] 52)) := (wAdd_kept w x1 x2 q).alloc _
    obtain ⟨v', w', h1, h2, h3, h4⟩ := (h.kept k1 (fun _ _ => by simp)).append (wAdd_one w x1 x2 q hx) (by simp; omega) ty
    rw [addR_push hc]
    refine ⟨v', w', h1, h2, (k1.mono (by simp)).trans h3 (Newly.refl _ _), fun y hy => ?_⟩
    rcases h4 y hy with h | h
    · exact .inl h
    · exact .inr (Nat.le_trans k1.size h)
  · subst hv
    rw [addR_comb hc]
    have r := (h.kept (wAdd_kept w x1 x2 q) (fun _ _ => by simp)).storedVal k (by omega) (combV how l[k]!.2 x2) (combV_ok _ _ _ (h.okAt k (by omega)).2 hx.2)
    have e : l[l.length - 1]! = l[k]! := by rw [hk]; rfl
    rw [e, show l.length - 1 = k by omega]
    have e1 : l[k]!.1 = x1 := by
      rw [← e]
      exact Classical.byContradiction fun hn => hc (.inr (.inr hn))
    rw [e1] at r
    exact ⟨r, ((wAdd_kept w x1 x2 q).mono (by simp)).setCell (.inl (by simp [own, Value.ownBlock])) _, Newly.refl _ _⟩

theorem set2 (xs : List Value) (i : Nat) (u v : Value) (h : i + 1 < xs.length) : xs.take i ++ [u, v] ++ xs.drop (i + 2) = (xs.set i u).set (i + 1) v := by
  apply List.ext_getElem?
  intro j
  rcases Nat.lt_trichotomy j i with h1 | rfl | h1
  · rw [List.append_assoc, List.getElem?_append_left (by simp; omega), List.getElem?_take_of_lt h1, List.getElem?_set_ne (by omega), List.getElem?_set_ne (by omega)]
  · rw [List.append_assoc, List.getElem?_append_right (by simp; omega), List.getElem?_set_ne (by omega), List.getElem?_set_self (by omega)]
    simp [show j - min j xs.length = 0 by omega]
  · by_cases h2 : j = i + 1
    · subst h2
      rw [List.append_assoc, List.getElem?_append_right (by simp; omega), List.getElem?_set_self (by simp; omega)]
      simp [show i + 1 - min i xs.length = 1 by omega]
    · rw [List.getElem?_append_right (by simp; omega), List.getElem?_set_ne (by omega), List.getElem?_set_ne (by omega), List.getElem?_drop]
      congr 1
      simp
      omega

/-- 'append(row[:k], x)' where the row goes on behind k. -/
theorem RowR.pushIn {w : World} {g n cap : Nat} {M : List Rc} (h : RowR w (.slice (some ⟨g, 0, none⟩) n cap) M) (k : Nat) (hk : k < M.length) {b : Nat} {x : Rc} (hb : IsR w (.slice (some ⟨b, 0, none⟩) 1 1) [x]) (ty : TypeId) :
    ∃ w', (Builtin.append_ #[22, 22] ty #[.slice (some ⟨g, 0, none⟩) k cap, .slice (some ⟨b, 0, none⟩) 1 1]).run Tryz.prog w = .ok (.slice (some ⟨g, 0, none⟩) (k + 1) cap) w' ∧ RowR w' (.slice (some ⟨g, 0, none⟩) n cap) (M.set k x) ∧ Kept [g] w w' := by
  obtain ⟨i0, hi, hz0, hz1, hz2⟩ := info_parts Tryz.infoRec
  have e := h.len
  subst e
  obtain ⟨a', c', ea, _, _, hc, hok⟩ := hb
  simp only [Value.slice.injEq] at ea
  obtain ⟨rfl, _, rfl⟩ := ea
  rcases h.1.2 with ⟨e, _⟩ | ⟨g', cap', cur, e, hb0, hg, hn, hm, hs, ht⟩
  · simp at e
  · simp only [Value.slice.injEq, Option.some.injEq, Addr.mk.injEq, and_true, true_and] at e
    obtain ⟨rfl, rfl⟩ := e
    have hrun := run_append_room (P := Tryz.prog) w 22 ty 52 i0 Tryz.underlying22 hi g k cap cur hg ⟨b, 0, none⟩ 1 1 (encR x) (by rw [hz1]; rfl) (fun j u hu => hc _ rfl j u (by simpa [flatR] using hu)) (fun u hu => flatR_oneCell [x] u (by simpa [flatR] using hu)) (by omega) (by rw [hz1, hs, encR_length]; omega)
    refine ⟨_, hrun, ?_, ?_⟩
    · rw [hz1, encR_length]
      have e2 : (cur.toList.take (k * 2) ++ encR x ++ cur.toList.drop (k * 2 + 2)) = (cur.toList.set (k * 2) (.int .u64 x.1)).set (k * 2 + 1) (.int .u64 x.2) := set2 _ _ _ _ (by simp [hs]; omega)
      rw [e2]
      refine ⟨⟨by rw [flatR_length], .inr ⟨g, cap, _, by simp, hb0, setRow_heap w g cur _ _ _ hg, by simpa using hn, hm, by simp [hs], ?_⟩⟩, fun y hy => ?_⟩
      · rw [flatR_set M k hk, ← ht, List.length_set]
        simp only [List.take_set]
      · rcases List.mem_or_eq_of_mem_set hy with hy | rfl
        · exact h.2 y hy
        · exact hok _ (by simp)
    · exact ⟨rfl, rfl, rfl, by simp, fun j _ hj => setRow_other w g j _ (by simpa using hj)⟩

/-- .. in the row that it is gone through. -/
theorem addIn_any {w : World} {g cap : Nat} {M : List Rc} (h : RowR w (.slice (some ⟨g, 0, none⟩) M.length cap) M) (k : Nat) (hk : k < M.length) (hmax : M.length ≤ 1000000) (how x1 x2 : Int) (hx : okR (x1, x2)) :
    Calls Tryz.prog 76 #[.slice (some ⟨g, 0, none⟩) k cap, .agg #[.int .u64 x1, .int .u64 x2], .int .i64 how] w fun e w' => ∃ k' M', e = .returned (.slice (some ⟨g, 0, none⟩) k' cap) ∧
      RowR w' (.slice (some ⟨g, 0, none⟩) M'.length cap) M' ∧ M'.length = M.length ∧ k' ≤ k + 1 ∧ M'.take k' = addR how (M.take k) (x1, x2) ∧ (∀ j, k < j → M'[j]! = M[j]!) ∧ Kept [g] w w' := by
  have hlt : (M.take k).length = k := by simp; omega
  have hf := h.front k (by omega)
  have hset : ∀ (x : Rc) (i j : Nat), i ≤ k → k < j → (M.set i x)[j]! = M[j]! := fun x i j hi hj => by
    rw [List.getElem!_eq_getElem?_getD, List.getElem!_eq_getElem?_getD, List.getElem?_set_ne (by omega)]
  refine (add_gen (fun v' w' => ∃ k' M', v' = .slice (some ⟨g, 0, none⟩) k' cap ∧ RowR w' (.slice (some ⟨g, 0, none⟩) M'.length cap) M' ∧ M'.length = M.length ∧ k' ≤ k + 1 ∧ M'.take k' = addR how (M.take k) (x1, x2) ∧ (∀ j, k < j → M'[j]! = M[j]!) ∧ Kept [g] w w') hf (by omega) how x1 x2 hx (fun hc q ty => ?_) (fun hc q g' k' cap' hv hk' => ?_)).mono ?_
  · have k1 : Kept [] w ((wAdd w x1 x2 q).alloc (.cells #[.int .u64 x1, .int .u64 x2] 52)) := (wAdd_kept w x1 x2 q).alloc _
    obtain ⟨w', h1, h2, h3⟩ := (h.kept k1 (fun _ _ => by simp)).pushIn k hk (wAdd_one w x1 x2 q hx) ty
    refine ⟨_, w', h1, k + 1, M.set k (x1, x2), rfl, by rw [List.length_set]; exact h2, by simp, Nat.le_refl _, ?_, fun j hj => hset _ _ _ (Nat.le_refl _) hj, (k1.mono (by simp)).trans h3 (Newly.refl _ _)⟩
    rw [addR_push hc]
    rw [List.take_succ_eq_append_getElem (by simpa using hk), List.getElem_set_self, List.take_set_of_le (Nat.le_refl _)]
  · simp only [Value.slice.injEq, Option.some.injEq, Addr.mk.injEq, and_true] at hv
    obtain ⟨rfl, rfl, rfl⟩ := hv
    have hat : (M.take (k' + 1))[k']! = M[k']! := by
      rw [getElem!_pos _ k' (by omega), getElem!_pos M k' (by omega), List.getElem_take]
    have r := (h.kept (wAdd_kept w x1 x2 q) (fun _ _ => by simp)).storedVal k' (by omega) (combV how M[k']!.2 x2) (combV_ok _ _ _ (h.okAt k' (by omega)).2 hx.2)
    have e : (M.take (k' + 1))[(M.take (k' + 1)).length - 1]! = M[k']! := by rw [hk', Nat.add_sub_cancel, hat]
    have e1 : M[k']!.1 = x1 := by
      rw [← e]
      exact Classical.byContradiction fun hn => hc (.inr (.inr hn))
    rw [e1] at r
    rw [hat]
    refine ⟨k' + 1, _, rfl, by rw [List.length_set]; exact r, by simp, by omega, ?_, fun j hj => hset _ _ _ (by omega) hj, ((wAdd_kept w x1 x2 q).mono (by simp)).setCell (.inl (by simp)) _⟩
    rw [addR_comb hc, e, hk', Nat.add_sub_cancel, List.take_set]
  · rintro e w' ⟨v', rfl, k', M', rfl, h1⟩
    exact ⟨k', M', rfl, h1⟩

end Go.Proofs.YtgpbanjammipiaaGreatDoor

namespace Go.Proofs.YtgpbanjammipiaaGreatDoor

/-- Records, combined. -/
def foldR (how : Int) (l : List Rc) : List Rc := l.foldl (addR how) []
theorem foldR_snoc (how : Int) (l : List Rc) (i : Nat) (hi : i < l.length) : foldR how (l.take (i + 1)) = addR how (foldR how (l.take i)) l[i]! := by
  rw [getElem!_pos l i hi, ← List.take_append_getElem hi, foldR, List.foldl_append]
  rfl
theorem foldR_le (how : Int) (l : List Rc) : (foldR how l).length ≤ l.length := by
  have : ∀ (l acc : List Rc), (l.foldl (addR how) acc).length ≤ acc.length + l.length := by
    intro l
    induction l with
    | nil => simp
    | cons x l ih =>
      intro acc
      have := ih (addR how acc x)
      have := (addR_length how acc x).2
      simp only [List.foldl_cons, List.length_cons]
      omega
  simpa [foldR] using this l []

end Go.Proofs.YtgpbanjammipiaaGreatDoor

namespace Go.Proofs.YtgpbanjammipiaaGreatDoor

/-- Of natural numbers. -/
def combN (how : Int) (a b : Nat) : Nat := if how = 1 then min (a + b) 18446744073709551615 else min a b
theorem combN_comm (how : Int) (a b : Nat) : combN how a b = combN how b a := by unfold combN; split <;> omega
theorem combN_assoc (how : Int) (a b c : Nat) : combN how (combN how a b) c = combN how a (combN how b c) := by unfold combN; split <;> omega
theorem combV_nat (how a b : Int) (ha : 0 ≤ a) (hb : 0 ≤ b) : (combV how a b).toNat = combN how a.toNat b.toNat := by
  unfold combV combN
  split
  · split <;> omega
  · split <;> omega

def optC (how : Int) : Option Nat → Option Nat → Option Nat
  | none, b => b
  | some a, none => some a
  | some a, some b => some (combN how a b)
theorem optC_none (how : Int) (a : Option Nat) : optC how a none = a := by cases a <;> rfl
theorem optC_comm (how : Int) (a b : Option Nat) : optC how a b = optC how b a := by
  cases a <;> cases b <;> simp [optC, combN_comm how]
theorem optC_assoc (how : Int) (a b c : Option Nat) : optC how (optC how a b) c = optC how a (optC how b c) := by
  cases a <;> cases b <;> cases c <;> simp [optC, combN_assoc how]

/-- All values of a key, combined. -/
def valK (how k : Int) : List Rc → Option Nat
  | [] => none
  | x :: l => optC how (if x.1 = k then some x.2.toNat else none) (valK how k l)

theorem valK_append (how k : Int) (l m : List Rc) : valK how k (l ++ m) = optC how (valK how k l) (valK how k m) := by
  induction l with
  | nil => rfl
  | cons x l ih => simp only [List.cons_append, valK, ih, optC_assoc]

theorem valK_perm (how k : Int) {l m : List Rc} (h : l.Perm m) : valK how k l = valK how k m := by
  induction h with
  | nil => rfl
  | cons x _ ih => simp only [valK, ih]
  | swap x y l => simp only [valK, ← optC_assoc]; rw [optC_comm how (if y.1 = k then _ else _)]
  | trans _ _ h1 h2 => exact h1.trans h2

/-- Keys rise, each is there once. -/
def Strict (l : List Rc) : Prop := l.Pairwise (fun x y => x.1 < y.1)

theorem Strict.rises {l : List Rc} (h : Strict l) : Rises l := h.imp fun h => by
  rw [Bool.eq_false_iff, Ne, ltR_iff]
  omega

theorem valK_none {how k : Int} {l : List Rc} (h : ∀ x ∈ l, x.1 ≠ k) : valK how k l = none := by
  induction l with
  | nil => rfl
  | cons x l ih =>
    rw [valK, if_neg (h x (by simp)), ih (fun y hy => h y (by simp [hy]))]
    rfl

theorem valK_mem {how k : Int} {l : List Rc} (h : ∃ x ∈ l, x.1 = k) : valK how k l ≠ none := by
  induction l with
  | nil => simp at h
  | cons x l ih =>
    rw [valK]
    by_cases hx : x.1 = k
    · rw [if_pos hx]
      cases valK how k l <;> simp [optC]
    · rw [if_neg hx]
      obtain ⟨y, hy, hk⟩ := h
      rcases List.mem_cons.1 hy with rfl | hy
      · exact absurd hk hx
      · exact ih ⟨y, hy, hk⟩

theorem Strict.valK_eq {how : Int} {l : List Rc} (h : Strict l) {x : Rc} (hx : x ∈ l) : valK how x.1 l = some x.2.toNat := by
  induction l with
  | nil => simp at hx
  | cons y l ih =>
    obtain ⟨h1, h2⟩ := List.pairwise_cons.1 h
    rw [valK]
    rcases List.mem_cons.1 hx with rfl | hx
    · rw [if_pos rfl, valK_none (fun z hz => by have := h1 z hz; omega)]
      rfl
    · rw [if_neg (by have := h1 x hx; omega), ih h2 hx]
      rfl

/-- Two rows with strict keys that tell the same of each key are one. -/
theorem Strict.unique {how : Int} {l m : List Rc} (hl : Strict l) (hm : Strict m) (okl : ∀ e ∈ l, okR e) (okm : ∀ e ∈ m, okR e) (h : ∀ k, valK how k l = valK how k m) : l = m := by
  have key : ∀ {l m : List Rc}, Strict l → Strict m → (∀ e ∈ l, okR e) → (∀ e ∈ m, okR e) → (∀ k, valK how k l = valK how k m) → ∀ x ∈ l, x ∈ m := by
    intro l m hl hm okl okm h x hx
    have e1 := hl.valK_eq (how := how) hx
    rw [h x.1] at e1
    have : ∃ y ∈ m, y.1 = x.1 := Classical.byContradiction fun hn => by
      rw [valK_none (fun y hy he => hn ⟨y, hy, he⟩)] at e1
      cases e1
    obtain ⟨y, hy, hk⟩ := this
    have e2 := hm.valK_eq (how := how) hy
    rw [hk, e1] at e2
    simp only [Option.some.injEq] at e2
    have a1 := (okl x hx).2
    have a2 := (okm y hy).2
    have e3 : x = y := Prod.ext hk.symm (by omega)
    rw [e3]
    exact hy
  refine Rises.unique hl.rises hm.rises ?_
  have nd : ∀ {l : List Rc}, Strict l → l.Nodup := fun h => h.imp fun h e => by subst e; omega
  exact (List.perm_ext_iff_of_nodup (nd hl) (nd hm)).2 fun x => ⟨key hl hm okl okm h x, key hm hl okm okl (fun k => (h k).symm) x⟩

theorem revInd {p : List Rc → Prop} (nil : p []) (append_singleton : ∀ l x, p l → p (l ++ [x])) : ∀ l, p l := fun l => by
  have : ∀ m : List Rc, p m.reverse := by
    intro m
    induction m with
    | nil => exact nil
    | cons x m ih => rw [List.reverse_cons]; exact append_singleton _ _ ih
  have h := this l.reverse
  rwa [List.reverse_reverse] at h

theorem addR_ok {how : Int} {l : List Rc} {x : Rc} (hl : ∀ e ∈ l, okR e) (hx : okR x) : ∀ e ∈ addR how l x, okR e := by
  intro e he
  unfold addR at he
  split at he
  · rcases List.mem_append.1 he with h | h
    · exact hl e h
    · simp at h
      subst h
      exact hx
  · rename_i hc
    have hne : l ≠ [] := fun e => hc (.inr (.inl e))
    have hlen := List.length_pos_iff.2 hne
    rcases List.mem_or_eq_of_mem_set he with h | rfl
    · exact hl e h
    · have h1 := hl l[l.length - 1]! (by rw [getElem!_pos l (l.length - 1) (by omega)]; exact List.getElem_mem _)
      exact ⟨hx.1, combV_ok _ _ _ h1.2 hx.2⟩

theorem foldR_snocL (how : Int) (l : List Rc) (x : Rc) : foldR how (l ++ [x]) = addR how (foldR how l) x := by simp [foldR]

theorem foldR_ok {how : Int} {l : List Rc} (h : ∀ e ∈ l, okR e) : ∀ e ∈ foldR how l, okR e := by
  induction l using revInd with
  | nil => simp [foldR]
  | append_singleton l x ih =>
    rw [foldR_snocL]
    exact addR_ok (ih (fun e he => h e (by simp [he]))) (h x (by simp))

theorem foldR_zero (l : List Rc) : foldR 0 l = l := by
  induction l using revInd with
  | nil => rfl
  | append_singleton l x ih => rw [foldR_snocL, ih, addR_push (.inl rfl)]

/-- What is behind a fold of a row that rises. -/
theorem foldR_strict {how : Int} (hh : how ≠ 0) {l : List Rc} (h : Rises l) (hok : ∀ e ∈ l, okR e) :
    Strict (foldR how l) ∧ (∀ k, valK how k (foldR how l) = valK how k l) ∧ (∀ y ∈ foldR how l, ∃ z ∈ l, z.1 = y.1) := by
  induction l using revInd with
  | nil => exact ⟨List.Pairwise.nil, fun _ => rfl, by simp [foldR]⟩
  | append_singleton l x ih =>
    have hr := List.pairwise_append.1 h
    have okl : ∀ e ∈ l, okR e := fun e he => hok e (by simp [he])
    have okx : okR x := hok x (by simp)
    obtain ⟨h1, h2, h3⟩ := ih hr.1 okl
    have fok := foldR_ok (how := how) okl
    rw [foldR_snocL]
    have hle : ∀ y ∈ foldR how l, y.1 ≤ x.1 := fun y hy => by
      obtain ⟨z, hz, e⟩ := h3 y hy
      have := hr.2.2 z hz x (by simp)
      rw [Bool.eq_false_iff, Ne, ltR_iff] at this
      omega
    generalize foldR how l = F at h1 h2 h3 fok hle
    rcases List.eq_nil_or_concat F with rfl | ⟨F', y, hF⟩
    · rw [addR_push (.inr (.inl rfl))]
      refine ⟨by simp [Strict], fun k => ?_, fun y hy => ⟨x, by simp, by simp at hy; rw [hy]⟩⟩
      rw [List.nil_append, valK_append, ← h2 k]
      rfl
    · rw [List.concat_eq_append] at hF
      subst hF
      have hlast : (F' ++ [y])[(F' ++ [y]).length - 1]! = y := by
        rw [getElem!_pos _ _ (by simp)]
        simp
      by_cases hk : y.1 = x.1
      · rw [addR_comb (by rw [hlast]; simp [hh, hk]), hlast]
        have es : (F' ++ [y]).set ((F' ++ [y]).length - 1) (x.1, combV how y.2 x.2) = F' ++ [(x.1, combV how y.2 x.2)] := by
          rw [List.set_append_right _ _ (by simp)]
          simp
        rw [es]
        have hp := List.pairwise_append.1 h1
        refine ⟨List.pairwise_append.2 ⟨hp.1, by simp, fun a ha b hb => ?_⟩, fun k => ?_, fun z hz => ?_⟩
        · simp at hb
          subst hb
          have := hp.2.2 a ha y (by simp)
          simp only
          omega
        · rw [valK_append how k l, ← h2 k, valK_append, valK_append, optC_assoc]
          congr 1
          have a1 := (fok y (by simp)).2
          have a2 := okx.2
          simp only [valK, optC_none]
          by_cases e : x.1 = k
          · rw [if_pos e, if_pos (hk.trans e), if_pos e, combV_nat _ _ _ a1.1 a2.1]
            rfl
          · rw [if_neg e, if_neg (fun h => e (hk.symm.trans h)), if_neg e]
            rfl
        · rcases List.mem_append.1 hz with hz | hz
          · obtain ⟨a, ha, e⟩ := h3 z (by simp [hz])
            exact ⟨a, by simp [ha], e⟩
          · simp at hz
            exact ⟨x, by simp, by rw [hz]⟩
      · rw [addR_push (.inr (.inr (by rw [hlast]; exact hk)))]
        refine ⟨List.pairwise_append.2 ⟨h1, by simp, fun a ha b hb => ?_⟩, fun k => ?_, fun z hz => ?_⟩
        · simp at hb
          subst hb
          have hy := hle y (by simp)
          rcases List.mem_append.1 ha with ha | ha
          · have := (List.pairwise_append.1 h1).2.2 a ha y (by simp)
            omega
          · simp at ha
            subst ha
            omega
        · rw [valK_append how k (F' ++ [y]), valK_append how k l, h2 k]
        · rcases List.mem_append.1 hz with hz | hz
          · obtain ⟨a, ha, e⟩ := h3 z hz
            exact ⟨a, by simp [ha], e⟩
          · simp at hz
            exact ⟨x, by simp, by rw [hz]⟩

/-- Sorted of records. -/
def canR (how : Int) (l : List Rc) : List Rc := foldR how (sortR [] l)

theorem sortR_ok {l : List Rc} (h : ∀ e ∈ l, okR e) : ∀ e ∈ sortR [] l, okR e := fun e he => h e (by simpa using (sortR_perm [] l).subset he)
theorem sorts_rise (l : List Rc) : Rises (sortR [] l) := sortR_rises (by simp [Rises]) l
theorem sortP (l : List Rc) : (sortR [] l).Perm l := by simpa using sortR_perm [] l
theorem sort_of_perm {l m : List Rc} (h : l.Perm m) : sortR [] l = sortR [] m := Rises.unique (sorts_rise l) (sorts_rise m) ((sortP l).trans (h.trans (sortP m).symm))
theorem sort_id {l : List Rc} (h : Rises l) : sortR [] l = l := Rises.unique (sorts_rise l) h (sortP l)
theorem canR_ok {how : Int} {l : List Rc} (h : ∀ e ∈ l, okR e) : ∀ e ∈ canR how l, okR e := foldR_ok (sortR_ok h)
theorem canR_zero (l : List Rc) : canR 0 l = sortR [] l := foldR_zero _
theorem canR_strict {how : Int} (hh : how ≠ 0) {l : List Rc} (hok : ∀ e ∈ l, okR e) : Strict (canR how l) := (foldR_strict hh (sorts_rise l) (sortR_ok hok)).1
theorem canR_val {how : Int} (hh : how ≠ 0) {l : List Rc} (hok : ∀ e ∈ l, okR e) (k : Int) : valK how k (canR how l) = valK how k l :=
  ((foldR_strict hh (sorts_rise l) (sortR_ok hok)).2.1 k).trans (valK_perm how k (sortP l))
theorem canR_rises {how : Int} {l : List Rc} (hok : ∀ e ∈ l, okR e) : Rises (canR how l) := by
  by_cases hh : how = 0
  · subst hh
    rw [canR_zero]
    exact sorts_rise l
  · exact (canR_strict hh hok).rises
theorem canR_le (how : Int) (l : List Rc) : (canR how l).length ≤ l.length := by
  have := foldR_le how (sortR [] l)
  rw [(sortP l).length_eq] at this
  exact this

/-- Two rows have the same records, as far as how asks. -/
def Like (how : Int) (l m : List Rc) : Prop := if how = 0 then l.Perm m else ∀ k, valK how k l = valK how k m

theorem Like.refl (how : Int) (l : List Rc) : Like how l l := by unfold Like; split; exact List.Perm.refl _; exact fun _ => rfl
theorem Like.symm {how : Int} {l m : List Rc} (h : Like how l m) : Like how m l := by
  unfold Like at *
  split at h
  · rename_i e; rw [if_pos e]; exact h.symm
  · rename_i e; rw [if_neg e]; exact fun k => (h k).symm
theorem Like.trans {how : Int} {l m n : List Rc} (h : Like how l m) (k : Like how m n) : Like how l n := by
  unfold Like at *
  split at h
  · rename_i e; rw [if_pos e] at *; exact h.trans k
  · rename_i e; rw [if_neg e] at *; exact fun i => (h i).trans (k i)
theorem Like.of_perm {how : Int} {l m : List Rc} (h : l.Perm m) : Like how l m := by
  unfold Like
  split
  · exact h
  · exact fun k => valK_perm how k h
theorem Like.append {how : Int} {l m l' m' : List Rc} (h : Like how l l') (k : Like how m m') : Like how (l ++ m) (l' ++ m') := by
  unfold Like at *
  split
  · rename_i e; rw [if_pos e] at *; exact h.append k
  · rename_i e; rw [if_neg e] at *; intro i; rw [valK_append, valK_append, h i, k i]
theorem canR_like {how : Int} {l : List Rc} (hok : ∀ e ∈ l, okR e) : Like how (canR how l) l := by
  unfold Like
  split
  · rename_i e; subst e; rw [canR_zero]; exact sortP l
  · rename_i e; exact canR_val e hok
/-- What is like is sorted to the same. -/
theorem Like.can {how : Int} {l m : List Rc} (h : Like how l m) (okl : ∀ e ∈ l, okR e) (okm : ∀ e ∈ m, okR e) : canR how l = canR how m := by
  unfold Like at h
  split at h
  · rename_i e; subst e; rw [canR_zero, canR_zero]; exact sort_of_perm h
  · rename_i e
    exact Strict.unique (how := how) (canR_strict e okl) (canR_strict e okm) (canR_ok okl) (canR_ok okm) fun k => by rw [canR_val e okl, canR_val e okm, h k]

theorem Like.flat {how : Int} {ls ms : List (List Rc)} (hl : ls.length = ms.length) (h : ∀ i, i < ls.length → Like how (ls[i]?.getD []) (ms[i]?.getD [])) : Like how ls.flatten ms.flatten := by
  induction ls generalizing ms with
  | nil =>
    obtain rfl : ms = [] := List.eq_nil_of_length_eq_zero hl.symm
    exact Like.refl _ _
  | cons x ls ih =>
    cases ms with
    | nil => simp at hl
    | cons y ms =>
      rw [List.flatten_cons, List.flatten_cons]
      refine Like.append (by simpa using h 0 (by simp)) (ih (by simpa using hl) fun i hi => ?_)
      have := h (i + 1) (by simpa using hi)
      simpa using this

theorem flat_ok {ls : List (List Rc)} (h : ∀ l ∈ ls, ∀ e ∈ l, okR e) : ∀ e ∈ ls.flatten, okR e := fun e he => by
  obtain ⟨l, hl, he⟩ := List.mem_flatten.1 he
  exact h l hl e he

/-- Rows sorted each, then together. -/
theorem can_flat {how : Int} {ls : List (List Rc)} (h : ∀ l ∈ ls, ∀ e ∈ l, okR e) : canR how (ls.map (canR how)).flatten = canR how ls.flatten := by
  refine Like.can (Like.flat (by simp) fun i hi => ?_) (flat_ok fun l hl => ?_) (flat_ok h)
  · simp only [List.length_map] at hi
    simp only [List.getElem?_map, List.getElem?_eq_getElem hi, Option.map_some, Option.getD_some]
    exact canR_like (h _ (List.getElem_mem hi))
  · obtain ⟨m, hm, rfl⟩ := List.mem_map.1 hl
    exact canR_ok (h m hm)

theorem can_can {how : Int} {l : List Rc} (hok : ∀ e ∈ l, okR e) : canR how (canR how l) = canR how l := Like.can (canR_like hok) (canR_ok hok) hok

end Go.Proofs.YtgpbanjammipiaaGreatDoor

namespace Go.Proofs.YtgpbanjammipiaaGreatDoor
open Go.RowKit

/-- 'append(row, x)' of which is known what it leaves: at the operation. -/
theorem wp_appendY {ops : Array Oper} {rest : List Oper} {o : Oper} {a : Act} {Q : Exit → Act → World → Prop} (R : Value → World → Prop) (w : World) (hgd : o.guard = none) (t : TypeId) (s x : Operand) (ho : o.op = .call { callee := .builtin .append, args := #[s, x], argTypes := #[t, t] })
    (v u : Value) (hs : a.eval s = v) (hx : a.eval x = u) (hr : ∃ v' w', (Builtin.append_ #[t, t] o.type #[v, u]).run Tryz.prog w = .ok v' w' ∧ R v' w')
    (h : ∀ v' w', R v' w' → wpList Tryz.prog ops Q rest (a.put o.dst v') w') :
    wpList Tryz.prog ops Q (o :: rest) a w := by
  refine wpList_plain hgd fun K hK => ?_
  obtain ⟨v', w', hr, h2⟩ := hr
  unfold Oper.wp execOp
  simp only [ho, resolve, invoke, builtin, Sem.run_bind, Sem.run_pure, Result.andThen_ok, List.map_toArray, List.map_cons, List.map_nil, hs, hx, hr]
  exact hK _ _ (h v' w' h2)

theorem step_appendY {ops : Array Oper} {o : Oper} {a : Act} {K : Act → World → Prop} {Q : Exit → Act → World → Prop} {E : Prop} (R : Value → World → Prop) (w : World) (hgd : o.guard = none) (t : TypeId) (s x : Operand) (ho : o.op = .call { callee := .builtin .append, args := #[s, x], argTypes := #[t, t] })
    (v u : Value) (hs : a.eval s = v) (hx : a.eval x = u) (hr : ∃ v' w', (Builtin.append_ #[t, t] o.type #[v, u]).run Tryz.prog w = .ok v' w' ∧ R v' w')
    (h : ∀ v' w', R v' w' → K (a.put o.dst v') w') :
    if Region.wanted o (yielded ops a.tmps) = true then Oper.wp Tryz.prog o a w K Q else E := by
  have hw : Region.wanted o (yielded ops a.tmps) = true := by simp [Region.wanted, hgd]
  rw [if_pos hw]
  obtain ⟨v', w', hr, h2⟩ := hr
  unfold Oper.wp execOp
  simp only [ho, resolve, invoke, builtin, Sem.run_bind, Sem.run_pure, Result.andThen_ok, List.map_toArray, List.map_cons, List.map_nil, hs, hx, hr]
  exact h v' w' h2

end Go.Proofs.YtgpbanjammipiaaGreatDoor

namespace Go.Proofs.YtgpbanjammipiaaGreatDoor
open Go.RowKit

set_option maxRecDepth 100000 in
set_option maxHeartbeats 2000000 in
theorem refSorted_any {w : World} {v : Value} {l : List Rc} (how : Int) (h : IsR w v l) (hl : l.length ≤ 100000) :
    Calls Tryz.prog 19 #[v, .int .i64 how] w fun e w' => ∃ v', e = .returned v' ∧ IsR w' v' (canR how l) ∧ Below w.heap.size w w' := by
  have SO := hide (refSort_any h hl)
  by_cases hh : how = 0
  · subst hh
    clear h
    go_enter Tryz.func19, Tryz.ntmps19
    go_wp2_with fail
    refine SO.out.mono ?_
    rintro e w1 ⟨v1, rfl, r1, b1⟩
    have R1 := hide (And.intro r1.isR b1)
    clear r1 b1 SO
    go_wp2
    go_ret
    exact ⟨_, rfl, by rw [canR_zero]; exact R1.out.1, R1.out.2⟩
  · obtain ⟨S, hS⟩ : ∃ S, S = sortR [] l := ⟨_, rfl⟩
    have hSl : S.length = l.length := by rw [hS, sortR_length]; simp
    rw [← hS] at SO
    have HS := hide (And.intro hS hSl)
    obtain ⟨n, hn⟩ : ∃ n, n = S.length := ⟨_, rfl⟩
    have hn1 : n ≤ 100000 := by omega
    have HN := hide hn
    have hhb : (how == 0) = false := by simpa using hh
    clear h hS hSl hn
    go_enter Tryz.func19, Tryz.ntmps19
    go_wp2_with fail
    refine SO.out.mono ?_
    rintro e w1 ⟨v1, rfl, r1, b1⟩
    obtain ⟨a1, c1, rfl⟩ : ∃ a c, v1 = .slice a n c := by
      obtain ⟨a, c, e, _⟩ := r1.isR.form
      rw [← HN.out] at e
      exact ⟨a, c, e⟩
    have R1 := hide (And.intro r1.isR b1)
    have R0 := hide (And.intro (rowR_empty w1) ((Below.refl _ w1).alloc (Nat.le_refl _) (.cells #[] 52)))
    clear r1 b1 SO
    go_wp2
    go_loopw [6, 7] (fun vo v wr => ∃ i : Nat, v = .int .i64 (i : Int) ∧ i ≤ n ∧ Hid (RowR wr vo (foldR how (S.take i)) ∧ (∀ x ∈ own vo, w1.heap.size ≤ x) ∧ Below w1.heap.size w1 wr)) (fun _ v _ => n + 1 - numOf v)
    case atStart => exact ⟨0, rfl, Nat.zero_le _, by simpa [foldR] using R0.out.1, by simp [own, Value.ownBlock], R0.out.2⟩
    case round =>
      obtain ⟨i, rfl, hi, HR⟩ := hrel
      have hw1 : IntKind.i64.wrap ((i : Int) + 1) = (i : Int) + 1 := i64_small _ (by omega) (by omega)
      by_cases hin : i < n
      · have hin' : (i : Int) < (n : Int) := by omega
        have hiS : i < S.length := by have := HN.out; omega
        obtain ⟨b, off, c', e, _, hc⟩ := (R1.out.1.below HR.out.2.2).opened (by omega)
        simp only [Value.slice.injEq] at e
        obtain ⟨rfl, hx1, rfl⟩ := e
        clear hx1
        obtain ⟨d1, d2⟩ := hc i hiS
        have okx := R1.out.1.okAt i hiS
        obtain ⟨x, hx⟩ : ∃ x, x = S[i]! := ⟨_, rfl⟩
        obtain ⟨F, hF⟩ : ∃ F, F = foldR how (S.take i) := ⟨_, rfl⟩
        have hsn := foldR_snoc how S i hiS
        rw [← hx, ← hF] at hsn
        rw [← hx] at d1 d2 okx
        have hFl : F.length ≤ i := by rw [hF]; have := foldR_le how (S.take i); simp at this; omega
        have hr := HR.out.1
        rw [← hF] at hr
        have HSN := hide hsn
        have HR2 := hide (And.intro hr HR.out.2)
        have OKX := hide okx
        have HFL := hide hFl
        obtain ⟨k, hk⟩ : ∃ k, k = F.length := ⟨_, rfl⟩
        obtain ⟨a, cap, hu⟩ : ∃ a c, u6 = .slice a k c := by
          obtain ⟨a, c, e, _⟩ := hr.isR.form
          rw [← hk] at e
          exact ⟨a, c, e⟩
        subst hu
        have hk1 : k ≤ 100000 := by omega
        obtain ⟨x1, x2⟩ := x
        dsimp only at d1 d2
        have KEEP : Hid (∀ v' w', RowR w' v' (foldR how (S.take (i + 1))) → Kept (own (.slice a k cap)) wr w' → Newly wr (own (.slice a k cap)) (own v') → RowR w' v' (foldR how (S.take (i + 1))) ∧ (∀ x ∈ own v', w1.heap.size ≤ x) ∧ Below w1.heap.size w1 w') := fun v' w' h1 h2 h3 => by
          have hs := HR2.out.2.2.size
          refine ⟨h1, fun x hx => ?_, HR2.out.2.2.trans (h2.below hs HR2.out.2.1)⟩
          rcases h3 x hx with h | h
          · exact HR2.out.2.1 x h
          · omega
        have AP : Hid (addR how F (x1, x2) = F ++ [(x1, x2)] → ∀ q ty, ∃ v' w', (Builtin.append_ #[22, 22] ty #[.slice a k cap, .slice (some ⟨wr.heap.size, 0, none⟩) 1 1]).run Tryz.prog ((wr.drewN q).alloc (.cells #[.int .u64 x1, .int .u64 x2] 52)) = .ok v' w' ∧ (RowR w' v' (foldR how (S.take (i + 1))) ∧ (∀ x ∈ own v', w1.heap.size ≤ x) ∧ Below w1.heap.size w1 w')) := fun he q ty => by
          have k1 : Kept [] wr ((wr.drewN q).alloc (.cells #[.int .u64 x1, .int .u64 x2] 52)) := ((Kept.refl [] wr).drewN q).alloc _
          have ho : IsR ((wr.drewN q).alloc (.cells #[.int .u64 x1, .int .u64 x2] 52)) (.slice (some ⟨wr.heap.size, 0, none⟩) 1 1) [(x1, x2)] := isR_one (wr.drewN q) x1 x2 OKX.out
          obtain ⟨v', w', h1, h2, h3, h4⟩ := (HR2.out.1.kept k1 (fun _ _ => by simp)).append ho (by have := HFL.out; simp; omega) ty
          refine ⟨v', w', h1, KEEP.out v' w' (by rw [HSN.out, he]; exact h2) ((k1.mono (by simp)).trans h3 (Newly.refl _ _)) (fun y hy => ?_)⟩
          rcases h4 y hy with h | h
          · exact .inl h
          · exact .inr (Nat.le_trans k1.size h)
        rcases Nat.eq_zero_or_pos k with hz | hz
        · subst hz
          have hF0 : F = [] := List.eq_nil_of_length_eq_zero hk.symm
          have AP2 := hide (AP.out (addR_push (.inr (.inl hF0))))
          clear hx hF hsn hr okx hFl hk hF0 hc AP
          go_wp2
          go_quiet (fail)
          go_wp2_with (first | (at_builtin; refine wp_appendY _ _ rfl 22 _ _ rfl _ _ rfl rfl (AP2.out _ _) ?_; intro v' w' hrow) | go_in)
          go_roundw
          case rel => exact ⟨i + 1, by go_num, by omega, hrow⟩
          case measure => simp [numOf]; omega
        · obtain ⟨k, rfl⟩ : ∃ j, k = j + 1 := ⟨k - 1, by omega⟩
          obtain ⟨g, cg, eg, hcg⟩ := hr.blk (by omega)
          rw [← hk] at eg
          simp only [Value.slice.injEq] at eg
          obtain ⟨rfl, _, rfl⟩ := eg
          obtain ⟨c1, c2⟩ := hr.cell2 k (by omega)
          have z1 := hr.frozenAt (k * 2 + 1)
          have oky := hr.okAt k (by omega)
          obtain ⟨y, hy⟩ : ∃ y, y = F[k]! := ⟨_, rfl⟩
          rw [← hy] at c1 c2 oky
          have hlast : F[F.length - 1]! = y := by rw [hy, ← hk]; rfl
          have hne : F ≠ [] := fun e => by rw [e] at hk; simp at hk
          have hgb : g < wr.heap.size := hr.low g (by simp [own, Value.ownBlock])
          have hw2 : IntKind.i64.wrap ((k : Int) + 1 - 1) = (k : Int) := by rw [i64_small _ (by omega) (by omega)]; omega
          have hkk : (k : Int) < (k : Int) + 1 := by omega
          have hw3 : IntKind.i64.wrap (k : Int) = (k : Int) := i64_small _ (by omega) (by omega)
          have hk0 : (0 : Int) < (k : Int) + 1 := by omega
          have hkd : decide ((0 : Int) < (k : Int) + 1) = true := decide_eq_true hk0
          obtain ⟨y1, y2⟩ := y
          dsimp only at c1 c2
          by_cases hkey : y1 = x1
          · subst hkey
            have hadd : addR how F (y1, x2) = F.set k (y1, combV how y2 x2) := by
              rw [addR_comb (by rw [hlast]; simp [hh, hne]), hlast, ← hk]
              rfl
            have P : Hid (∀ q, RowR ((wr.drewN q).setCell ⟨g, k * 2 + 1, none⟩ (.int .u64 (combV how y2 x2))) (.slice (some ⟨g, 0, none⟩) (k + 1) cap) (foldR how (S.take (i + 1))) ∧ (∀ x ∈ own (.slice (some ⟨g, 0, none⟩) (k + 1) cap), w1.heap.size ≤ x) ∧ Below w1.heap.size w1 ((wr.drewN q).setCell ⟨g, k * 2 + 1, none⟩ (.int .u64 (combV how y2 x2)))) := fun q => by
              have r := (hr.kept ((Kept.refl [] wr).drewN q) (fun _ _ => by simp)).storedVal k (by omega) (combV how y2 x2) (combV_ok _ _ _ oky.2 okx.2)
              rw [← hy] at r
              exact KEEP.out _ _ (by rw [HSN.out, hadd]; exact r) (((Kept.refl _ wr).drewN q).setCell (.inl (by simp [own, Value.ownBlock])) _) (Newly.refl _ _)
            have CB := hide (fun w => refCombine_any how y2 x2 oky.2 okx.2 w)
            clear hx hF hsn hr okx hFl hk hc AP hlast hne hy oky hadd
            go_wp2
            go_quiet (fail)
            go_wp2
            go_region_law (go_simp; go_at_call 38; refine (CB.out _).mono ?_; rintro e w' ⟨rfl, rfl⟩)
            all_goals
              go_wp2
              go_roundw
            all_goals first
              | (case rel => exact ⟨i + 1, by go_num, by omega, P.out _⟩)
              | (case measure => simp [numOf]; omega)
          · have AP2 := hide (AP.out (addR_push (.inr (.inr (by rw [hlast]; exact hkey)))))
            have hkb : (y1 == x1) = false := by simpa using hkey
            clear hx hF hsn hr okx hFl hk hc AP hlast hne hy oky
            go_wp2
            go_quiet (fail)
            go_wp2_with (first | (at_builtin; refine wp_appendY _ _ rfl 22 _ _ rfl _ _ rfl rfl (AP2.out _ _) ?_; intro v' w' hrow) | go_in)
            go_roundw
            case rel => exact ⟨i + 1, by go_num, by omega, hrow⟩
            case measure => simp [numOf]; omega
      · obtain rfl : i = n := by omega
        have hle : ¬ ((i : Int) < (i : Int)) := by omega
        go_wp2
        go_ret
        obtain ⟨h1, h2, h3⟩ := HR.out
        rw [List.take_of_length_le (by have := HN.out; omega), HS.out.1] at h1
        exact ⟨_, rfl, h1.isR, R1.out.2.trans (h3.mono R1.out.2.size)⟩

end Go.Proofs.YtgpbanjammipiaaGreatDoor

namespace Go.Proofs.YtgpbanjammipiaaGreatDoor
open Go.RowKit

/-- A heap in the cells o, o + 1 of block p, which has the cells arr: its row is v, of which l are the records; nothing is odd. -/
structure HeapIn (w : World) (p o : Nat) (arr : Array Value) (ty : TypeId) (v : Value) (l : List Rc) : Prop where
  cells : w.heap[p]? = some (.cells arr ty (0, 0))
  things : arr[o]? = some v
  odd : arr[o + 1]? = some (.slice none 0 0)
  row : RowR w v l
  apart : p ∉ own v

theorem set_same9 {arr : Array Value} {o : Nat} {u : Value} (h : arr[o]? = some u) (v : Value) : (arr.setIfInBounds o v)[o]? = some v := by
  have := (Array.getElem?_eq_some_iff.1 h).1
  simp [this]
theorem set_next9 (arr : Array Value) (o : Nat) (v : Value) : (arr.setIfInBounds o v)[o + 1]? = arr[o + 1]? := by
  simp

section
variable {w w' : World} {p o : Nat} {arr : Array Value} {ty : TypeId} {v : Value} {l : List Rc}

theorem HeapIn.kept {fp : List Nat} (h : HeapIn w p o arr ty v l) (hk : Kept fp w w') (hp : p ∉ fp) (hf : ∀ x ∈ own v, x ∉ fp) : HeapIn w' p o arr ty v l :=
  ⟨hk.heap h.cells hp, h.things, h.odd, h.row.kept hk hf, h.apart⟩

theorem HeapIn.cellAt (h : HeapIn w p o arr ty v l) : w.cell? ⟨p, o, none⟩ = some v ∧ w.cell? ⟨p, o + 1, none⟩ = some (.slice none 0 0) := by
  exact ⟨(cell_of_heap h.cells o).trans h.things, (cell_of_heap h.cells (o + 1)).trans h.odd⟩

theorem HeapIn.frozen (h : HeapIn w p o arr ty v l) (j : Nat) : w.frozen? ⟨p, j, none⟩ = false := frozen_of_heap h.cells j

set_option maxRecDepth 100000 in
set_option maxHeartbeats 4000000 in
theorem jlen_quiet (h : HeapIn w p o arr ty v l) (hmax : l.length ≤ 1000000) :
    Calls Tryz.prog 77 #[.pointer (some ⟨p, o, none⟩)] w fun e w' => e = .returned (.int .i64 l.length) ∧ ∃ m, w' = w.drewN m := by
  obtain ⟨c0, c1⟩ := h.cellAt
  have hform : ∃ a cap, v = .slice a l.length cap := by
    rcases h.row.form with ⟨rfl, rfl⟩ | ⟨g, cap, rfl, _⟩
    · exact ⟨none, 0, rfl⟩
    · exact ⟨_, cap, rfl⟩
  obtain ⟨a, cap, rfl⟩ := hform
  clear h
  go_enter Tryz.func77, Tryz.ntmps77
  go_wp2
  go_quiet (fail)
  go_wp2
  go_ret
  refine ⟨?_, _, rfl⟩
  simp

theorem jlen_any (h : HeapIn w p o arr ty v l) (hmax : l.length ≤ 1000000) :
    Calls Tryz.prog 77 #[.pointer (some ⟨p, o, none⟩)] w fun e w' => e = .returned (.int .i64 l.length) ∧ Kept [] w w' :=
  (jlen_quiet h hmax).mono fun _ _ ⟨h1, m, h2⟩ => ⟨h1, by rw [h2]; exact (Kept.refl _ _).drewN m⟩

set_option maxRecDepth 100000 in
set_option maxHeartbeats 4000000 in
theorem jpush_any (h : HeapIn w p o arr ty v l) (hmax : l.length ≤ 100000) (hheap : HeapR l) (x1 x2 : Int) (hx : okR (x1, x2)) :
    Calls Tryz.prog 78 #[.pointer (some ⟨p, o, none⟩), .agg #[.int .u64 x1, .int .u64 x2]] w fun e w' => e = .returned (.tuple #[]) ∧
      ∃ v' l', HeapIn w' p o (arr.setIfInBounds o v') ty v' l' ∧ HeapR l' ∧ l'.Perm (l ++ [(x1, x2)]) ∧ Kept (p :: own v) w w' ∧ Newly w (own v) (own v') := by
  obtain ⟨c0, c1⟩ := h.cellAt
  have z0 := h.frozen 0
  have S := hide (fun W => sound_any x1 x2 W)
  go_enter Tryz.func78, Tryz.ntmps78
  go_wp2_with fail
  refine (S.out _).mono ?_
  rintro e w2 ⟨rfl, b2⟩
  have bw : Below w.heap.size w w2 := ((Below.refl _ w).alloc (Nat.le_refl _) _).trans (b2.mono (by simp))
  have h2 : HeapIn w2 p o arr ty v l := h.kept (Kept.of_below (fp := []) bw) (by simp) (fun _ _ => by simp)
  have e3 := (b2.block w.heap.size (by simp)).trans (heap_alloc_new w (.cells #[.int .u64 x1, .int .u64 x2] 52))
  have x3 : w2.cell? ⟨w.heap.size, 0, none⟩ = some (.int .u64 x1) := cell_of_heap e3 0
  have x4 : w2.cell? ⟨w.heap.size, 1, none⟩ = some (.int .u64 x2) := cell_of_heap e3 1
  obtain ⟨W, hW⟩ : ∃ W, W = w2.alloc (.cells #[.int .u64 x1, .int .u64 x2] 52) := ⟨_, rfl⟩
  have kW : Kept [] w2 W := by rw [hW]; exact (Kept.refl _ _).alloc _
  have h3 : HeapIn W p o arr ty v l := h2.kept kW (by simp) (fun _ _ => by simp)
  have i3 : IsR W (.slice (some ⟨w2.heap.size, 0, none⟩) 1 1) [(x1, x2)] := by
    rw [hW]
    refine ⟨_, 1, rfl, Nat.le_refl _, by simp, fun x hx j u hu => ?_, by simpa using hx⟩
    simp only [Option.some.injEq] at hx
    subst hx
    rw [Addr.add_lit, Nat.zero_add, cell_of_heap (heap_alloc_new w2 _)]
    match j, hu with
    | 0, hu => simpa [flatR, encR] using hu
    | 1, hu => simpa [flatR, encR] using hu
    | j + 2, hu => simp [flatR, encR] at hu
  rw [hW] at h3 i3 kW
  obtain ⟨c0', c1'⟩ := h2.cellAt
  have z0' := h2.frozen 0
  have c3 := h3.cellAt.1
  have R3 := hide h3.row
  have I3 := hide i3
  have hlen : Hid (l.length + [(x1, x2)].length ≤ 1099511627776) := by show _ ≤ _; simp; omega
  have H3 := hide h3
  have KW := hide (And.intro kW bw)
  clear h h2 h3 i3 kW bw b2 e3 hW
  clear W
  go_wp2
  go_region_law (refine step_appendRc _ ?_ (.tmp 21) (.tmp 23) ?_ v (.slice (some ⟨w2.heap.size, 0, none⟩) 1 1) l [(x1, x2)] ?_ ?_ ?_ ?_ ?_ ?_; rfl; rfl; rfl; exact R3.out; rfl; exact I3.out; exact hlen.out; intro v4 w4 r4 k4 n4; obtain ⟨lm, hlm⟩ : ∃ lm, lm = l ++ [(x1, x2)] := ⟨_, rfl⟩; rw [← hlm] at r4; obtain ⟨g4, cap4, e4, q4⟩ := r4.blk (by rw [hlm]; simp); subst e4; have e4 := k4.heap H3.out.cells H3.out.apart; have c4 : w4.cell? ⟨p, o, none⟩ = some v := (cell_of_heap e4 o).trans H3.out.things; have f4 : w4.frozen? ⟨p, o, none⟩ = false := frozen_of_heap e4 o; have HLM := hide hlm; have R4 := hide r4; have K4 := hide k4; have N4 := hide n4; have E4 := hide e4; clear hlm r4 k4 n4 e4)
  all_goals
    have hll : Hid (lm.length = l.length + 1) := by show _ = _; rw [HLM.out]; simp
    have hpg : p ≠ g4 := by
      intro e
      rcases N4.out g4 (by simp [own, Value.ownBlock]) with h | h
      · exact H3.out.apart (e ▸ h)
      · have := (Array.getElem?_eq_some_iff.1 H3.out.cells).1
        simp at h this
        omega
    obtain ⟨w5, hw5⟩ : ∃ w5, w5 = w4.setCell ⟨p, o, none⟩ (.slice (some ⟨g4, 0, none⟩) lm.length cap4) := ⟨_, rfl⟩
    have k5 : Kept [p] w4 w5 := by rw [hw5]; exact (Kept.refl _ _).setCell (.inl (by simp)) _
    have r5 : RowR w5 (.slice (some ⟨g4, 0, none⟩) lm.length cap4) lm := R4.out.kept k5 (by simp [own, Value.ownBlock]; exact fun e => hpg e.symm)
    have e5 : w5.heap[p]? = some (.cells (arr.setIfInBounds o (.slice (some ⟨g4, 0, none⟩) lm.length cap4)) ty (0, 0)) := by rw [hw5]; exact heap_setCell E4.out o _
    have c5 : w5.cell? ⟨p, o, none⟩ = some (.slice (some ⟨g4, 0, none⟩) lm.length cap4) := (cell_of_heap e5 o).trans (set_same9 H3.out.things _)
    have hrise := hide (rise_any r5 (by have := hll.out; omega) (by have := hll.out; omega) (by have e := hll.out; rw [e, HLM.out]; exact Up.start hheap (x1, x2)))
    have E5 := hide e5
    have K5 := hide k5
    clear r5 e5 k5
    subst hw5
    go_wp2_with fail
    refine hrise.out.mono ?_
    rintro e w6 ⟨rfl, l6, r6, h6, p6, k6⟩
    go_wp2
    go_end0
    have hn4 : Newly w (own v) [g4] := fun x hx => by
      simp only [List.mem_singleton] at hx
      subst hx
      rcases N4.out x (by simp [own, Value.ownBlock]) with h | h
      · exact .inl h
      · refine .inr ?_
        have := KW.out.2.size
        simp at h
        omega
    refine ⟨rfl, _, l6, ⟨k6.heap E5.out (by simpa using hpg), set_same9 H3.out.things _, (set_next9 arr o _).trans H3.out.odd, r6, by simp [own, Value.ownBlock]; exact hpg⟩, h6, p6.trans (by rw [HLM.out]), ?_, ?_⟩
    · have k2 : Kept (p :: own v) w w2 := Kept.of_below KW.out.2
      have k3 := k2.trans KW.out.1 (fun _ hx => by simp at hx)
      have k4 := k3.trans (fp' := own v) (b := w2.alloc (.cells #[.int .u64 x1, .int .u64 x2] 52)) (c := w4) ⟨K4.out.os, K4.out.tape, K4.out.output, K4.out.size, K4.out.block⟩ (Newly.of_sub (by intro x hx; simp [hx]))
      have k5 := k4.trans K5.out (Newly.of_sub (by simp))
      refine k5.trans k6 (fun x hx => ?_)
      rcases hn4 x hx with h | h
      · exact .inl (by simp [h])
      · exact .inr h
    · intro x hx
      exact hn4 x (by simpa [own, Value.ownBlock] using hx)

end

end Go.Proofs.YtgpbanjammipiaaGreatDoor
