/-
  Caches with keys of type string: Keys. A lemma file: no statement of the seat is proved here.
-/
import Derived.Test.YtokodmeabchmjaaLUseS
import Derived.Test.YtokodmeabchmjaaLSorted
namespace Go.Proofs.Ytokodmeabchmjaa.S
open Go.RowKit Go.Maps

theorem eKeys : ∀ args w, (callFunc 58 args).run Try.prog w = .ok (.enter 58 args) w := enters_of Try.func58 (by kernel_rfl) rfl

theorem Try.infoK : (Try.prog.info? kS.tk).map (fun i => (i.zero, i.size, i.bytes)) = some (some (.string ⟨#[]⟩), 1, 16) := by kernel_rfl

section
variable {ops : Array Oper} {rest : List Oper} {o : Oper} {a : Act} {Q : Exit → Act → World → Prop}

/-- 'keys = append(keys, k)', keys of the call's own: k has just been laid in a new block. -/
theorem wp_pushK (w : World) (hgd : o.guard = none) (s x : Operand) (ho : o.op = .call { callee := .builtin .append, args := #[s, x], argTypes := #[35, 35] })
    (B : Nat) (v : Value) (n : Nat) (xs : List Value) (z : Key) (hs : a.eval s = v) (hown : w.ownsRow B kS.tk 1 v n xs) (hx : a.eval x = .slice (some ⟨w.heap.size, 0, none⟩) 1 1) (hlen : n + 1 ≤ 1000000) (hB : B ≤ w.heap.size)
    (h : ∀ g cap w', w'.ownsRow B kS.tk 1 (.slice (some ⟨g, 0, none⟩) (n + 1) cap) (n + 1) (xs ++ [kS.enc z]) → Below B w w' → wpList Try.prog ops Q rest (a.put o.dst (.slice (some ⟨g, 0, none⟩) (n + 1) cap)) w') :
    wpList Try.prog ops Q (o :: rest) a (w.alloc (.cells #[kS.enc z] kS.tk)) := by
  obtain ⟨i0, hi, hz0, hz1, hz2⟩ := info_parts Try.infoK
  refine wpList_append_own _ hgd s x 35 ho B kS.tk i0 _ 1 _ Try.underlying35 hi hz0 hz1 hz2 rfl (by decide) _ n _ hs (hown.alloc _) ⟨w.heap.size, 0, none⟩ 1 1 [kS.enc z] hx rfl (cell_one_new _ _ _) (by simp [Value.oneCell']) (by unfold maxLen; omega) (by omega) (by simp; omega) ?_
  intro v' w' hown' hgrow _
  obtain ⟨g', cap', cur', rfl, _⟩ := ownsRow_form hown' (Nat.succ_pos _)
  exact h g' cap' w' hown' (((Below.refl _ _).alloc hB _).grown hgrow (by simp; omega) (fun k hk => (hown.lt k hk).1))

end

section
variable {w w' : World} {p bh bl : Nat} {fr : Int} {us : Nat}

theorem uses_eq {D : DataW Unit} {es : List (Fr Key)} (hD : HeldIs D es) (hr : (es.map Fr.use).Pairwise (· < ·)) {ss ss' : List Nat} (ha : AllOf D ss') (hp : ss.Perm ss') (hs : ss.Pairwise (· ≤ ·)) : ss = es.map Fr.use := by
  have hnd : (es.map Fr.use).Nodup := hr.imp fun h => Nat.ne_of_lt h
  have hp2 : ss.Perm (es.map Fr.use) := by
    refine hp.trans ((List.perm_ext_iff_of_nodup ha.1 hnd).2 fun x => ?_)
    rw [ha.2 x, hD.has x, List.mem_map]
    constructor
    · intro h
      obtain ⟨e, he⟩ := Option.isSome_iff_exists.1 h
      exact ⟨e, (find_some he).1, (find_some he).2⟩
    · rintro ⟨e, he, rfl⟩
      obtain ⟨ds, rs, rfl⟩ := List.append_of_mem he
      rw [find_at hnd]
      rfl
  refine List.Perm.eq_of_pairwise (le := fun a b => a ≤ b) (fun a b _ _ h1 h2 => Nat.le_antisymm h1 h2) hs (hr.imp fun h => Nat.le_of_lt h) hp2

set_option maxRecDepth 100000 in
set_option maxHeartbeats 4000000 in
theorem sortedKeys_any {m : Nat} (hm : SortsTo m) (hm2 : m ≤ 1000000) {es : List (Fr Key)} (h : Cat w p bh bl fr us es) (hl : es.length ≤ m) :
    Calls Try.prog 42 #[.func (.func 58) #[] #[.pointer (some ⟨w.heap.size, 0, none⟩)]] (w.alloc (.cells #[.map (some bh)] 54)) fun e w' => ∃ v, e = .returned v ∧ IsU w' w.heap.size v (es.map Fr.use) ∧ Below w.heap.size w w' := by
  obtain ⟨D, hown, hD⟩ := h.held
  have b0 : Below w.heap.size w (w.alloc (.cells #[.map (some bh)] 54)) := (Below.refl _ w).alloc (Nat.le_refl _) _
  have hc0 : (w.alloc (.cells #[.map (some bh)] 54)).cell? ⟨w.heap.size, 0, none⟩ = some (.map (some bh)) := cell_of_heap (heap_alloc_new w (.cells #[.map (some bh)] 54)) 0
  have hs0 : w.heap.size < (w.alloc (.cells #[.map (some bh)] 54)).heap.size := by simp
  have ow0 := hown.alloc (.cells #[.map (some bh)] 54)
  generalize w.alloc (.cells #[.map (some bh)] 54) = w0 at *
  have hlen : ∀ ss, AllOf D ss → ss.length ≤ Maps.size D := fun ss ha => by
    have := uses_eq hD h.rise (ss := ss.mergeSort (fun a b => decide (a ≤ b))) ha (List.mergeSort_perm _ _) ((List.pairwise_mergeSort (le := fun a b => decide (a ≤ b)) (fun a b c h1 h2 => by simp only [decide_eq_true_eq] at *; omega) (fun a b => by simp only [Bool.or_eq_true, decide_eq_true_eq]; omega) ss).imp (fun h => by simpa using h))
    rw [hD.size, ← List.length_map (f := Fr.use), ← this]
    simp
  refine (sorted_any hm hm2 _ _ eKeys (AllOf D) (Maps.size D) (by rw [hD.size]; exact hl) (fun ss ha => ⟨hlen ss ha, ha.1⟩) w0 (keys_stops Fence.wide 3 trivial rfl (by omega) w.heap.size bh es.length D w0 hs0 hc0 ow0)).mono ?_
  rintro e w2 ⟨v, ss, ss', rfl, ha, hp, hs, hu, hb⟩
  have e1 := uses_eq hD h.rise ha hp hs
  subst e1
  refine ⟨v, rfl, ?_, below_then b0 hb⟩
  rcases hu with hu | ⟨g, cap, h1, h2, h3⟩
  · exact .inl hu
  · exact .inr ⟨g, cap, h1, by omega, h3⟩

set_option maxRecDepth 100000 in
set_option maxHeartbeats 4000000 in
/-- Keys. -/
theorem keys_cat {m : Nat} (hm : SortsTo m) (hm2 : m ≤ 1000000) {es : List (Fr Key)} (h : Cat w p bh bl fr us es) (hl : es.length ≤ m) :
    Calls Try.prog 22 #[.pointer (some ⟨p, 0, none⟩)] w fun e w' => ∃ v, e = .returned v ∧ w'.ownsRow w.heap.size kS.tk 1 v es.length (es.map fun e => kS.enc e.key) ∧ Below w.heap.size w w' := by
  obtain ⟨i0, hi, hz0, hz1, hz2⟩ := info_parts Try.infoK
  obtain ⟨_, _, c2, _, _⟩ := h.cellAt
  have KI := hide (fun W => callsIn_wide.1 (keys_in Fence.wide 5 trivial rfl bh W))
  have SK := hide (sortedKeys_any hm hm2 h hl)
  have HH := hide h
  clear h
  go_enter Try.func22, Try.ntmps22
  go_wp2_with (first | (go_at_call 43; refine (KI.out _).mono ?_; rintro e w0 ⟨rfl, rfl⟩) | (go_at_call 42; refine SK.out.mono ?_; rintro e w1 ⟨v, rfl, u1, b1⟩; obtain ⟨va, vc, hv⟩ := u1.form; subst hv; have U1 := hide u1; have B1 := hide b1; clear u1 b1))
  have C1 := hide (CacheAt.below HH.out B1.out)
  go_loopw [3, 13] (fun v3 v13 wr => ∃ i : Nat, v13 = .int .i64 i ∧ i ≤ es.length ∧ Hid (wr.ownsRow w1.heap.size kS.tk 1 v3 i ((es.take i).map fun e => kS.enc e.key)) ∧ Hid (Below w1.heap.size w1 wr)) (fun _ v13 _ => es.length - numOf v13)
  case atStart => exact ⟨0, rfl, Nat.zero_le _, World.ownsRow_nil _ _ _ _, Below.refl _ _⟩
  case round =>
    obtain ⟨i, rfl, hi2, HO, HB⟩ := hrel
    by_cases hlt : i < es.length
    · have hlt2 : (i : Int) < (es.length : Int) := by omega
      obtain ⟨e, he⟩ : ∃ e, e = es[i] := ⟨_, rfl⟩
      have hmem : e ∈ es := by rw [he]; exact List.getElem_mem _
      have C2 := hide (CacheAt.below C1.out HB.out)
      obtain ⟨g, rfl, hg1, hg2, hg3⟩ := U1.out.at_ (i := i) (by simpa using hlt)
      have hc := (Kept.of_below (fp := []) HB.out).cell hg3 (by simp)
      have hus : (es.map Fr.use)[i]'(by simpa using hlt) = e.use := by rw [he]; simp
      rw [hus] at hc
      have d2 := (Cat.cellAt C2.out).2.2.1
      have LK := Cat.held_at C2.out hmem
      have f0 := (Cat.frameAt C2.out hmem).1
      have ht : (es.take (i + 1)).map (fun e => kS.enc e.key) = (es.take i).map (fun e => kS.enc e.key) ++ [kS.enc e.key] := by
        rw [List.take_succ_eq_append_getElem hlt, List.map_append, he]
        rfl
      have HT := hide ht
      have hlm : i + 1 ≤ 1000000 := by omega
      have HBS := hide HB.out.size
      obtain ⟨u, hu⟩ : ∃ u, u = e.use := ⟨_, rfl⟩
      obtain ⟨q, hq⟩ : ∃ q, q = e.blk := ⟨_, rfl⟩
      obtain ⟨ky, hky⟩ : ∃ ky, ky = e.key := ⟨_, rfl⟩
      rw [← hu] at hc LK
      rw [← hq] at LK f0
      rw [← hky] at f0 HT
      clear hu hq hky hus hmem he hg3 ht
      go_wp2_with (at_builtin; refine wp_pushK _ rfl _ _ rfl w1.heap.size u3 i _ ky rfl HO.out rfl hlm HBS.out ?_; intro g2 cap2 w2 o2 b2; have O2 := hide o2; have B2 := hide b2; clear o2 b2)
      go_roundw
      case rel => exact ⟨i + 1, by go_num, by omega, HT.out ▸ O2.out, HB.out.trans B2.out⟩
      case measure => simp [numOf]; omega
    · obtain rfl : i = es.length := by omega
      have hlt2 : ¬ (es.length : Int) < (es.length : Int) := by omega
      go_wp2
      go_ret
      have o := HO.out
      rw [List.take_length] at o
      exact ⟨_, rfl, ⟨o.1, o.2.imp id (fun ⟨g, cap, cur, h1, h2, h3⟩ => ⟨g, cap, cur, h1, Nat.le_trans B1.out.size h2, h3⟩)⟩, below_then B1.out HB.out⟩

/-- Keys, by what is told of a cache. -/
theorem keys_any {fp : List Nat} {N m : Nat} {l : List (Key × Nat)} (hm : SortsTo m) (hm2 : m ≤ 1000000) (h : Ck kS w fp p fr N l) (hl : l.length ≤ m) :
    Calls Try.prog 22 #[.pointer (some ⟨p, 0, none⟩)] w fun e w' => ∃ v, e = .returned v ∧ w'.ownsRow w.heap.size kS.tk 1 v l.length (l.map fun x => kS.enc x.1) ∧ Below w.heap.size w w' := by
  obtain ⟨bh, bl, us, es, c, hN, rfl, rfl⟩ := h
  rw [List.length_map] at hl
  refine (keys_cat hm hm2 c hl).mono ?_
  rintro e w' ⟨v, rfl, o, b⟩
  refine ⟨v, rfl, ?_, b⟩
  rw [List.length_map, List.map_map]
  exact o

end
end Go.Proofs.Ytokodmeabchmjaa.S
