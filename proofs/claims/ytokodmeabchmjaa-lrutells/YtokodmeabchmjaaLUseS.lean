/-
  Caches with keys of type string: Use, New. A lemma file: no statement of the seat is proved here.
-/
import Derived.Test.YtokodmeabchmjaaLMethS
namespace Go.Proofs.Ytokodmeabchmjaa.S
open Go.RowKit Go.Maps

theorem FirstR.none {es : List (Fr Key)} {least : Int} (h : FirstR es (fun _ => false) least false) : firstA (es.map Fr.ab) = none := by
  rcases h with ⟨_, _, h⟩ | ⟨h, _⟩
  · unfold firstA
    rw [Option.map_eq_none_iff, List.find?_eq_none]
    intro x hx
    obtain ⟨e, he, rfl⟩ := List.mem_map.1 hx
    exact fun hd => h e he rfl (of_decide_eq_true (p := e.ab.2 = 0) hd)
  · cases h

theorem FirstR.some {es : List (Fr Key)} {least : Int} (h : FirstR es (fun _ => false) least true) (hs : (es.map Fr.use).Pairwise (· < ·)) : ∃ ds e rs, es = ds ++ e :: rs ∧ least = e.use ∧ firstA (es.map Fr.ab) = some e.key := by
  rcases h with ⟨h, _⟩ | ⟨_, e, he, _, hz, hl, hm⟩
  · cases h
  · obtain ⟨ds, rs, rfl⟩ := List.append_of_mem he
    refine ⟨ds, e, rs, rfl, hl, ?_⟩
    rw [List.map_append, List.map_cons, List.pairwise_append] at hs
    unfold firstA
    rw [List.map_append, List.map_cons, List.find?_append, List.find?_eq_none.2, List.find?_cons]
    · simp [Fr.ab, hz]
    · intro x hx
      obtain ⟨y, hy, rfl⟩ := List.mem_map.1 hx
      intro hd
      have hz2 : y.pins = 0 := of_decide_eq_true (p := y.ab.2 = 0) hd
      have h1 := hm y (by simp [hy]) rfl hz2
      have h2 := hs.2.2 y.use (List.mem_map.2 ⟨y, hy, rfl⟩) e.use (by simp)
      omega

/-- The key that went, as it is told. -/
def goneV (o : Option Key) : Value := match o with | none => .string ⟨#[]⟩ | some k => kS.enc k

section
variable {w w' : World} {fp : List Nat} {p : Nat} {fr : Int} {N : Nat} {l : List (Key × Nat)}

set_option maxRecDepth 100000 in
set_option maxHeartbeats 4000000 in
theorem use_there {bh bl us : Nat} {ds rs : List (Fr Key)} {e : Fr Key} (c : Cat w p bh bl fr us (ds ++ e :: rs)) (hfew : us + 1 ≤ 1000000) :
    Calls Try.prog 13 #[.pointer (some ⟨p, 0, none⟩), kS.enc e.key] w fun x w' => x = .returned (.tuple #[goneV none, .bool false, .int .i64 0]) ∧ Cat w' p bh bl fr (us + 1) (ds ++ rs ++ [⟨us + 1, e.blk, e.key, e.pins⟩]) ∧ Kept [p, bh, bl] w w' := by
  have hmf := Try.mf
  have hcall : Calls Try.prog 35 #[.pointer (some ⟨p, 0, none⟩), kS.enc e.key, .func (.func 32) #[] #[.pointer (some ⟨w.heap.size, 0, none⟩)]] (w.alloc (.cells #[.pointer (some ⟨p, 0, none⟩)] 24)) fun x w' => x = .returned (.int .i64 0) ∧ Cat w' p bh bl fr (us + 1) (ds ++ rs ++ [⟨us + 1, e.blk, e.key, e.pins⟩]) ∧ Kept [p, bh, bl] w w' := by
    have b0 : Below w.heap.size w (w.alloc (.cells #[.pointer (some ⟨p, 0, none⟩)] 24)) := (Below.refl _ w).alloc (Nat.le_refl _) _
    have hc0 : (w.alloc (.cells #[.pointer (some ⟨p, 0, none⟩)] 24)).cell? ⟨w.heap.size, 0, none⟩ = some (.pointer (some ⟨p, 0, none⟩)) := cell_of_heap (heap_alloc_new w (.cells #[.pointer (some ⟨p, 0, none⟩)] 24)) 0
    have c0 : Cat (w.alloc (.cells #[.pointer (some ⟨p, 0, none⟩)] 24)) p bh bl fr us (ds ++ e :: rs) := c.below b0
    generalize w.alloc (.cells #[.pointer (some ⟨p, 0, none⟩)] 24) = w0 at *
    refine with_some c0 (e := e) (by simp) _ _ eUse _ fun w1 b1 => ?_
    have c1 : Cat w1 p bh bl fr us (ds ++ e :: rs) := CacheAt.below c0 b1
    have hc1 := (Kept.of_below (fp := []) b1).cell hc0 (by simp)
    refine (use1_any c1 hfew w.heap.size hc1 (fun hm => by have := c.lt _ hm; omega) (.pointer (some ⟨e.blk, 0, none⟩))).mono ?_
    rintro x w2 ⟨rfl, c2, k2⟩
    exact ⟨0, rfl, rfl, c2, (Kept.of_below (fp := [p, bh, bl]) (below_then b0 b1)).trans k2 (Newly.refl _ _)⟩
  have HC := hide hcall
  clear hcall c hfew
  generalize e.key = k at *
  go_enter Try.func13, Try.ntmps13
  go_wp2_with (go_at_call 35; refine HC.out.mono ?_; rintro x w1 ⟨rfl, o1⟩; have O1 := hide o1; clear o1)
  go_ret3
  exact ⟨rfl, O1.out⟩

/-- How many keys there are. -/
theorem Cat.held_len {bh bl us : Nat} {es : List (Fr Key)} (c : Cat w p bh bl fr us es) (ty : TypeId) : (Builtin.len_ #[54] ty #[.map (some bh)]).run Try.prog w = .ok (.int .i64 es.length) w := by
  obtain ⟨D, h1, h2⟩ := c.held
  rw [h1.len Try.underlying54 ty, h2.size]

set_option maxRecDepth 100000 in
set_option maxHeartbeats 4000000 in
theorem use_room {bh bl us : Nat} {es : List (Fr Key)} (c : Cat w p bh bl fr us es) (hfew : us + 1 ≤ 1000000) (k : Key) (hok : kS.ok k) (hno : ∀ e ∈ es, e.key ≠ k) (hr : ¬ fr ≤ (es.length : Int)) :
    Calls Try.prog 13 #[.pointer (some ⟨p, 0, none⟩), kS.enc k] w fun x w' => x = .returned (.tuple #[goneV none, .bool false, .int .i64 0]) ∧ ∃ b, w.heap.size ≤ b ∧ Cat w' p bh bl fr (us + 1) (es ++ [⟨us + 1, b, k, 0⟩]) ∧ Kept [p, bh, bl] w w' := by
  have hmf := Try.mf
  have b0 : Below w.heap.size w (w.alloc (.cells #[.pointer (some ⟨p, 0, none⟩)] 24)) := (Below.refl _ w).alloc (Nat.le_refl _) _
  have hc0 : (w.alloc (.cells #[.pointer (some ⟨p, 0, none⟩)] 24)).cell? ⟨w.heap.size, 0, none⟩ = some (.pointer (some ⟨p, 0, none⟩)) := cell_of_heap (heap_alloc_new w (.cells #[.pointer (some ⟨p, 0, none⟩)] 24)) 0
  have c0 : Cat (w.alloc (.cells #[.pointer (some ⟨p, 0, none⟩)] 24)) p bh bl fr us es := c.below b0
  have WN := hide (with_none c0 k hok hno (.func (.func 32) #[] #[.pointer (some ⟨w.heap.size, 0, none⟩)]))
  have C := hide c
  have C0 := hide c0
  have B0 := hide b0
  have HC0 := hide hc0
  have HR := hide (show (fr ≤ (es.length : Int)) = False from eq_false hr)
  have HOK := hide hok
  have HNO := hide hno
  have HF := hide hfew
  clear c c0 b0 hc0 hok hno hfew hr
  go_enter Try.func13, Try.ntmps13
  go_wp2_with (go_at_call 35; refine WN.out.mono ?_; rintro x w1 ⟨rfl, b1⟩; have B1 := hide (below_then B0.out b1); have hc1 := (Kept.of_below (fp := []) b1).cell HC0.out (by simp); have C1 := hide (CacheAt.below C0.out b1); clear b1)
  obtain ⟨d0, d1, d2, d3, df⟩ := Cat.cellAt C1.out
  have LN := hide (fun ty => Cat.held_len (w := w1.drew) (CacheAt.kept (fp := []) C1.out (Kept.refl _ w1).drew (by simp)) ty)
  have hr := HR.out
  generalize (es.length : Int) = L at LN hr
  clear d1 d3 df
  go_region_held_law (fun W => W.cell? ⟨w.heap.size, 0, none⟩ = some (.pointer (some ⟨p, 0, none⟩)) ∧ W.cell? ⟨p, 2, none⟩ = some (.map (some bh)) ∧ W.cell? ⟨p, 0, none⟩ = some (.int .i64 fr)) (go_keep) ((refine step_len rfl (.tmp 20) 54 rfl bh L ?_ LN.out ?_; (simp [Act.eval])))
  all_goals
  go_wp2_with fail
  have k2 : Kept [] w1 (w1.alloc (.cells #[kS.enc k, .int .i64 0] kS.tf)).drew := ((Kept.refl _ w1).alloc _).drew
  have hb2 : (w1.alloc (.cells #[kS.enc k, .int .i64 0] kS.tf)).drew.heap[w1.heap.size]? = some (.cells #[kS.enc k, .int .i64 (0 : Nat)] kS.tf (0, 0)) := heap_alloc_new w1 _
  refine (put_any (CacheAt.kept (fp := []) C1.out k2 (by simp)) HF.out w1.heap.size k 0 hb2 (fun hm => by have := CacheAt.lt C1.out _ hm; omega) HNO.out HOK.out).mono ?_
  rintro x w3 ⟨rfl, c3, k3⟩
  have C3 := hide c3
  have K3 := hide ((Kept.of_below (fp := [p, bh, bl]) B1.out).trans (k2.mono (fp' := [p, bh, bl]) (by simp)) (Newly.refl _ _))
  have K4 := hide k3
  clear c3 k3 k2 hb2
  go_wp2_with fail
  go_ret3
  exact ⟨rfl, _, B1.out.size, C3.out, K3.out.trans K4.out (Newly.refl _ _)⟩

set_option maxRecDepth 100000 in
set_option maxHeartbeats 4000000 in
theorem use_full_no {bh bl us : Nat} {es : List (Fr Key)} (c : Cat w p bh bl fr us es) (k : Key) (hok : kS.ok k) (hno : ∀ e ∈ es, e.key ≠ k) (hr : fr ≤ (es.length : Int)) (hz : firstA (es.map Fr.ab) = none) :
    Calls Try.prog 13 #[.pointer (some ⟨p, 0, none⟩), kS.enc k] w fun x w' => x = .returned (.tuple #[goneV none, .bool false, .int .i64 8]) ∧ Below w.heap.size w w' := by
  have hmf := Try.mf
  have b0 : Below w.heap.size w (w.alloc (.cells #[.pointer (some ⟨p, 0, none⟩)] 24)) := (Below.refl _ w).alloc (Nat.le_refl _) _
  have hc0 : (w.alloc (.cells #[.pointer (some ⟨p, 0, none⟩)] 24)).cell? ⟨w.heap.size, 0, none⟩ = some (.pointer (some ⟨p, 0, none⟩)) := cell_of_heap (heap_alloc_new w (.cells #[.pointer (some ⟨p, 0, none⟩)] 24)) 0
  have c0 : Cat (w.alloc (.cells #[.pointer (some ⟨p, 0, none⟩)] 24)) p bh bl fr us es := c.below b0
  have WN := hide (with_none c0 k hok hno (.func (.func 32) #[] #[.pointer (some ⟨w.heap.size, 0, none⟩)]))
  have C0 := hide c0
  have B0 := hide b0
  have HC0 := hide hc0
  have HR := hide (show (fr ≤ (es.length : Int)) = True from eq_true hr)
  have HZ := hide (And.intro hz c.rise)
  clear c c0 b0 hc0 hok hno hr hz
  go_enter Try.func13, Try.ntmps13
  go_wp2_with (go_at_call 35; refine WN.out.mono ?_; rintro x w1 ⟨rfl, b1⟩; have B1 := hide (below_then B0.out b1); have hc1 := (Kept.of_below (fp := []) b1).cell HC0.out (by simp); have C1 := hide (CacheAt.below C0.out b1); clear b1)
  obtain ⟨d0, d1, d2, d3, df⟩ := Cat.cellAt C1.out
  have LN := hide (fun ty => Cat.held_len (w := w1.drew) (CacheAt.kept (fp := []) C1.out (Kept.refl _ w1).drew (by simp)) ty)
  have hr := HR.out
  generalize (es.length : Int) = L at LN hr
  clear d1 d3 df
  go_region_held_law (fun W => W.cell? ⟨w.heap.size, 0, none⟩ = some (.pointer (some ⟨p, 0, none⟩)) ∧ W.cell? ⟨p, 2, none⟩ = some (.map (some bh)) ∧ W.cell? ⟨p, 0, none⟩ = some (.int .i64 fr)) (go_keep) ((refine step_len rfl (.tmp 20) 54 rfl bh L ?_ LN.out ?_; (simp [Act.eval])))
  all_goals
  go_wp2_with fail
  refine (first_any (CacheAt.kept (fp := []) C1.out (Kept.refl _ w1).drew (by simp))).mono ?_
  rintro x w2 ⟨least, ok, rfl, f2, b2⟩
  obtain rfl : ok = false := by
    cases ok with
    | false => rfl
    | true =>
      obtain ⟨ds, e, rs, _, _, he⟩ := f2.some HZ.out.2
      rw [HZ.out.1] at he
      cases he
  have B2 := hide b2
  clear b2 f2
  go_wp2_with fail
  go_ret3
  exact ⟨rfl, below_then B1.out.drew B2.out⟩

set_option maxRecDepth 100000 in
set_option maxHeartbeats 4000000 in
theorem use_full_go {bh bl us : Nat} {es : List (Fr Key)} (c : Cat w p bh bl fr us es) (hfew : us + 1 ≤ 1000000) (k : Key) (hok : kS.ok k) (hno : ∀ e ∈ es, e.key ≠ k) (hr : fr ≤ (es.length : Int)) (k0 : Key) (hz : firstA (es.map Fr.ab) = some k0) :
    Calls Try.prog 13 #[.pointer (some ⟨p, 0, none⟩), kS.enc k] w fun x w' => x = .returned (.tuple #[kS.enc k0, .bool true, .int .i64 0]) ∧ ∃ ds e rs b, es = ds ++ e :: rs ∧ e.key = k0 ∧ w.heap.size ≤ b ∧ Cat w' p bh bl fr (us + 1) (ds ++ rs ++ [⟨us + 1, b, k, 0⟩]) ∧ Kept [p, bh, bl] w w' := by
  have hmf := Try.mf
  have b0 : Below w.heap.size w (w.alloc (.cells #[.pointer (some ⟨p, 0, none⟩)] 24)) := (Below.refl _ w).alloc (Nat.le_refl _) _
  have hc0 : (w.alloc (.cells #[.pointer (some ⟨p, 0, none⟩)] 24)).cell? ⟨w.heap.size, 0, none⟩ = some (.pointer (some ⟨p, 0, none⟩)) := cell_of_heap (heap_alloc_new w (.cells #[.pointer (some ⟨p, 0, none⟩)] 24)) 0
  have c0 : Cat (w.alloc (.cells #[.pointer (some ⟨p, 0, none⟩)] 24)) p bh bl fr us es := c.below b0
  have WN := hide (with_none c0 k hok hno (.func (.func 32) #[] #[.pointer (some ⟨w.heap.size, 0, none⟩)]))
  have C0 := hide c0
  have B0 := hide b0
  have HC0 := hide hc0
  have HR := hide (show (fr ≤ (es.length : Int)) = True from eq_true hr)
  have HZ := hide (And.intro hz c.rise)
  have HOK := hide hok
  have HNO := hide hno
  have HF := hide hfew
  have HLT := hide c.lt
  clear c c0 b0 hc0 hok hno hr hz hfew
  go_enter Try.func13, Try.ntmps13
  go_wp2_with (go_at_call 35; refine WN.out.mono ?_; rintro x w1 ⟨rfl, b1⟩; have B1 := hide (below_then B0.out b1); have hc1 := (Kept.of_below (fp := []) b1).cell HC0.out (by simp); have C1 := hide (CacheAt.below C0.out b1); clear b1)
  obtain ⟨d0, d1, d2, d3, df⟩ := Cat.cellAt C1.out
  have LN := hide (fun ty => Cat.held_len (w := w1.drew) (CacheAt.kept (fp := []) C1.out (Kept.refl _ w1).drew (by simp)) ty)
  have hr := HR.out
  generalize (es.length : Int) = L at LN hr
  clear d1 d3 df
  go_region_held_law (fun W => W.cell? ⟨w.heap.size, 0, none⟩ = some (.pointer (some ⟨p, 0, none⟩)) ∧ W.cell? ⟨p, 2, none⟩ = some (.map (some bh)) ∧ W.cell? ⟨p, 0, none⟩ = some (.int .i64 fr)) (go_keep) ((refine step_len rfl (.tmp 20) 54 rfl bh L ?_ LN.out ?_; (simp [Act.eval])))
  all_goals
  go_wp2_with fail
  refine (first_any (CacheAt.kept (fp := []) C1.out (Kept.refl _ w1).drew (by simp))).mono ?_
  rintro x w2 ⟨least, ok, rfl, f2, b2⟩
  obtain rfl : ok = true := by
    cases ok with
    | true => rfl
    | false =>
      have he := f2.none
      rw [HZ.out.1] at he
      cases he
  obtain ⟨ds, e, rs, hes, rfl, he⟩ := f2.some HZ.out.2
  have hk0 : e.key = k0 := Option.some.inj (he.symm.trans HZ.out.1)
  have C2 := hide (CacheAt.below (CacheAt.kept (fp := []) C1.out (Kept.refl _ w1).drew (by simp)) b2)
  have hc2 := (Kept.of_below (fp := []) b2).cell (w := w1.drew) hc1 (by simp)
  have B2 := hide (below_then B1.out.drew b2)
  have HE := hide hes
  have HK0 := hide hk0
  subst hes
  have T := hide (take_any C2.out)
  have F2 := hide (Cat.frameAt C2.out (e := e) (by simp)).1
  rw [hk0] at F2
  have NE := hide (CacheAt.ne C2.out)
  obtain ⟨u, hu⟩ : ∃ u, u = e.use := ⟨_, rfl⟩
  rw [← hu] at T ⊢
  obtain ⟨q, hq⟩ : ∃ q, q = e.blk := ⟨_, rfl⟩
  rw [← hq] at T F2
  have HQ := hide hq
  clear hu hq hk0 he f2 b2 hc1 d0 d2 hr LN
  go_wp2_with fail
  refine T.out.mono ?_
  rintro x w3 ⟨rfl, c3, k3, n3⟩
  have f3 := k3.cell F2.out (by have := NE.out.2.2.2 e (by simp); rw [HQ.out]; simp [this.2.1, this.2.2])
  have hc3 := k3.cell hc2 (by have h1 := HLT.out bh (by simp [feet]); have h2 := HLT.out bl (by simp [feet]); simp; omega)
  have C3 := hide c3
  have K3 := hide ((Kept.of_below (fp := [p, bh, bl]) B2.out).trans k3 (Newly.of_sub (by simp)))
  clear c3 k3 n3 hc2
  go_wp2_with fail
  have k4 : Kept [] w3 (w3.alloc (.cells #[kS.enc k, .int .i64 0] kS.tf)) := (Kept.refl _ w3).alloc _
  have hb4 : (w3.alloc (.cells #[kS.enc k, .int .i64 0] kS.tf)).heap[w3.heap.size]? = some (.cells #[kS.enc k, .int .i64 (0 : Nat)] kS.tf (0, 0)) := heap_alloc_new w3 _
  refine (put_any (CacheAt.kept (fp := []) C3.out k4 (by simp)) HF.out w3.heap.size k 0 hb4 (fun hm => by have := CacheAt.lt C3.out _ hm; omega) (fun x hx => HNO.out x (by
    rcases List.mem_append.1 hx with hx | hx
    · simp [hx]
    · simp [hx])) HOK.out).mono ?_
  rintro x w5 ⟨rfl, c5, k5⟩
  have C5 := hide c5
  have K5 := hide (K3.out.trans (k4.mono (fp' := [p, bh, bl]) (by simp)) (Newly.refl _ _))
  have K6 := hide k5
  clear c5 k5 k4 hb4 f3 hc3
  go_wp2_with fail
  go_ret3
  exact ⟨rfl, ds, e, rs, _, rfl, HK0.out, K3.out.size, C5.out, K5.out.trans K6.out (Newly.refl _ _)⟩

/-- Use. -/
theorem use_any (h : Ck kS w fp p fr N l) (hN : N + 1 ≤ 1000000) (k : Key) (hok : kS.ok k) :
    Calls Try.prog 13 #[.pointer (some ⟨p, 0, none⟩), kS.enc k] w fun x w' => x = .returned (.tuple #[goneV (useA fr l k).1, .bool (useA fr l k).1.isSome, .int .i64 (useA fr l k).2.1]) ∧ Outc kS w w' fp p fr (N + 1) (useA fr l k).2.2 := by
  obtain ⟨bh, bl, us, es, c, hus, rfl, rfl⟩ := h
  unfold useA
  have hsub : ∀ {es : List (Fr Key)} x, x ∈ [p, bh, bl] → x ∈ feet p bh bl es := fun x hx => by
    simp only [List.mem_cons, List.not_mem_nil, or_false] at hx
    simp only [feet, List.mem_cons]
    rcases hx with h | h | h
    · exact .inl h
    · exact .inr (.inl h)
    · exact .inr (.inr (.inl h))
  cases hl : lookA (es.map Fr.ab) k with
  | some n =>
    obtain ⟨ds, e, rs, rfl, rfl, rfl⟩ := lookA_some hl
    refine (use_there c (by omega)).mono ?_
    rintro x w' ⟨rfl, c1, k1⟩
    refine ⟨rfl, _, ⟨bh, bl, _, _, c1, by omega, rfl, ?_⟩, k1.mono hsub, Newly.of_sub ?_⟩
    · rw [delA_ab c.keys]
      simp [Fr.ab]
    · intro x hx
      simp only [feet, List.map_append, List.map_cons, List.map_nil, List.mem_cons, List.mem_append, List.not_mem_nil, or_false] at hx ⊢
      rcases hx with h | h | h | (h | h) | h
      · exact .inl h
      · exact .inr (.inl h)
      · exact .inr (.inr (.inl h))
      · exact .inr (.inr (.inr (.inl h)))
      · exact .inr (.inr (.inr (.inr (.inr h))))
      · exact .inr (.inr (.inr (.inr (.inl h))))
  | none =>
    have hno := lookA_none hl
    simp only [List.length_map]
    by_cases hr : fr ≤ (es.length : Int)
    · rw [if_pos hr]
      cases hf : firstA (es.map Fr.ab) with
      | none =>
        refine (use_full_no c k hok hno hr hf).mono ?_
        rintro x w' ⟨rfl, b1⟩
        exact ⟨rfl, (Ck.same ⟨bh, bl, us, es, c, hus, rfl, rfl⟩ b1).mono (Nat.le_succ _)⟩
      | some k0 =>
        refine (use_full_go c (by omega) k hok hno hr k0 hf).mono ?_
        rintro x w' ⟨rfl, ds, e, rs, b, rfl, rfl, hb, c1, k1⟩
        refine ⟨rfl, _, ⟨bh, bl, _, _, c1, by omega, rfl, ?_⟩, k1.mono hsub, ?_⟩
        · show delA _ e.key ++ [(k, 0)] = _
          rw [delA_ab c.keys]
          simp [Fr.ab]
        · intro x hx
          simp only [feet, List.map_append, List.map_cons, List.map_nil, List.mem_cons, List.mem_append, List.not_mem_nil, or_false] at hx ⊢
          rcases hx with h | h | h | (h | h) | h
          · exact .inl (.inl h)
          · exact .inl (.inr (.inl h))
          · exact .inl (.inr (.inr (.inl h)))
          · exact .inl (.inr (.inr (.inr (.inl h))))
          · exact .inl (.inr (.inr (.inr (.inr (.inr h)))))
          · exact .inr (by omega)
    · rw [if_neg hr]
      refine (use_room c (by omega) k hok hno hr).mono ?_
      rintro x w' ⟨rfl, b, hb, c1, k1⟩
      refine ⟨rfl, _, ⟨bh, bl, _, _, c1, by omega, rfl, ?_⟩, k1.mono hsub, ?_⟩
      · simp [Fr.ab]
      · intro x hx
        simp only [feet, List.map_append, List.map_cons, List.map_nil, List.mem_cons, List.mem_append, List.not_mem_nil, or_false] at hx ⊢
        rcases hx with h | h | h | h | h
        · exact .inl (.inl h)
        · exact .inl (.inr (.inl h))
        · exact .inl (.inr (.inr (.inl h)))
        · exact .inl (.inr (.inr (.inr h)))
        · exact .inr (by omega)

set_option maxRecDepth 100000 in
set_option maxHeartbeats 4000000 in
/-- New. -/
theorem new_any (n : Int) (w : World) :
    Calls Try.prog 11 #[.int .i64 n] w fun x w' => ∃ p fp, x = .returned (.pointer (some ⟨p, 0, none⟩)) ∧ Ck kS w' fp p (max n 1) 0 [] ∧ Below w.heap.size w w' ∧ ∀ x ∈ fp, w.heap.size ≤ x := by
  have hmm := @run_makeMap Try.prog
  have hmax : ∀ (ts : Array TypeId) (t : TypeId) (W : World), (Builtin.max_ ts t #[.int .i64 n, .int .i64 1]).run Try.prog W = .ok (.int .i64 (max n 1)) W := by
    intro ts t W
    rw [run_max_int2]
    congr 2
    split <;> omega
  generalize max n 1 = m at *
  go_enter Try.func11, Try.ntmps11
  go_wp2
  go_ret
  clear hmm hmax
  have e1 : (w.alloc (.map #[] 0)).heap.size = w.heap.size + 1 := by simp
  have e2 : ((w.alloc (.map #[] 0)).alloc (.map #[] 0)).heap.size = w.heap.size + 2 := by simp
  refine ⟨w.heap.size + 2, feet (w.heap.size + 2) w.heap.size (w.heap.size + 1) ([] : List (Fr Key)), by simp, ⟨w.heap.size, w.heap.size + 1, 0, [], ⟨?_, ⟨.map [], ?_, MapIs.empty⟩, ⟨.map [], ?_, MapIs.empty⟩, by simp, by simp [feet], List.Pairwise.nil, by simp, by simp, by simp, by omega, by simp⟩, by omega, rfl, rfl⟩, ?_, ?_⟩
  · have e := heap_alloc_new ((w.alloc (.map #[] 0)).alloc (.map #[] 0)) (.cells #[.int .i64 m, .int .u64 (0 : Nat), .map (some w.heap.size), .map (some (w.heap.size + 1))] kS.tc)
    rw [e2] at e
    exact e
  · exact ((World.ownsMap_made w Try.prog 56 ptrE).alloc _).alloc _
  · have e := (World.ownsMap_made (w.alloc (.map #[] 0)) Try.prog kS.tk uElem).alloc (.cells #[.int .i64 m, .int .u64 (0 : Nat), .map (some w.heap.size), .map (some (w.heap.size + 1))] kS.tc)
    rw [e1] at e
    exact e
  · exact (((Below.refl _ w).alloc (Nat.le_refl _) _).alloc (by simp) _).alloc (by simp; omega) _
  · intro x hx
    simp [feet] at hx
    omega

end
end Go.Proofs.Ytokodmeabchmjaa.S
