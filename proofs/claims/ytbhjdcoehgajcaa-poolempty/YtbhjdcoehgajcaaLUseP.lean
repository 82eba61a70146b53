/-
  Caches with keys of type cartage/pool.place: Use, New. A lemma file: no statement of the seat is proved here.
-/
import Derived.Test.YtbhjdcoehgajcaaLMethP
namespace Go.Proofs.Ytbhjdcoehgajcaa.L.P
open Go.RowKit Go.Maps

theorem FirstR.none {es : List (Fr Key)} {least : Int} (h : FirstR es (fun _ => false) least false) : firstA (es.map Fr.ab) = none := by
  rcases h with ⟨_, _, h⟩ | ⟨h, _⟩
  · unfold firstA
    rw [Option.map_eq_none_iff, List.find?_eq_none]
    intro x hx
    obtain ⟨e, he, rfl⟩ := List.mem_map.1 hx
    exact fun hd => h e he rfl (of_decide_eq_true (p := e.ab.2 = 0) hd)
  · cases h

theorem FirstR.some {es : List (Fr Key)} {least : Int} (h : FirstR es (fun _ => false) least true) (hs : (es.map Fr.use).Pairwise (· < ·)) : ∃ ds e rs, es = ds ++ e :: rs ∧ least = e.use ∧ firstA (es.map Fr.ab) = some e.key := by
  rcases h with ⟨h, _⟩ | ⟨_, e, he, _, hz, hl, hm⟩
  · cases h
  · obtain ⟨ds, rs, rfl⟩ := List.append_of_mem he
    refine ⟨ds, e, rs, rfl, hl, ?_⟩
    rw [List.map_append, List.map_cons, List.pairwise_append] at hs
    unfold firstA
    rw [List.map_append, List.map_cons, List.find?_append, List.find?_eq_none.2, List.find?_cons]
    · simp [Fr.ab, hz]
    · intro x hx
      obtain ⟨y, hy, rfl⟩ := List.mem_map.1 hx
      intro hd
      have hz2 : y.pins = 0 := of_decide_eq_true (p := y.ab.2 = 0) hd
      have h1 := hm y (by simp [hy]) rfl hz2
      have h2 := hs.2.2 y.use (List.mem_map.2 ⟨y, hy, rfl⟩) e.use (by simp)
      omega

/-- The key that went, as it is told. -/
def goneV (o : Option Key) : Value := match o with | none => .agg #[.string ⟨#[]⟩, .int .i64 0] | some k => kP.enc k

/-- What Use hands out. -/
theorem useRes (tmps : Array Value) (w : World) (b : Nat) (s : ByteArray) (n : Int) (h4 : tmps.getD 4 undef = .pointer (some ⟨b, 0, none⟩)) (hb : w.heap[b]? = some (.cells #[.string s, .int .i64 n] 54 (0, 0))) :
    (results Try.f70 tmps).run Try.prog w = .ok (.tuple #[.agg #[.string s, .int .i64 n], tmps.getD 5 undef, tmps.getD 6 undef]) w := by
  have g0 := cell_of_heap hb 0
  have g1 := cell_of_heap hb 1
  simp at g0 g1
  have h4' : tmps[4]?.getD undef = .pointer (some ⟨b, 0, none⟩) := by simpa using h4
  simp [results, Try.results70, go_sem, h4', g0, g1]

theorem feet_turn {ds rs : List (Fr Key)} {e : Fr Key} {p bh bl u n : Nat} {k : Key} : ∀ x ∈ feet p bh bl (ds ++ rs ++ [⟨u, e.blk, k, n⟩]), x ∈ feet p bh bl (ds ++ e :: rs) := by
  intro x hx
  simp only [feet, List.map_append, List.map_cons, List.map_nil, List.mem_cons, List.mem_append, List.not_mem_nil, or_false] at hx ⊢
  rcases hx with h | h | h | (h | h) | h
  · exact .inl h
  · exact .inr (.inl h)
  · exact .inr (.inr (.inl h))
  · exact .inr (.inr (.inr (.inl h)))
  · exact .inr (.inr (.inr (.inr (.inr h))))
  · exact .inr (.inr (.inr (.inr (.inl h))))

/-- The boxes of Use: a pointer to the cache, the key, what has to go. -/
@[reducible] def boxes3 (w : World) (p : Nat) (k : Place) : World := (boxes w p k).alloc (.cells #[.string ⟨#[]⟩, .int .i64 0] 54)
theorem boxes3_at (w : World) (p : Nat) (k : Place) : (boxes3 w p k).cell? ⟨w.heap.size, 0, none⟩ = some (.pointer (some ⟨p, 0, none⟩)) ∧ (boxes3 w p k).cell? ⟨w.heap.size + 1, 0, none⟩ = some (.string k.1.1) ∧ (boxes3 w p k).cell? ⟨w.heap.size + 1, 1, none⟩ = some (.int .i64 k.1.2) ∧
    (boxes3 w p k).heap[w.heap.size + 1 + 1]? = some (.cells #[.string ⟨#[]⟩, .int .i64 0] 54 (0, 0)) ∧ Below w.heap.size w (boxes3 w p k) := by
  obtain ⟨h0, h1, h2, h3⟩ := boxes_at w p k
  have e : (boxes w p k).heap.size = w.heap.size + 2 := by simp
  have b := heap_alloc_new (boxes w p k) (.cells #[.string ⟨#[]⟩, .int .i64 0] 54)
  rw [e] at b
  have K : Kept [] (boxes w p k) (boxes3 w p k) := (Kept.refl [] _).alloc _
  exact ⟨K.cell h0 (by simp), K.cell h1 (by simp), K.cell h2 (by simp), b, h3.alloc (by rw [e]; omega) _⟩

section
variable {w w' : World} {fp : List Nat} {p : Nat} {fr : Int} {N : Nat} {l : List (Key × Nat)}

set_option maxRecDepth 100000 in
set_option maxHeartbeats 4000000 in
theorem use_there {bh bl us : Nat} {ds rs : List (Fr Key)} {e : Fr Key} (c : Cat w p bh bl fr us (ds ++ e :: rs)) (hfew : us + 1 ≤ 1000000) (k : Place) (hek : e.key = k) :
    Calls Try.prog 70 #[.pointer (some ⟨p, 0, none⟩), kP.enc k] w fun x w' => x = .returned (.tuple #[goneV none, .bool false, .int .i64 0]) ∧ Cat w' p bh bl fr (us + 1) (ds ++ rs ++ [⟨us + 1, e.blk, e.key, e.pins⟩]) ∧ Kept [p, bh, bl] w w' := by
  have hmf := Try.mf
  have hcall : Calls Try.prog 49 #[.pointer (some ⟨p, 0, none⟩), kP.enc k, .func (.func 85) #[] #[.pointer (some ⟨w.heap.size, 0, none⟩)]] (boxes3 w p k) fun x w' => x = .returned (.int .i64 0) ∧ (Cat w' p bh bl fr (us + 1) (ds ++ rs ++ [⟨us + 1, e.blk, e.key, e.pins⟩]) ∧ Kept [p, bh, bl] w w') ∧ w'.heap[w.heap.size + 1 + 1]? = some (.cells #[.string ⟨#[]⟩, .int .i64 0] 54 (0, 0)) := by
    have b0 : Below w.heap.size w (boxes3 w p k) := (boxes3_at w p k).2.2.2.2
    obtain ⟨hc0, hc1, hc2, hc3, _⟩ := boxes3_at w p k
    have lts := c.lt
    have c0 : Cat (boxes3 w p k) p bh bl fr us (ds ++ e :: rs) := c.below b0
    generalize boxes3 w p k = w0 at *
    subst hek
    refine with_some c0 (e := e) (by simp) _ _ eUse _ fun w1 b1 => ?_
    have c1 : Cat w1 p bh bl fr us (ds ++ e :: rs) := CacheAt.below c0 b1
    have hd1 := (Kept.of_below (fp := []) b1).cell hc0 (by simp)
    refine (use1_any c1 hfew w.heap.size hd1 (fun hm => by have := c.lt _ hm; omega) (.pointer (some ⟨e.blk, 0, none⟩))).mono ?_
    rintro x w2 ⟨rfl, c2, k2⟩
    have n2 : w.heap.size + 2 ∉ [p, bh, bl] := fun hm => by have := lts (w.heap.size + 2) (by simp only [List.mem_cons, List.not_mem_nil, or_false] at hm; simp only [feet, List.mem_cons]; rcases hm with h | h | h; exact .inl h; exact .inr (.inl h); exact .inr (.inr (.inl h))); omega
    exact ⟨0, rfl, rfl, ⟨c2, (Kept.of_below (fp := [p, bh, bl]) (below_then b0 b1)).trans k2 (Newly.refl _ _)⟩, k2.heap ((Kept.of_below (fp := []) b1).heap hc3 (by simp)) n2⟩
  have HC := hide hcall
  have LT := hide c.lt
  clear hcall c hfew
  go_enter Try.func70, Try.ntmps70
  go_wp2_with (go_at_call 49; refine HC.out.mono ?_; rintro x w1 ⟨rfl, o1, gb⟩; have g0 := cell_of_heap gb 0; have g1 := cell_of_heap gb 1; simp at g0 g1; have z0 := frozen_of_heap gb 0; have z1 := frozen_of_heap gb 1; have GB := hide gb; have O1 := hide o1; clear o1 gb)
  have hb := heap_setCell (heap_setCell GB.out 0 (.string ⟨#[]⟩)) 1 (.int .i64 0)
  refine bodyPost_ret (useRes _ _ (w.heap.size + 1 + 1) ⟨#[]⟩ 0 rfl (by simpa using hb)) rfl ?_
  refine ⟨rfl, ?_⟩
  have kb : Kept [w.heap.size + 1 + 1] w1 ((w1.setCell ⟨w.heap.size + 1 + 1, 0, none⟩ (.string ⟨#[]⟩)).setCell ⟨w.heap.size + 1 + 1, 1, none⟩ (.int .i64 0)) := ((Kept.refl _ w1).setCell (p := ⟨w.heap.size + 1 + 1, 0, none⟩) (.inl (by simp)) _).setCell (p := ⟨w.heap.size + 1 + 1, 1, none⟩) (.inl (by simp)) _
  exact ⟨CacheAt.kept O1.out.1 kb (fun x hx q => by have := LT.out x (feet_turn x hx); simp at q; omega), O1.out.2.trans kb (fun x hx => .inr (by simp at hx; omega))⟩

/-- How many keys there are. -/
theorem Cat.held_len {bh bl us : Nat} {es : List (Fr Key)} (c : Cat w p bh bl fr us es) (ty : TypeId) : (Builtin.len_ #[89] ty #[.map (some bh)]).run Try.prog w = .ok (.int .i64 es.length) w := by
  obtain ⟨D, h1, h2⟩ := c.held
  rw [h1.len Try.underlying89 ty, h2.size]

theorem box_ne {w : World} {p bh bl : Nat} {fr : Int} {us : Nat} {es : List (Fr Key)} (c : Cat w p bh bl fr us es) : w.heap.size + 1 + 1 ∉ [p, bh, bl] := fun hm => by
  have := c.lt (w.heap.size + 1 + 1) (by simp only [List.mem_cons, List.not_mem_nil, or_false] at hm; simp only [feet, List.mem_cons]; rcases hm with h | h | h; exact .inl h; exact .inr (.inl h); exact .inr (.inr (.inl h)))
  omega

set_option maxRecDepth 100000 in
set_option maxHeartbeats 4000000 in
theorem use_room {bh bl us : Nat} {es : List (Fr Key)} (c : Cat w p bh bl fr us es) (hfew : us + 1 ≤ 1000000) (k : Key) (hok : kP.ok k) (hno : ∀ e ∈ es, e.key ≠ k) (hr : ¬ fr ≤ (es.length : Int)) :
    Calls Try.prog 70 #[.pointer (some ⟨p, 0, none⟩), kP.enc k] w fun x w' => x = .returned (.tuple #[goneV none, .bool false, .int .i64 0]) ∧ ∃ b, w.heap.size ≤ b ∧ Cat w' p bh bl fr (us + 1) (es ++ [⟨us + 1, b, k, 0⟩]) ∧ Kept [p, bh, bl] w w' := by
  have hmf := Try.mf
  have b0 : Below w.heap.size w (boxes3 w p k) := (boxes3_at w p k).2.2.2.2
  obtain ⟨hc0, hc1, hc2, hc3, _⟩ := boxes3_at w p k
  have c0 : Cat (boxes3 w p k) p bh bl fr us es := c.below b0
  have WN := hide (with_none c0 k hok hno (.func (.func 85) #[] #[.pointer (some ⟨w.heap.size, 0, none⟩)]))
  have C0 := hide c0
  have B0 := hide b0
  have HC0 := hide (And.intro hc0 (And.intro hc1 (And.intro hc2 hc3)))
  have HS : Hid ((boxes3 w p k).heap.size = w.heap.size + 1 + 1 + 1) := by show _ = _; simp
  have HR := hide (show (fr ≤ (es.length : Int)) = False from eq_false hr)
  have HOK := hide hok
  have HNO := hide hno
  have HF := hide hfew
  have HBN := hide (box_ne c)
  have HLT := hide c.lt
  clear c c0 b0 hc0 hc1 hc2 hc3 hok hno hfew hr
  go_enter Try.func70, Try.ntmps70
  go_wp2_with (go_at_call 49; refine WN.out.mono ?_; rintro x w1 ⟨rfl, b1⟩; have B1 := hide (below_then B0.out b1); have SZ := hide (Nat.le_trans (Nat.le_of_eq HS.out.symm) b1.size); have hd0 := (Kept.of_below (fp := []) b1).cell HC0.out.1 (by simp); have hd1 := (Kept.of_below (fp := []) b1).cell HC0.out.2.1 (by simp); have hd2 := (Kept.of_below (fp := []) b1).cell HC0.out.2.2.1 (by simp); have GB := hide ((Kept.of_below (fp := []) b1).heap HC0.out.2.2.2 (by simp)); have C1 := hide (CacheAt.below C0.out b1); clear b1)
  obtain ⟨d0, d1, d2, d3, df⟩ := Cat.cellAt C1.out
  have LN := hide (fun ty => Cat.held_len (w := w1.drew) (CacheAt.kept (fp := []) C1.out (Kept.refl _ w1).drew (by simp)) ty)
  have hr := HR.out
  generalize (es.length : Int) = L at LN hr
  clear d1 d3 df
  go_region_held_law (fun W => W.cell? ⟨w.heap.size, 0, none⟩ = some (.pointer (some ⟨p, 0, none⟩)) ∧ W.cell? ⟨p, 2, none⟩ = some (.map (some bh)) ∧ W.cell? ⟨p, 0, none⟩ = some (.int .i64 fr)) (go_keep) ((refine step_len rfl (.tmp 20) 89 rfl bh L ?_ LN.out ?_; (simp [Act.eval])))
  all_goals
  go_wp2_with fail
  have k2 : Kept [] w1 (w1.alloc (.cells #[.string k.1.1, .int .i64 k.1.2, .int .i64 0] kP.tf)).drew := ((Kept.refl _ w1).alloc _).drew
  have hb2 : (w1.alloc (.cells #[.string k.1.1, .int .i64 k.1.2, .int .i64 0] kP.tf)).drew.heap[w1.heap.size]? = some (.cells (kP.fc k 0) kP.tf (0, 0)) := heap_alloc_new w1 _
  refine (put_any (CacheAt.kept (fp := []) C1.out k2 (by simp)) HF.out w1.heap.size k 0 hb2 (fun hm => by have := CacheAt.lt C1.out _ hm; omega) HNO.out HOK.out).mono ?_
  rintro x w3 ⟨rfl, c3, k3⟩
  have C3 := hide c3
  have K3 := hide ((Kept.of_below (fp := [p, bh, bl]) B1.out).trans (k2.mono (fp' := [p, bh, bl]) (by simp)) (Newly.refl _ _))
  have K4 := hide k3
  have GB5 := hide (k3.heap (k2.heap GB.out (by simp)) HBN.out)
  have g0 := cell_of_heap GB5.out 0
  have g1 := cell_of_heap GB5.out 1
  simp at g0 g1
  have z0 := frozen_of_heap GB5.out 0
  have z1 := frozen_of_heap GB5.out 1
  clear c3 k3 k2 hb2
  go_wp2_with fail
  have hb := heap_setCell (heap_setCell GB5.out 0 (.string ⟨#[]⟩)) 1 (.int .i64 0)
  refine bodyPost_ret (useRes _ _ (w.heap.size + 1 + 1) ⟨#[]⟩ 0 rfl (by simpa using hb)) rfl ?_
  have kb : Kept [w.heap.size + 1 + 1] w3 ((w3.setCell ⟨w.heap.size + 1 + 1, 0, none⟩ (.string ⟨#[]⟩)).setCell ⟨w.heap.size + 1 + 1, 1, none⟩ (.int .i64 0)) := ((Kept.refl _ w3).setCell (p := ⟨w.heap.size + 1 + 1, 0, none⟩) (.inl (by simp)) _).setCell (p := ⟨w.heap.size + 1 + 1, 1, none⟩) (.inl (by simp)) _
  refine ⟨rfl, w1.heap.size, B1.out.size, CacheAt.kept C3.out kb (fun x hx q => ?_), (K3.out.trans K4.out (Newly.refl _ _)).trans kb (fun x hx => .inr (by simp at hx; omega))⟩
  simp only [feet, List.map_append, List.map_cons, List.map_nil, List.mem_cons, List.mem_append, List.not_mem_nil, or_false] at hx
  simp only [List.mem_singleton] at q
  have sz := SZ.out
  rcases hx with h | h | h | h | h
  · have := HLT.out p (by simp [feet]); omega
  · have := HLT.out bh (by simp [feet]); omega
  · have := HLT.out bl (by simp [feet]); omega
  · have := HLT.out x (by simp only [feet, List.mem_cons]; exact .inr (.inr (.inr h))); omega
  · omega

set_option maxRecDepth 100000 in
set_option maxHeartbeats 4000000 in
theorem use_full_go {bh bl us : Nat} {es : List (Fr Key)} (c : Cat w p bh bl fr us es) (hfew : us + 1 ≤ 1000000) (k : Key) (hok : kP.ok k) (hno : ∀ e ∈ es, e.key ≠ k) (hr : fr ≤ (es.length : Int)) (k0 : Key) (hz : firstA (es.map Fr.ab) = some k0) :
    Calls Try.prog 70 #[.pointer (some ⟨p, 0, none⟩), kP.enc k] w fun x w' => x = .returned (.tuple #[kP.enc k0, .bool true, .int .i64 0]) ∧ ∃ ds e rs b, es = ds ++ e :: rs ∧ e.key = k0 ∧ w.heap.size ≤ b ∧ Cat w' p bh bl fr (us + 1) (ds ++ rs ++ [⟨us + 1, b, k, 0⟩]) ∧ Kept [p, bh, bl] w w' := by
  have hmf := Try.mf
  have b0 : Below w.heap.size w (boxes3 w p k) := (boxes3_at w p k).2.2.2.2
  obtain ⟨hc0, hc1, hc2, hc3, _⟩ := boxes3_at w p k
  have c0 : Cat (boxes3 w p k) p bh bl fr us es := c.below b0
  have WN := hide (with_none c0 k hok hno (.func (.func 85) #[] #[.pointer (some ⟨w.heap.size, 0, none⟩)]))
  have C0 := hide c0
  have B0 := hide b0
  have HC0 := hide (And.intro hc0 (And.intro hc1 (And.intro hc2 hc3)))
  have HS : Hid ((boxes3 w p k).heap.size = w.heap.size + 1 + 1 + 1) := by show _ = _; simp
  have HR := hide (show (fr ≤ (es.length : Int)) = True from eq_true hr)
  have HZ := hide (And.intro hz c.rise)
  have HOK := hide hok
  have HNO := hide hno
  have HF := hide hfew
  have HBN := hide (box_ne c)
  have HLT := hide c.lt
  clear c c0 b0 hc0 hc1 hc2 hc3 hok hno hr hz hfew
  go_enter Try.func70, Try.ntmps70
  go_wp2_with (go_at_call 49; refine WN.out.mono ?_; rintro x w1 ⟨rfl, b1⟩; have B1 := hide (below_then B0.out b1); have SZ := hide (Nat.le_trans (Nat.le_of_eq HS.out.symm) b1.size); have hc1 := (Kept.of_below (fp := []) b1).cell HC0.out.1 (by simp); have HD1 := hide ((Kept.of_below (fp := []) b1).cell HC0.out.2.1 (by simp)); have HD2 := hide ((Kept.of_below (fp := []) b1).cell HC0.out.2.2.1 (by simp)); have GB := hide ((Kept.of_below (fp := []) b1).heap HC0.out.2.2.2 (by simp)); have C1 := hide (CacheAt.below C0.out b1); clear b1)
  obtain ⟨d0, d1, d2, d3, df⟩ := Cat.cellAt C1.out
  have LN := hide (fun ty => Cat.held_len (w := w1.drew) (CacheAt.kept (fp := []) C1.out (Kept.refl _ w1).drew (by simp)) ty)
  have hr := HR.out
  generalize (es.length : Int) = L at LN hr
  clear d1 d3 df
  go_region_held_law (fun W => W.cell? ⟨w.heap.size, 0, none⟩ = some (.pointer (some ⟨p, 0, none⟩)) ∧ W.cell? ⟨p, 2, none⟩ = some (.map (some bh)) ∧ W.cell? ⟨p, 0, none⟩ = some (.int .i64 fr)) (go_keep) ((refine step_len rfl (.tmp 20) 89 rfl bh L ?_ LN.out ?_; (simp [Act.eval])))
  all_goals
  go_wp2_with fail
  refine (first_any (CacheAt.kept (fp := []) C1.out (Kept.refl _ w1).drew (by simp))).mono ?_
  rintro x w2 ⟨least, ok, rfl, f2, b2⟩
  obtain rfl : ok = true := by
    cases ok with
    | true => rfl
    | false =>
      have he := f2.none
      rw [HZ.out.1] at he
      cases he
  obtain ⟨ds, e, rs, hes, rfl, he⟩ := f2.some HZ.out.2
  have hk0 : e.key = k0 := Option.some.inj (he.symm.trans HZ.out.1)
  have C2 := hide (CacheAt.below (CacheAt.kept (fp := []) C1.out (Kept.refl _ w1).drew (by simp)) b2)
  have KB2 := hide (Kept.of_below (fp := []) b2)
  have hc2 := KB2.out.cell (w := w1.drew) hc1 (by simp)
  have HE1 := hide (KB2.out.cell (w := w1.drew) HD1.out (by simp))
  have HE2 := hide (KB2.out.cell (w := w1.drew) HD2.out (by simp))
  have GB2 := hide (KB2.out.heap (w := w1.drew) GB.out (by simp))
  have B2 := hide (below_then B1.out.drew b2)
  have SZ2 := hide (Nat.le_trans SZ.out b2.size)
  have HE := hide hes
  have HK0 := hide hk0
  subst hes
  have T := hide (take_any C2.out)
  have F2 := hide (Cat.frameAt C2.out (e := e) (by simp)).1
  rw [hk0] at F2
  have NE := hide (CacheAt.ne C2.out)
  obtain ⟨u, hu⟩ : ∃ u, u = e.use := ⟨_, rfl⟩
  rw [← hu] at T ⊢
  obtain ⟨q, hq⟩ : ∃ q, q = e.blk := ⟨_, rfl⟩
  rw [← hq] at T F2
  have HQ := hide hq
  clear hu hq hk0 he f2 b2 hc1 d0 d2 hr LN
  go_wp2_with fail
  refine T.out.mono ?_
  rintro x w3 ⟨rfl, c3, k3, n3⟩
  have qn : q ∉ [bh, bl] := by have := NE.out.2.2.2 e (by simp); rw [HQ.out]; simp [this.2.1, this.2.2]
  have n12 : ∀ y, w.heap.size ≤ y → y ∉ [bh, bl] := fun y hy hm => by have h1 := HLT.out bh (by simp [feet]); have h2 := HLT.out bl (by simp [feet]); simp at hm; omega
  have f3 := k3.cell F2.out.1 qn
  have f4 := k3.cell F2.out.2 qn
  have hc3 := k3.cell hc2 (n12 _ (by simp))
  have he1 := k3.cell HE1.out (n12 _ (by simp))
  have he2 := k3.cell HE2.out (n12 _ (by simp))
  have GB3 := hide (k3.heap GB2.out (n12 _ (by omega)))
  have s0 := cell_of_heap GB3.out 0
  have s1 := cell_of_heap GB3.out 1
  simp at s0 s1
  have y0 := frozen_of_heap GB3.out 0
  have y1 := frozen_of_heap GB3.out 1
  have C3 := hide c3
  have SZ3 := hide (Nat.le_trans SZ2.out k3.size)
  have K3 := hide ((Kept.of_below (fp := [p, bh, bl]) B2.out).trans k3 (Newly.of_sub (by simp)))
  clear c3 k3 n3 hc2 n12 qn
  go_wp2_with fail
  have k4 : Kept [w.heap.size + 1 + 1] w3 (((w3.setCell ⟨w.heap.size + 1 + 1, 0, none⟩ (.string k0.1.1)).setCell ⟨w.heap.size + 1 + 1, 1, none⟩ (.int .i64 k0.1.2)).alloc (.cells #[.string k.1.1, .int .i64 k.1.2, .int .i64 0] kP.tf)) := (((Kept.refl _ w3).setCell (p := ⟨w.heap.size + 1 + 1, 0, none⟩) (.inl (by simp)) _).setCell (p := ⟨w.heap.size + 1 + 1, 1, none⟩) (.inl (by simp)) _).alloc _
  have e4 : ((w3.setCell ⟨w.heap.size + 1 + 1, 0, none⟩ (.string k0.1.1)).setCell ⟨w.heap.size + 1 + 1, 1, none⟩ (.int .i64 k0.1.2)).heap.size = w3.heap.size := by simp [World.setCell]
  have hb4 := heap_alloc_new ((w3.setCell ⟨w.heap.size + 1 + 1, 0, none⟩ (.string k0.1.1)).setCell ⟨w.heap.size + 1 + 1, 1, none⟩ (.int .i64 k0.1.2)) (.cells #[.string k.1.1, .int .i64 k.1.2, .int .i64 0] kP.tf)
  rw [e4] at hb4
  have g4 := ((Kept.refl [] _).alloc (.cells #[.string k.1.1, .int .i64 k.1.2, .int .i64 0] kP.tf)).heap (heap_setCell (heap_setCell GB3.out 0 (.string k0.1.1)) 1 (.int .i64 k0.1.2)) (by simp)
  have LS := hide (fun x (hx : x ∈ feet p bh bl (ds ++ rs)) => HLT.out x (feet_sub x hx))
  generalize ((w3.setCell ⟨w.heap.size + 1 + 1, 0, none⟩ (.string k0.1.1)).setCell ⟨w.heap.size + 1 + 1, 1, none⟩ (.int .i64 k0.1.2)).alloc (.cells #[.string k.1.1, .int .i64 k.1.2, .int .i64 0] kP.tf) = w4 at k4 hb4 g4 ⊢
  refine (put_any (CacheAt.kept C3.out k4 (fun x hx q => by have := LS.out x hx; simp at q; omega)) HF.out w3.heap.size k 0 hb4 (fun hm => by have := CacheAt.lt C3.out _ hm; omega) (fun x hx => HNO.out x (by
    rcases List.mem_append.1 hx with hx | hx
    · simp [hx]
    · simp [hx])) HOK.out).mono ?_
  rintro x w5 ⟨rfl, c5, k5⟩
  have C5 := hide c5
  have K5 := hide (K3.out.trans k4 (fun x hx => .inr (by simp at hx; omega)))
  have K6 := hide k5
  have GB5 := hide (k5.heap g4 HBN.out)
  simp only [List.setIfInBounds_toArray, List.set_cons_zero, List.set_cons_succ] at GB5
  have g0 := cell_of_heap GB5.out 0
  have g1 := cell_of_heap GB5.out 1
  simp at g0 g1
  have z0 := frozen_of_heap GB5.out 0
  have z1 := frozen_of_heap GB5.out 1
  clear c5 k5 k4 hb4 g4 e4 f3 f4 hc3 s0 s1 y0 y1 he1 he2
  go_wp2_with fail
  have hb := heap_setCell (heap_setCell GB5.out 0 (.string k0.1.1)) 1 (.int .i64 k0.1.2)
  refine bodyPost_ret (useRes _ _ (w.heap.size + 1 + 1) k0.1.1 k0.1.2 rfl (by simpa using hb)) rfl ?_
  have kb : Kept [w.heap.size + 1 + 1] w5 ((w5.setCell ⟨w.heap.size + 1 + 1, 0, none⟩ (.string k0.1.1)).setCell ⟨w.heap.size + 1 + 1, 1, none⟩ (.int .i64 k0.1.2)) := ((Kept.refl _ w5).setCell (p := ⟨w.heap.size + 1 + 1, 0, none⟩) (.inl (by simp)) _).setCell (p := ⟨w.heap.size + 1 + 1, 1, none⟩) (.inl (by simp)) _
  refine ⟨rfl, ds, e, rs, w3.heap.size, rfl, HK0.out, by have := SZ3.out; omega, CacheAt.kept C5.out kb (fun x hx q => ?_), (K5.out.trans K6.out (Newly.refl _ _)).trans kb (fun x hx => .inr (by simp at hx; omega))⟩
  simp only [feet, List.map_append, List.map_cons, List.map_nil, List.mem_cons, List.mem_append, List.not_mem_nil, or_false] at hx
  simp only [List.mem_singleton] at q
  have sz := SZ3.out
  rcases hx with h | h | h | h | h
  · have := HLT.out p (by simp [feet]); omega
  · have := HLT.out bh (by simp [feet]); omega
  · have := HLT.out bl (by simp [feet]); omega
  · have := LS.out x (by simp only [feet, List.mem_cons, List.map_append, List.mem_append]; exact .inr (.inr (.inr h))); omega
  · omega

/-- Use. -/
theorem use_any (h : Ck kP w fp p fr N l) (hN : N + 1 ≤ 1000000) (k : Key) (hok : kP.ok k) (hfn : fr ≤ (l.length : Int) → firstA l ≠ none) :
    Calls Try.prog 70 #[.pointer (some ⟨p, 0, none⟩), kP.enc k] w fun x w' => x = .returned (.tuple #[goneV (useA fr l k).1, .bool (useA fr l k).1.isSome, .int .i64 (useA fr l k).2.1]) ∧ Outc kP w w' fp p fr (N + 1) (useA fr l k).2.2 := by
  obtain ⟨bh, bl, us, es, c, hus, rfl, rfl⟩ := h
  unfold useA
  have hsub : ∀ {es : List (Fr Key)} x, x ∈ [p, bh, bl] → x ∈ feet p bh bl es := fun x hx => by
    simp only [List.mem_cons, List.not_mem_nil, or_false] at hx
    simp only [feet, List.mem_cons]
    rcases hx with h | h | h
    · exact .inl h
    · exact .inr (.inl h)
    · exact .inr (.inr (.inl h))
  cases hl : lookA (es.map Fr.ab) k with
  | some n =>
    obtain ⟨ds, e, rs, rfl, rfl, rfl⟩ := lookA_some hl
    refine (use_there c (by omega) e.key rfl).mono ?_
    rintro x w' ⟨rfl, c1, k1⟩
    refine ⟨rfl, _, ⟨bh, bl, _, _, c1, by omega, rfl, ?_⟩, k1.mono hsub, Newly.of_sub ?_⟩
    · rw [delA_ab c.keys]
      simp [Fr.ab]
    · intro x hx
      simp only [feet, List.map_append, List.map_cons, List.map_nil, List.mem_cons, List.mem_append, List.not_mem_nil, or_false] at hx ⊢
      rcases hx with h | h | h | (h | h) | h
      · exact .inl h
      · exact .inr (.inl h)
      · exact .inr (.inr (.inl h))
      · exact .inr (.inr (.inr (.inl h)))
      · exact .inr (.inr (.inr (.inr (.inr h))))
      · exact .inr (.inr (.inr (.inr (.inl h))))
  | none =>
    have hno := lookA_none hl
    simp only [List.length_map]
    by_cases hr : fr ≤ (es.length : Int)
    · rw [if_pos hr]
      cases hf : firstA (es.map Fr.ab) with
      | none => exact absurd hf (hfn (by simpa using hr))
      | some k0 =>
        refine (use_full_go c (by omega) k hok hno hr k0 hf).mono ?_
        rintro x w' ⟨rfl, ds, e, rs, b, rfl, rfl, hb, c1, k1⟩
        refine ⟨rfl, _, ⟨bh, bl, _, _, c1, by omega, rfl, ?_⟩, k1.mono hsub, ?_⟩
        · show delA _ e.key ++ [(k, 0)] = _
          rw [delA_ab c.keys]
          simp [Fr.ab]
        · intro x hx
          simp only [feet, List.map_append, List.map_cons, List.map_nil, List.mem_cons, List.mem_append, List.not_mem_nil, or_false] at hx ⊢
          rcases hx with h | h | h | (h | h) | h
          · exact .inl (.inl h)
          · exact .inl (.inr (.inl h))
          · exact .inl (.inr (.inr (.inl h)))
          · exact .inl (.inr (.inr (.inr (.inl h))))
          · exact .inl (.inr (.inr (.inr (.inr (.inr h)))))
          · exact .inr (by omega)
    · rw [if_neg hr]
      refine (use_room c (by omega) k hok hno hr).mono ?_
      rintro x w' ⟨rfl, b, hb, c1, k1⟩
      refine ⟨rfl, _, ⟨bh, bl, _, _, c1, by omega, rfl, ?_⟩, k1.mono hsub, ?_⟩
      · simp [Fr.ab]
      · intro x hx
        simp only [feet, List.map_append, List.map_cons, List.map_nil, List.mem_cons, List.mem_append, List.not_mem_nil, or_false] at hx ⊢
        rcases hx with h | h | h | h | h
        · exact .inl (.inl h)
        · exact .inl (.inr (.inl h))
        · exact .inl (.inr (.inr (.inl h)))
        · exact .inl (.inr (.inr (.inr h)))
        · exact .inr (by omega)

set_option maxRecDepth 100000 in
set_option maxHeartbeats 4000000 in
/-- New. -/
theorem new_any (n : Int) (w : World) :
    Calls Try.prog 27 #[.int .i64 n] w fun x w' => ∃ p fp, x = .returned (.pointer (some ⟨p, 0, none⟩)) ∧ Ck kP w' fp p (max n 1) 0 [] ∧ Below w.heap.size w w' ∧ ∀ x ∈ fp, w.heap.size ≤ x := by
  have hmm := @run_makeMap Try.prog
  have hmax : ∀ (ts : Array TypeId) (t : TypeId) (W : World), (Builtin.max_ ts t #[.int .i64 n, .int .i64 1]).run Try.prog W = .ok (.int .i64 (max n 1)) W := by
    intro ts t W
    rw [run_max_int2]
    congr 2
    split <;> omega
  generalize max n 1 = m at *
  go_enter Try.func27, Try.ntmps27
  go_wp2
  go_ret
  clear hmm hmax
  have e1 : (w.alloc (.map #[] 0)).heap.size = w.heap.size + 1 := by simp
  have e2 : ((w.alloc (.map #[] 0)).alloc (.map #[] 0)).heap.size = w.heap.size + 2 := by simp
  refine ⟨w.heap.size + 2, feet (w.heap.size + 2) w.heap.size (w.heap.size + 1) ([] : List (Fr Key)), by simp, ⟨w.heap.size, w.heap.size + 1, 0, [], ⟨?_, ⟨.map [], ?_, MapIs.empty⟩, ⟨.map [], ?_, MapIs.empty⟩, by simp, by simp [feet], List.Pairwise.nil, by simp, by simp, by simp, by omega, by simp⟩, by omega, rfl, rfl⟩, ?_, ?_⟩
  · have e := heap_alloc_new ((w.alloc (.map #[] 0)).alloc (.map #[] 0)) (.cells #[.int .i64 m, .int .u64 (0 : Nat), .map (some w.heap.size), .map (some (w.heap.size + 1))] kP.tc)
    rw [e2] at e
    exact e
  · exact ((World.ownsMap_made w Try.prog 91 ptrE).alloc _).alloc _
  · have e := (World.ownsMap_made (w.alloc (.map #[] 0)) Try.prog kP.tk uElem).alloc (.cells #[.int .i64 m, .int .u64 (0 : Nat), .map (some w.heap.size), .map (some (w.heap.size + 1))] kP.tc)
    rw [e1] at e
    exact e
  · exact (((Below.refl _ w).alloc (Nat.le_refl _) _).alloc (by simp) _).alloc (by simp; omega) _
  · intro x hx
    simp [feet] at hx
    omega

end
end Go.Proofs.Ytbhjdcoehgajcaa.L.P
