/-
  What begins an operation. A lemma file: no statement of the seat is proved here.
-/
import Derived.Test.YtbhjdcoehgajcaaDCrash
namespace Go.Proofs.Ytbhjdcoehgajcaa
open Go.RowKit Go.Maps Go.Sort Go.Shelf

/-- What may be of a disk. -/
structure okA (l : List Ab) (s : Ds) : Prop where
  ok : okAb l
  used : s.used = usedB l
  fits : s.used ≤ s.room
  room : s.room ≤ 67108864
  ops : 0 ≤ s.ops
  len : (l.length : Int) ≤ s.ops
  left : 0 ≤ s.left ∧ s.left ≤ 9223372036854775807
  keep : s.keep.length ≤ 1099511627776
  names : ∀ x ∈ l, mayB x.1 = true

/-- A crash. -/
def crashA (ks : List Bool) (l : List Ab) (s : Ds) : List Ab × Ds :=
  if s.down then (l, s) else ((torn ks l 0).1, { s with used := usedB (torn ks l 0).1, down := true, left := 0, keep := [] })

/-- The beginning of an operation. -/
def beginA (l : List Ab) (s : Ds) : List Ab × Ds :=
  if s.left = 0 then (l, { s with ops := s.ops + 1 })
  else if 1 < s.left then (l, { s with ops := s.ops + 1, left := s.left - 1 })
  else crashA s.keep l { s with ops := s.ops + 1, left := 0, keep := [] }

theorem crashA_ok {ks : List Bool} {l : List Ab} {s : Ds} (h : okA l s) : okA (crashA ks l s).1 (crashA ks l s).2 := by
  unfold crashA
  split
  · exact h
  · have h1 := torn_used ks l 0 h.ok
    have h2 := h.used
    have h3 := h.fits
    refine ⟨torn_ok ks l 0, rfl, ?_, h.room, h.ops, ?_, ⟨by simp, by simp⟩, by simp, ?_⟩
    · show usedB (torn ks l 0).1 ≤ s.room
      omega
    · show ((torn ks l 0).1.length : Int) ≤ s.ops
      rw [torn_length]
      exact h.len
    · intro x hx
      have e : x.1 ∈ (torn ks l 0).1.map (fun x => x.1) := List.mem_map.2 ⟨x, hx, rfl⟩
      rw [torn_names] at e
      obtain ⟨y, hy, e2⟩ := List.mem_map.1 e
      rw [← e2]
      exact h.names y hy

theorem beginA_ok {l : List Ab} {s : Ds} (h : okA l s) : okA (beginA l s).1 (beginA l s).2 := by
  have h0 := h.ops
  have hl := h.len
  have hf := h.left
  unfold beginA
  split
  · exact ⟨h.ok, h.used, h.fits, h.room, by simp only; omega, by simp only; omega, h.left, h.keep, h.names⟩
  · split
    · exact ⟨h.ok, h.used, h.fits, h.room, by simp only; omega, by simp only; omega, by simp only; omega, h.keep, h.names⟩
    · exact crashA_ok ⟨h.ok, h.used, h.fits, h.room, by simp only; omega, by simp only; omega, ⟨by simp, by simp⟩, by simp, h.names⟩

theorem crashA_len (ks : List Bool) (l : List Ab) (s : Ds) : (crashA ks l s).1.length = l.length := by
  unfold crashA
  split
  · rfl
  · exact torn_length ks l 0

theorem beginA_ops (l : List Ab) (s : Ds) : (beginA l s).2.ops = s.ops + 1 := by
  unfold beginA crashA
  split
  · rfl
  · split
    · rfl
    · split <;> rfl

theorem ab_len (fs : List Fl) : (fs.map Fl.ab).length = fs.length := by simp

theorem names24 {fs : List Fl} {s : Ds} (h : okA (fs.map Fl.ab) s) : ∀ f ∈ fs, f.name.length ≤ 24 := fun f hf => by
  have := h.names f.ab (List.mem_map.2 ⟨f, hf, rfl⟩)
  unfold mayB at this
  simp only [Fl.ab, Bool.and_eq_true] at this
  exact of_decide_eq_true this.2

theorem feet_sub_nil {p bm : Nat} {kv : Value} {fs : List Fl} : ∀ x ∈ feet p bm (.slice none 0 0) fs, x ∈ feet p bm kv fs := by
  intro x hx
  simp only [feet, own, Value.ownBlock, Option.toList_none, List.nil_append, List.mem_cons, List.mem_append] at hx ⊢
  rcases hx with hx | hx | hx
  · exact .inl hx
  · exact .inr (.inl hx)
  · exact .inr (.inr (.inr hx))

section
variable {w : World} {p bm : Nat} {kv : Value} {fs : List Fl} {s : Ds}

/-- What an operation, or a part of it, leaves. -/
def Left (w w' : World) (p bm : Nat) (kv : Value) (fs : List Fl) (kv' : Value) (fs' : List Fl) (s' : Ds) (A : List Ab × Ds) : Prop :=
  DiskAt w' p bm kv' fs' s' ∧ (fs'.map Fl.ab, s') = A ∧ Kept (feet p bm kv fs) w w' ∧ Newly w (feet p bm kv fs) (feet p bm kv' fs')

/-- Crash, of whatever disk. -/
theorem crash_all (h : DiskAt w p bm kv fs s) (ho : okA (fs.map Fl.ab) s) (hn : s.ops ≤ 1048576) (u : Value) (ks : List Bool) (hu : IsK w u ks) (hux : ks ≠ [] → ∀ x ∈ own u, x ∉ feet p bm kv fs) (hkl : ks.length ≤ 1099511627776) :
    Calls Try.prog 22 #[.pointer (some ⟨p, 0, none⟩), u] w fun e w' => e = .returned (.tuple #[]) ∧ ∃ kv' fs' s', Left w w' p bm kv fs kv' fs' s' (crashA ks (fs.map Fl.ab) s) := by
  by_cases hd : s.down = true
  · refine (crash_down h hd u ks hu).mono ?_
    rintro e w' ⟨rfl, b⟩
    refine ⟨rfl, kv, fs, s, h.below b, ?_, Kept.of_below b, Newly.refl _ _⟩
    simp [crashA, hd]
  · have hd2 : s.down = false := by simpa using hd
    have h1 := ho.len
    have h2 := ho.used
    have h3 := ho.fits
    have h4 := ho.room
    rw [ab_len] at h1
    refine (crash_any h hd2 u ks hu hux hkl ho.ok (by omega) (by omega) (names24 ho)).mono ?_
    rintro e w' ⟨rfl, fs', d, e2, k, n⟩
    refine ⟨rfl, _, fs', _, d, ?_, k, n⟩
    simp [crashA, hd2, e2]

set_option maxRecDepth 100000 in
set_option maxHeartbeats 4000000 in
theorem approach_any (h : DiskAt w p bm kv fs s) (ho : okA (fs.map Fl.ab) s) (hn : s.ops ≤ 1048576) :
    Calls Try.prog 59 #[.pointer (some ⟨p, 0, none⟩)] w fun e w' => e = .returned (.tuple #[]) ∧ ∃ kv' fs' s', Left w w' p bm kv fs kv' fs' s'
      (if s.left = 0 then (fs.map Fl.ab, s) else if 1 < s.left then (fs.map Fl.ab, { s with left := s.left - 1 }) else crashA s.keep (fs.map Fl.ab) { s with left := 0, keep := [] }) := by
  obtain ⟨_, _, _, _, _, c5, c6, c7⟩ := h.cellAt
  have hl := ho.left
  have HO := hide ho
  have HH := hide h
  by_cases h0 : s.left = 0
  · rw [h0] at c5
    simp only [h0, if_true]
    clear h ho hl
    go_enter Try.func59, Try.ntmps59
    go_wp2
    first | go_end0 | refine bodyPost_ret (results_none rfl _ _ _) rfl ?_
    exact ⟨rfl, kv, fs, s, HH.out, rfl, Kept.refl _ _, Newly.refl _ _⟩
  · obtain ⟨n, hnn⟩ : ∃ n, n = s.left := ⟨_, rfl⟩
    have d1 : DiskAt (w.setCell ⟨p, 5, none⟩ (.int .i64 (n - 1))) p bm kv fs { s with left := n - 1 } := by
      refine h.put0 ((Kept.refl _ w).setCell (p := ⟨p, 5, none⟩) (.inl (by simp)) _) ?_ rfl
      have e := heap_setCell h.cells 5 (.int .i64 (n - 1))
      simpa [diskCells] using e
    have k1 : Kept [p] w (w.setCell ⟨p, 5, none⟩ (.int .i64 (n - 1))) := (Kept.refl _ w).setCell (p := ⟨p, 5, none⟩) (.inl (by simp)) _
    have hn0 : ¬ n = 0 := by omega
    rw [← hnn] at c5 hl
    rw [← hnn, if_neg hn0]
    have D1 := hide d1
    have K1 := hide k1
    have HNN := hide hnn
    obtain ⟨ka, kc, rfl⟩ := keepForm h.keep
    by_cases h1 : 1 < n
    · rw [if_pos h1]
      have hn1 : ¬ n - 1 ≤ 0 := by omega
      have hn2 : 0 < n - 1 := by omega
      clear h ho d1 k1 hnn h0
      go_enter Try.func59, Try.ntmps59
      go_wp2
      first | go_end0 | refine bodyPost_ret (results_none rfl _ _ _) rfl ?_
      exact ⟨rfl, _, fs, _, D1.out, rfl, K1.out.mono (by simp [feet]), Newly.refl _ _⟩
    · have hn1 : n = 1 := by omega
      rw [if_neg h1]
      subst hn1
      have AR := hide (arm_no d1 0 (by omega) (.slice none 0 0))
      have g6 := d1.cellAt.2.2.2.2.2.2.1
      have CR := hide (fun (w2 : World) (d2 : DiskAt w2 p bm (.slice none 0 0) fs { s with left := 0, keep := [] }) (k2 : Kept [p] (w.setCell ⟨p, 5, none⟩ (.int .i64 (1 - 1))) w2) =>
        crash_all d2 ⟨ho.ok, ho.used, ho.fits, ho.room, ho.ops, ho.len, ⟨by simp, by simp⟩, by simp, ho.names⟩ hn (.slice ka s.keep.length kc) s.keep
          (RowK.isK (d1.keep.kept k2 (fun x hx e => by
            have hnd := d1.apart
            unfold feet at hnd
            rw [List.nodup_cons] at hnd
            simp at e
            subst e
            exact hnd.1 (by simp only [List.mem_cons, List.mem_append]; exact .inr (.inl hx)))))
          (fun _ x hx e => by
            have hnd := d1.apart
            unfold feet at hnd e
            rw [List.nodup_cons, List.nodup_cons, List.nodup_append] at hnd
            simp only [own, Value.ownBlock, Option.toList_none, List.nil_append, List.mem_cons] at e
            rcases e with rfl | rfl | e
            · exact hnd.1 (by simp only [List.mem_cons, List.mem_append]; exact .inr (.inl hx))
            · exact hnd.2.1 (List.mem_append.2 (.inl hx))
            · exact hnd.2.2.2.2 x hx x e rfl) ho.keep)
      simp only [Int.sub_self] at AR g6 CR
      clear h ho d1 k1 hnn h0 h1 hn0
      go_enter Try.func59, Try.ntmps59
      go_wp2_with (first
        | (go_at_call 41; refine AR.out.mono ?_; rintro e w2 ⟨rfl, d2, k2⟩; have D2 := hide d2; have K2 := hide k2; clear d2 k2)
        | (go_at_call 22; refine (CR.out w2 D2.out K2.out).mono ?_; rintro e w3 ⟨rfl, kv3, fs3, s3, L3⟩; have HL3 := hide L3; clear L3))
      go_end0
      obtain ⟨q1, q2, q3, q4⟩ := HL3.out
      have hs2 : ∀ x ∈ feet p bm (.slice none 0 0) fs, x ∈ feet p bm (.slice ka s.keep.length kc) fs := feet_sub_nil
      have k12 : Kept (feet p bm (.slice ka s.keep.length kc) fs) w w2 := (K1.out.mono (fp' := feet p bm (.slice ka s.keep.length kc) fs) (by simp [feet])).trans K2.out (Newly.of_sub (by simp [feet]))
      exact ⟨rfl, kv3, fs3, s3, q1, q2, k12.trans q3 (Newly.of_sub hs2), (Newly.of_sub hs2 : Newly w _ _).trans q4 k12.size⟩

set_option maxRecDepth 100000 in
set_option maxHeartbeats 4000000 in
theorem begin_any (h : DiskAt w p bm kv fs s) (ho : okA (fs.map Fl.ab) s) (hn : s.ops ≤ 1000000) :
    Calls Try.prog 42 #[.pointer (some ⟨p, 0, none⟩)] w fun e w' => e = .returned (.int .i64 (if (beginA (fs.map Fl.ab) s).2.down then 7 else 0)) ∧ ∃ kv' fs' s', Left w w' p bm kv fs kv' fs' s' (beginA (fs.map Fl.ab) s) := by
  obtain ⟨_, _, _, c3, _, _, _, c7⟩ := h.cellAt
  have k1 : Kept [p] w (w.setCell ⟨p, 3, none⟩ (.int .i64 (s.ops + 1))) := (Kept.refl _ w).setCell (p := ⟨p, 3, none⟩) (.inl (by simp)) _
  have d1 : DiskAt (w.setCell ⟨p, 3, none⟩ (.int .i64 (s.ops + 1))) p bm kv fs { s with ops := s.ops + 1 } := by
    refine h.put0 k1 ?_ rfl
    have e := heap_setCell h.cells 3 (.int .i64 (s.ops + 1))
    simpa [diskCells] using e
  have h0 := ho.ops
  have hl := ho.len
  have AP := hide (approach_any d1 ⟨ho.ok, ho.used, ho.fits, ho.room, by simp only; omega, by simp only; omega, ho.left, ho.keep, ho.names⟩ (by simp only; omega))
  have e1 : beginA (fs.map Fl.ab) s = (if s.left = 0 then (fs.map Fl.ab, { s with ops := s.ops + 1 }) else if 1 < s.left then (fs.map Fl.ab, { s with ops := s.ops + 1, left := s.left - 1 }) else crashA s.keep (fs.map Fl.ab) { s with ops := s.ops + 1, left := 0, keep := [] }) := rfl
  simp only at AP
  rw [← e1] at AP
  clear e1
  generalize beginA (fs.map Fl.ab) s = A at AP ⊢
  have AD := hide (fun W => add_any p 3 s.ops 1 (s.ops + 1) W)
  have hw : Hid (IntKind.i64.wrap (s.ops + 1) = s.ops + 1) := i64_small _ (by omega) (by omega)
  have K1 := hide k1
  clear h ho k1 d1 hl
  by_cases hd : A.2.down = true
  · rw [hd]
    go_enter Try.func42, Try.ntmps42
    go_wp2_with (first
      | (go_at_call 58; refine (AD.out _ c3 (c7 3) hw.out).mono ?_; rintro e w1 ⟨rfl, rfl⟩)
      | (go_at_call 59; refine AP.out.mono ?_; rintro e w2 ⟨rfl, kv2, fs2, s2, L2⟩; have d4 := L2.1.cellAt.2.2.2.2.1; have e2 : s2.down = true := (by have := congrArg (fun x => x.2.down) L2.2.1; simp only at this; rw [this, hd]); rw [e2] at d4; have HL2 := hide L2; clear L2 e2))
    go_ret
    obtain ⟨q1, q2, q3, q4⟩ := HL2.out
    exact ⟨rfl, kv2, fs2, s2, q1, q2, (K1.out.mono (fp' := feet p bm kv fs) (by simp [feet])).trans q3 (Newly.refl _ _), (Newly.refl _ _).trans q4 K1.out.size⟩
  · have hd2 : A.2.down = false := by simpa using hd
    rw [hd2]
    clear hd
    go_enter Try.func42, Try.ntmps42
    go_wp2_with (first
      | (go_at_call 58; refine (AD.out _ c3 (c7 3) hw.out).mono ?_; rintro e w1 ⟨rfl, rfl⟩)
      | (go_at_call 59; refine AP.out.mono ?_; rintro e w2 ⟨rfl, kv2, fs2, s2, L2⟩; have d4 := L2.1.cellAt.2.2.2.2.1; have e2 : s2.down = false := (by have := congrArg (fun x => x.2.down) L2.2.1; simp only at this; rw [this, hd2]); rw [e2] at d4; have HL2 := hide L2; clear L2 e2))
    go_ret
    obtain ⟨q1, q2, q3, q4⟩ := HL2.out
    exact ⟨rfl, kv2, fs2, s2, q1, q2, (K1.out.mono (fp' := feet p bm kv fs) (by simp [feet])).trans q3 (Newly.refl _ _), (Newly.refl _ _).trans q4 K1.out.size⟩

end

end Go.Proofs.Ytbhjdcoehgajcaa
