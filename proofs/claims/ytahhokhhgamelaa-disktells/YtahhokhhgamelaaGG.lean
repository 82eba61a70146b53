/-
  Lemma texts, one behind the other: ROps, ROp2, ROp3, ROp4, ROp5, ROp6, ROp7, ROp8, ROp9. No statement of the seat is proved here.
-/
import Derived.Test.YtahhokhhgamelaaGF
namespace Go.Proofs.Ytahhokhhgamelaa
open Go.RowKit Go.Maps Go.Sort Go.Shelf

/-- The document's disk, by its blocks. -/
def Rk (w : World) (fp : List Nat) (r : Nat) (l : List Ab) (s : Ds) : Prop := ∃ lv kv fs ks, RefAt w r lv kv fs l ks s.room s.ops s.left s.down ∧ (0 < s.left → ks = s.keep) ∧ fp = rfeet r lv kv fs

/-- What an operation leaves. -/
def ROut (w w' : World) (fp : List Nat) (r : Nat) (A : List Ab × Ds) : Prop := ∃ fp', Rk w' fp' r A.1 A.2 ∧ Kept fp w w' ∧ Newly w fp fp'

section
variable {w w' : World} {fp : List Nat} {r : Nat} {l : List Ab} {s : Ds}

theorem Rk.lt (h : Rk w fp r l s) : ∀ x ∈ fp, x < w.heap.size := by
  obtain ⟨lv, kv, fs, ks, h1, h2, rfl⟩ := h
  exact h1.low

theorem Rk.kept {fp2 : List Nat} (h : Rk w fp r l s) (hk : Kept fp2 w w') (hf : ∀ x ∈ fp, x ∉ fp2) : Rk w' fp r l s := by
  obtain ⟨lv, kv, fs, ks, h1, h2, rfl⟩ := h
  exact ⟨lv, kv, fs, ks, h1.kept hk hf, h2, rfl⟩

theorem Rk.below (h : Rk w fp r l s) (hb : Below w.heap.size w w') : Rk w' fp r l s := h.kept (fp2 := []) (Kept.of_below hb) (by simp)

theorem ROut.stay (h : Rk w fp r l s) : ROut w w fp r (l, s) := ⟨fp, h, Kept.refl _ _, Newly.refl _ _⟩

theorem ROut.trans {w1 w2 : World} {A B : List Ab × Ds} (h : ROut w w1 fp r A) (k : ∀ fp1, Rk w1 fp1 r A.1 A.2 → ROut w1 w2 fp1 r B) : ROut w w2 fp r B := by
  obtain ⟨fp1, d1, k1, n1⟩ := h
  obtain ⟨fp2, d2, k2, n2⟩ := k fp1 d1
  refine ⟨fp2, d2, k1.trans k2 n1, n1.trans n2 k1.size⟩

theorem okA.file {l : List Ab} {s : Ds} (h : okA l s) : ∀ x ∈ l, x.2.1.length ≤ 1073741824 ∧ x.2.2.length ≤ x.2.1.length := by
  intro x hx
  have h1 := usedB_mem hx
  have h2 := h.used
  have h3 := h.fits
  have h4 := h.room
  have h5 := h.ok x hx
  unfold sec at h1
  omega

set_option maxRecDepth 100000 in
set_option maxHeartbeats 4000000 in
/-- Crash, of whatever disk. -/
theorem Rk.crash (h : Rk w fp r l s) (ho : okA l s) (hll : l.length ≤ 1048576) (u : Value) (ks : List Bool) (hu : IsK w u ks) (hux : ∀ lv kv fs ks0, RefAt w r lv kv fs l ks0 s.room s.ops s.left s.down → fp = rfeet r lv kv fs → ks ≠ [] → ∀ x ∈ own u, x ∉ r :: own lv) :
    Calls Try.prog 36 #[.pointer (some ⟨r, 0, none⟩), u] w fun e w' => e = .returned (.tuple #[]) ∧ ROut w w' fp r (crashA ks l s) := by
  obtain ⟨lv, kv, fs, ks0, h1, h2, rfl⟩ := h
  unfold crashA
  cases hd : s.down with
  | true =>
    rw [if_pos rfl]
    obtain ⟨c0, c1, c2, c3, c4, c5⟩ := h1.cellAt
    rw [hd] at c5
    have H : Hid (ROut w w (rfeet r lv kv fs) r (l, s)) := ROut.stay ⟨lv, kv, fs, ks0, h1, h2, rfl⟩
    obtain ⟨ua, uc, rfl, _⟩ := hu
    clear h1 h2 hux
    go_enter Try.func36, Try.ntmps36
    go_wp2
    refine bodyPost_ret (results_none rfl _ _ _) rfl ?_
    exact ⟨rfl, H.out⟩
  | false =>
    rw [if_neg (by simp)]
    have h3 := h1
    rw [hd] at h3
    refine (refCrash_up h3 u ks hu (hux lv kv fs ks0 h1 rfl) hll ho.file (by have := ho.used; have := ho.fits; have := ho.room; omega)).mono ?_
    rintro e w' ⟨rfl, fs', d', k', n'⟩
    refine ⟨rfl, rfeet r lv kv fs', ⟨lv, kv, fs', ks0, d', fun hc => absurd hc (by simp), rfl⟩, k'.mono (fun x hx => by simp only [rfeet, List.mem_append]; exact .inl (.inl hx)), fun x hx => ?_⟩
    simp only [rfeet, List.mem_append, List.mem_flatMap] at hx
    rcases hx with (hx | hx) | ⟨f, hf, hx⟩
    · exact .inl (by simp only [rfeet, List.mem_append]; exact .inl (.inl hx))
    · exact .inl (by simp only [rfeet, List.mem_append]; exact .inl (.inr hx))
    · exact n' f hf x (by simpa only [List.mem_append] using hx)

set_option maxRecDepth 100000 in
set_option maxHeartbeats 4000000 in
/-- The beginning of an operation. -/
theorem Rk.begins (h : Rk w fp r l s) (ho : okA l s) (hn : s.ops ≤ 1000000) (hll : l.length ≤ 1048576) :
    Calls Try.prog 47 #[.pointer (some ⟨r, 0, none⟩)] w fun e w' => e = .returned (.bool (!(beginA l s).2.down)) ∧ ROut w w' fp r (beginA l s) := by
  obtain ⟨lv, kv, fs, ks0, h1, h2, rfl⟩ := h
  obtain ⟨c0, c1, c2, c3, c4, c5⟩ := h1.cellAt
  have z := fun o => frozen_of_heap h1.cells o
  have hleft := ho.left
  have hops := ho.ops
  have hw1 : IntKind.i64.wrap (s.ops + 1) = s.ops + 1 := i64_small _ (by omega) (by omega)
  have hkv := h1.keep
  obtain ⟨ka, kc, hkf, _⟩ := hkv
  subst hkf
  obtain ⟨W1, hW1⟩ : ∃ W1, W1 = w.setCell ⟨r, 2, none⟩ (.int .i64 (s.ops + 1)) := ⟨_, rfl⟩
  have k1 : Kept [r] w W1 := by rw [hW1]; exact (Kept.refl _ w).setCell (p := ⟨r, 2, none⟩) (.inl (by simp)) _
  have d1 : RefAt W1 r lv (.slice ka ks0.length kc) fs l ks0 s.room (s.ops + 1) s.left s.down := by
    refine h1.put k1 ?_
    rw [hW1]
    have e := heap_setCell h1.cells 2 (.int .i64 (s.ops + 1))
    simpa using e
  have K1 := hide k1
  have hsub : ∀ x ∈ [r], x ∈ rfeet r lv (.slice ka ks0.length kc) fs := by simp [rfeet]
  unfold beginA
  by_cases hl0 : s.left = 0
  · rw [if_pos hl0]
    have FIN : Hid (ROut w W1 (rfeet r lv (.slice ka ks0.length kc) fs) r (l, { s with ops := s.ops + 1 })) := ⟨_, ⟨lv, (.slice ka ks0.length kc), fs, ks0, d1, h2, rfl⟩, k1.mono hsub, Newly.refl _ _⟩
    obtain ⟨e0, e1, e2, e3, e4, e5⟩ := d1.cellAt
    have hle : ¬ (0 : Int) < s.left := by omega
    have z2 := z 2
    have HW := hide hW1
    rw [hl0] at c3 e3
    clear h1 h2 d1 hW1 k1 z hle
    go_enter Try.func47, Try.ntmps47
    go_wp2
    go_ret
    rw [← HW.out]
    exact ⟨rfl, FIN.out⟩
  · rw [if_neg hl0]
    obtain ⟨W2, hW2⟩ : ∃ W2, W2 = W1.setCell ⟨r, 3, none⟩ (.int .i64 (s.left - 1)) := ⟨_, rfl⟩
    have k2 : Kept [r] W1 W2 := by rw [hW2]; exact (Kept.refl _ W1).setCell (p := ⟨r, 3, none⟩) (.inl (by simp)) _
    have d2 : RefAt W2 r lv (.slice ka ks0.length kc) fs l ks0 s.room (s.ops + 1) (s.left - 1) s.down := by
      refine d1.put k2 ?_
      rw [hW2]
      have e := heap_setCell d1.cells 3 (.int .i64 (s.left - 1))
      simpa using e
    have k12 : Kept [r] w W2 := k1.trans k2 (Newly.refl _ _)
    have hw2 : IntKind.i64.wrap (s.left - 1) = s.left - 1 := i64_small _ (by omega) (by omega)
    have hg0 : (0 : Int) < s.left := by omega
    have z2 := z 2
    have z3 := z 3
    obtain ⟨e0, e1, e2, e3, e4, e5⟩ := d1.cellAt
    obtain ⟨f0, f1, f2, f3, f4, f5⟩ := d2.cellAt
    have HW := hide (And.intro hW1 hW2)
    by_cases hl1 : 1 < s.left
    · rw [if_pos hl1]
      have FIN : Hid (ROut w W2 (rfeet r lv (.slice ka ks0.length kc) fs) r (l, { s with ops := s.ops + 1, left := s.left - 1 })) := ⟨_, ⟨lv, (.slice ka ks0.length kc), fs, ks0, d2, fun _ => h2 (by omega), rfl⟩, k12.mono hsub, Newly.refl _ _⟩
      have hn1 : ¬ s.left - 1 = 0 := by omega
      have hn2 : (s.left - 1 == 0) = false := by simpa using hn1
      clear h1 h2 d1 d2 hW1 hW2 k1 k2 z
      go_enter Try.func47, Try.ntmps47
      go_wp2
      go_ret
      rw [← HW.out.1, ← HW.out.2]
      exact ⟨rfl, FIN.out⟩
    · rw [if_neg hl1]
      have hone : s.left = 1 := by omega
      have hz : s.left - 1 = 0 := by omega
      rw [hz] at d2 f3
      have hks := h2 hg0
      have R2 : Rk W2 (rfeet r lv (.slice ka ks0.length kc) fs) r l { s with ops := s.ops + 1, left := 0, keep := [] } := ⟨lv, (.slice ka ks0.length kc), fs, ks0, d2, fun h => absurd h (by simp), rfl⟩
      have ho2 : okA l { s with ops := s.ops + 1, left := 0, keep := [] } := ⟨ho.ok, ho.used, ho.fits, ho.room, by show 0 ≤ s.ops + 1; omega, by show (l.length : Int) ≤ s.ops + 1; have := ho.len; omega, ⟨by simp, by simp⟩, by simp, ho.names⟩
      have CR := R2.crash ho2 hll (.slice ka ks0.length kc) ks0 d2.keep (fun lv2 kv2 fs2 ks2 q _ _ x hx e => by
        have e1 := q.cellAt.2.1
        rw [f1] at e1
        simp only [Option.some.injEq] at e1
        subst e1
        exact (d2.free x e).1 hx)
      rw [← hks]
      have CR2 := hide CR
      obtain ⟨A, hA⟩ : ∃ A, A = crashA ks0 l { s with ops := s.ops + 1, left := 0, keep := [] } := ⟨_, rfl⟩
      rw [← hA] at CR2 ⊢
      have K12 := hide (k12.mono hsub)
      rw [HW.out.2, HW.out.1] at CR2 f4 K12
      have hn2 : (s.left - 1 == 0) = true := by simpa using hz
      clear h1 h2 d1 d2 hW1 hW2 k1 k2 k12 z R2 ho2 CR hA hks hz hone f0 f1 f2 f3 f5 e0 e1 e2 e4 e5 hl0 hl1
      go_enter Try.func47, Try.ntmps47
      go_wp2_with fail
      refine CR2.out.mono ?_
      rintro e w5 ⟨rfl, fp5, ⟨lv5, kv5, fs5, ks5, d5, i5, j5⟩, q5, n5⟩
      have y5 := d5.cellAt.2.2.2.2.2
      have FIN : Hid (ROut w w5 (rfeet r lv (.slice ka ks0.length kc) fs) r A) := ⟨fp5, ⟨lv5, kv5, fs5, ks5, d5, i5, j5⟩, K12.out.trans q5 (Newly.refl _ _), (Newly.refl w _).trans n5 K12.out.size⟩
      clear d5 i5 j5 q5 n5
      go_wp2
      go_ret
      exact ⟨rfl, FIN.out⟩
end

end Go.Proofs.Ytahhokhhgamelaa

namespace Go.Proofs.Ytahhokhhgamelaa
open Go.RowKit Go.Maps Go.Sort Go.Shelf

theorem place_none {l : List Ab} {n : List UInt8} (h : lookA l n = none) : placeA l n = -1 := by
  refine placeA_no l n (fun j hj e => ?_)
  unfold lookA at h
  have := List.find?_eq_none.1 h l[j] (List.getElem_mem hj)
  simp [e] at this

theorem place_some {l : List Ab} {n : List UInt8} {x : Ab} (h : lookA l n = some x) : ∃ k, ∃ hk : k < l.length, placeA l n = (k : Int) ∧ l[k] = x := by
  unfold lookA at h
  obtain ⟨h1, k, hk, rfl, h2⟩ := List.find?_eq_some_iff_getElem.1 h
  exact ⟨k, hk, placeA_at l n k hk (by simpa using h1) (fun j hj hjk e => by have := h2 j hjk; simp [e] at this), rfl⟩

section
variable {w : World} {fp : List Nat} {r : Nat} {l : List Ab} {s : Ds}

set_option maxRecDepth 100000 in
set_option maxHeartbeats 4000000 in
theorem Rk.size (h : Rk w fp r l s) (ho : okA l s) (hn : s.ops ≤ 1000000) (nm : ByteArray) : Calls Try.prog 25 #[.pointer (some ⟨r, 0, none⟩), .string nm] w fun e w' =>
    e = .returned (.tuple #[.int .i64 (sizeA (beginA l s) nm.data.toList).1, .int .i64 (sizeA (beginA l s) nm.data.toList).2]) ∧ ROut w w' fp r (beginA l s) := by
  have hll : l.length ≤ 1048576 := by have := ho.len; omega
  have BG := hide (h.begins ho hn hll)
  have ok1 := beginA_ok ho
  have hl1 : (beginA l s).1.length ≤ 1048576 := by rw [beginA_len]; exact hll
  obtain ⟨A, hA⟩ : ∃ A, A = beginA l s := ⟨_, rfl⟩
  rw [← hA] at BG ok1 hl1 ⊢
  have OK := hide ok1
  clear h ho ok1 hA
  obtain ⟨l1, s1⟩ := A
  simp only at BG OK hl1
  unfold sizeA errA
  simp only
  cases hd : s1.down with
  | true =>
    rw [hd] at BG
    rw [if_pos rfl]
    simp only
    go_enter Try.func25, Try.ntmps25
    go_wp2_with fail
    refine BG.out.mono ?_
    rintro e w1 ⟨rfl, o1⟩
    have O1 := hide o1
    clear o1
    go_wp2
    go_ret2
    exact ⟨rfl, O1.out⟩
  | false =>
    rw [hd] at BG
    rw [if_neg (by simp)]
    cases hx : lookA l1 nm.data.toList with
    | none =>
      simp only
      have hp := place_none hx
      go_enter Try.func25, Try.ntmps25
      go_wp2_with fail
      refine BG.out.mono ?_
      rintro e w1 ⟨rfl, o1⟩
      have O1 := hide o1
      obtain ⟨fp1, ⟨lv, kv, fs, ks, d1, i1, j1⟩, k1, n1⟩ := o1
      have D1 := hide d1
      clear i1 j1 k1 n1 d1
      go_wp2_with fail
      refine (refFind_any D1.out (by omega) nm).mono ?_
      rintro e w2 ⟨rfl, rfl⟩
      rw [hp]
      go_wp2
      go_ret2
      exact ⟨rfl, O1.out⟩
    | some x =>
      simp only
      obtain ⟨k, hk, hp, hkx⟩ := place_some hx
      obtain ⟨N, hN⟩ : ∃ N, N = x.2.1.length := ⟨_, rfl⟩
      rw [← hN]
      have HN := hide hN
      clear hN
      go_enter Try.func25, Try.ntmps25
      go_wp2_with fail
      refine BG.out.mono ?_
      rintro e w1 ⟨rfl, o1⟩
      have O1 := hide o1
      obtain ⟨fp1, ⟨lv, kv, fs, ks, d1, i1, j1⟩, k1, n1⟩ := o1
      have D1 := hide d1
      clear i1 j1 k1 n1 d1
      go_wp2_with fail
      refine (refFind_any D1.out (by omega) nm).mono ?_
      rintro e w2 ⟨rfl, rfl⟩
      rw [hp]
      have hfl := D1.out.len
      obtain ⟨g, cap, hlv, f0, f1, f2⟩ := D1.out.fileAt k (by omega)
      obtain ⟨_, hnow, _⟩ := D1.out.files k (by omega) hk
      obtain ⟨na, nc, hvn, _⟩ := hnow.form
      rw [hkx, ← HN.out] at hvn
      rw [hvn] at f1
      have c1 := D1.out.cellAt.2.1
      obtain ⟨n, hnn⟩ : ∃ n, n = fs.length := ⟨_, rfl⟩
      rw [hlv, ← hnn] at c1
      have hkn : (k : Int) < (n : Int) := by omega
      have hk0 : ¬ (k : Int) < 0 := by omega
      clear hnow hvn f0 f2 hlv hnn
      go_wp2
      go_ret2
      exact ⟨rfl, O1.out⟩

/-- The blocks of a disk whose row is another, all of it new. -/
theorem rfeet_new {w w' : World} {r : Nat} {lv lv' kv : Value} {fs gs : List Rf} (hk : Kept [r] w w') (hl : ∀ x ∈ own lv', w.heap.size ≤ x) (hg : ∀ f ∈ gs, f ∈ fs) : Kept (rfeet r lv kv fs) w w' ∧ Newly w (rfeet r lv kv fs) (rfeet r lv' kv gs) := by
  refine ⟨hk.mono (by simp [rfeet]), fun x hx => ?_⟩
  simp only [rfeet, List.mem_append, List.mem_cons, List.mem_flatMap] at hx ⊢
  rcases hx with ((hx | hx) | hx) | ⟨f, hf, hx⟩
  · exact .inl (.inl (.inl (.inl hx)))
  · exact .inr (hl x hx)
  · exact .inl (.inl (.inr hx))
  · exact .inl (.inr ⟨f, hg f hf, hx⟩)

/-- What Remove answers, and leaves. -/
def dropA (A : List Ab × Ds) (n : List UInt8) : Int × (List Ab × Ds) := match errA A n with | some k => (k, A) | none => match lookA A.1 n with | some x => (0, removeA A x) | none => (0, A)

theorem eraseIdx_delA {l : List Ab} (hs : l.Pairwise (fun f g => f.1 < g.1)) (k : Nat) (hk : k < l.length) : l.eraseIdx k = delA l l[k].1 := by
  have e : l = l.take k ++ l[k] :: l.drop (k + 1) := by rw [← List.drop_eq_getElem_cons hk, List.take_append_drop]
  have h2 := delA_split (a := l.take k) (b := l.drop (k + 1)) (x := l[k]) (by rw [← e]; exact hs)
  rw [← e] at h2
  rw [h2, List.eraseIdx_eq_take_drop_succ]

set_option maxRecDepth 100000 in
set_option maxHeartbeats 4000000 in
theorem Rk.remove (h : Rk w fp r l s) (ho : okA l s) (hn : s.ops ≤ 1000000) (hs : (beginA l s).1.Pairwise (fun f g => f.1 < g.1)) (nm : ByteArray) : Calls Try.prog 31 #[.pointer (some ⟨r, 0, none⟩), .string nm] w fun e w' =>
    e = .returned (.int .i64 (dropA (beginA l s) nm.data.toList).1) ∧ ROut w w' fp r (dropA (beginA l s) nm.data.toList).2 := by
  have hll : l.length ≤ 1048576 := by have := ho.len; omega
  have BG := hide (h.begins ho hn hll)
  have hl1 : (beginA l s).1.length ≤ 1000000 := by rw [beginA_len]; have := ho.len; omega
  obtain ⟨A, hA⟩ : ∃ A, A = beginA l s := ⟨_, rfl⟩
  rw [← hA] at BG hl1 hs ⊢
  have HS := hide hs
  clear h ho hA hs
  obtain ⟨l1, s1⟩ := A
  simp only at BG hl1 HS
  unfold dropA errA
  simp only
  cases hd : s1.down with
  | true =>
    rw [hd] at BG
    rw [if_pos rfl]
    simp only
    go_enter Try.func31, Try.ntmps31
    go_wp2_with fail
    refine BG.out.mono ?_
    rintro e w1 ⟨rfl, o1⟩
    have O1 := hide o1
    clear o1
    go_wp2
    go_ret
    exact ⟨rfl, O1.out⟩
  | false =>
    rw [hd] at BG
    rw [if_neg (by simp)]
    cases hx : lookA l1 nm.data.toList with
    | none =>
      simp only
      have hp := place_none hx
      go_enter Try.func31, Try.ntmps31
      go_wp2_with fail
      refine BG.out.mono ?_
      rintro e w1 ⟨rfl, o1⟩
      have O1 := hide o1
      obtain ⟨fp1, ⟨lv, kv, fs, ks, d1, i1, j1⟩, k1, n1⟩ := o1
      have D1 := hide d1
      clear i1 j1 k1 n1 d1
      go_wp2_with fail
      refine (refFind_any D1.out (by omega) nm).mono ?_
      rintro e w2 ⟨rfl, rfl⟩
      rw [hp]
      go_wp2
      go_ret
      exact ⟨rfl, O1.out⟩
    | some x =>
      simp only
      obtain ⟨k, hk, hp, hkx⟩ := place_some hx
      have hk0 : ¬ (k : Int) < 0 := by omega
      have HX := hide hkx
      clear hkx
      go_enter Try.func31, Try.ntmps31
      go_wp2_with fail
      refine BG.out.mono ?_
      rintro e w1 ⟨rfl, o1⟩
      have O1 := hide o1
      obtain ⟨fp1, ⟨lv, kv, fs, ks, d1, i1, j1⟩, k1, n1⟩ := o1
      have D1 := hide (And.intro d1 (And.intro i1 (And.intro j1 (And.intro k1 n1))))
      clear i1 j1 k1 n1 d1 O1
      go_wp2_with fail
      refine (refFind_any D1.out.1 (by omega) nm).mono ?_
      rintro e w2 ⟨rfl, rfl⟩
      rw [hp]
      go_wp2_with fail
      refine (refCut_any D1.out.1 k hk hl1).mono ?_
      rintro e w3 ⟨rfl, lv', d3, k3, n3⟩
      have FIN : Hid (ROut w w3 fp r (removeA (l1, s1) x)) := by
        obtain ⟨d1, i1, j1, k1, n1⟩ := D1.out
        obtain ⟨b1, b2⟩ := rfeet_new (lv := lv) (kv := kv) (fs := fs) (gs := fs.eraseIdx k) k3 n3 (fun f hf => List.mem_of_mem_eraseIdx hf)
        subst j1
        refine ⟨_, ⟨lv', kv, fs.eraseIdx k, ks, ?_, i1, rfl⟩, k1.trans b1 n1, n1.trans b2 k1.size⟩
        show RefAt w3 r lv' kv (fs.eraseIdx k) (delA l1 x.1) ks s1.room s1.ops s1.left s1.down
        rw [← HX.out, ← eraseIdx_delA HS.out k hk]
        exact d3
      clear d3 k3 n3
      go_wp2
      go_ret
      exact ⟨rfl, FIN.out⟩

set_option maxRecDepth 100000 in
set_option maxHeartbeats 4000000 in
theorem Rk.create (h : Rk w fp r l s) (ho : okA l s) (hn : s.ops ≤ 900000) (nm : ByteArray) (hnm : nm.size ≤ maxLen) : Calls Try.prog 17 #[.pointer (some ⟨r, 0, none⟩), .string nm] w fun e w' =>
    e = .returned (.int .i64 (createA (beginA l s) nm.data.toList).1) ∧ ROut w w' fp r (createA (beginA l s) nm.data.toList).2 := by
  have hll : l.length ≤ 1048576 := by have := ho.len; omega
  have BG := hide (h.begins ho (by omega) hll)
  have hl1 : (beginA l s).1.length ≤ 1000000 := by rw [beginA_len]; have := ho.len; omega
  obtain ⟨A, hA⟩ : ∃ A, A = beginA l s := ⟨_, rfl⟩
  rw [← hA] at BG hl1 ⊢
  clear h ho hA
  have MB := hide (fun W => refMay_any nm hnm W)
  obtain ⟨l1, s1⟩ := A
  simp only at BG hl1
  unfold createA
  simp only
  cases hd : s1.down with
  | true =>
    rw [hd] at BG
    rw [if_pos rfl]
    go_enter Try.func17, Try.ntmps17
    go_wp2_with fail
    refine BG.out.mono ?_
    rintro e w1 ⟨rfl, o1⟩
    have O1 := hide o1
    clear o1
    go_wp2
    go_ret
    exact ⟨rfl, O1.out⟩
  | false =>
    rw [hd] at BG
    rw [if_neg (by simp)]
    cases hm : mayB nm.data.toList with
    | false =>
      rw [hm] at MB
      rw [if_pos rfl]
      go_enter Try.func17, Try.ntmps17
      go_wp2_with fail
      refine BG.out.mono ?_
      rintro e w1 ⟨rfl, o1⟩
      have O1 := hide o1
      clear o1
      go_wp2_with fail
      refine (MB.out w1).mono ?_
      rintro e w2 ⟨rfl, rfl⟩
      go_wp2
      go_ret
      exact ⟨rfl, O1.out⟩
    | true =>
      rw [hm] at MB
      rw [if_neg (by simp)]
      cases hx : lookA l1 nm.data.toList with
      | some x =>
        simp only
        obtain ⟨k, hk, hp, hkx⟩ := place_some hx
        have hk0 : (0 : Int) ≤ (k : Int) := by omega
        clear hkx
        go_enter Try.func17, Try.ntmps17
        go_wp2_with fail
        refine BG.out.mono ?_
        rintro e w1 ⟨rfl, o1⟩
        have O1 := hide o1
        obtain ⟨fp1, ⟨lv, kv, fs, ks, d1, i1, j1⟩, k1, n1⟩ := o1
        have D1 := hide d1
        clear i1 j1 k1 n1 d1
        go_wp2_with fail
        refine (MB.out w1).mono ?_
        rintro e w2 ⟨rfl, rfl⟩
        go_wp2_with fail
        refine (refFind_any D1.out (by omega) nm).mono ?_
        rintro e w3 ⟨rfl, rfl⟩
        rw [hp]
        go_wp2
        go_ret
        exact ⟨rfl, O1.out⟩
      | none =>
        simp only
        have hp := place_none hx
        go_enter Try.func17, Try.ntmps17
        go_wp2_with fail
        refine BG.out.mono ?_
        rintro e w1 ⟨rfl, o1⟩
        obtain ⟨fp1, ⟨lv, kv, fs, ks, d1, i1, j1⟩, k1, n1⟩ := o1
        have D1 := hide (And.intro d1 (And.intro i1 (And.intro j1 (And.intro k1 n1))))
        clear i1 j1 k1 n1 d1
        go_wp2_with fail
        refine (MB.out w1).mono ?_
        rintro e w2 ⟨rfl, rfl⟩
        go_wp2_with fail
        refine (refFind_any D1.out.1 (by omega) nm).mono ?_
        rintro e w3 ⟨rfl, rfl⟩
        rw [hp]
        go_wp2_with fail
        refine (refPuts_any D1.out.1 nm (.slice none 0 0) (.slice none 0 0) (nm.data.toList, [], []) ⟨rfl, IsB.nil _, IsB.nil _⟩ (by simp [own, Value.ownBlock]) hl1).mono ?_
        rintro e w4 ⟨rfl, lv', gs, d4, k4, n4, g4⟩
        have FIN : Hid (ROut w w4 fp r (insA l1 (nm.data.toList, [], []), s1)) := by
          obtain ⟨d1, i1, j1, k1, n1⟩ := D1.out
          subst j1
          refine ⟨_, ⟨lv', kv, gs, ks, d4, i1, rfl⟩, k1.trans (k4.mono (fp' := rfeet r lv kv fs) (by simp [rfeet])) n1, n1.trans (fun x hx => ?_) k1.size⟩
          simp only [rfeet, List.mem_append, List.mem_cons, List.mem_flatMap] at hx ⊢
          rcases hx with ((hx | hx) | hx) | ⟨f, hf, hx⟩
          · exact .inl (.inl (.inl (.inl hx)))
          · exact .inr (n4 x hx)
          · exact .inl (.inl (.inr hx))
          · rcases g4 f hf with u | u
            · exact .inl (.inr ⟨f, u, hx⟩)
            · rw [u] at hx
              simp [own, Value.ownBlock] at hx
        clear d4 k4 n4 g4
        go_wp2
        go_ret
        exact ⟨rfl, FIN.out⟩
end

end Go.Proofs.Ytahhokhhgamelaa

namespace Go.Proofs.Ytahhokhhgamelaa
open Go.RowKit Go.Maps Go.Sort Go.Shelf

/-- What Sync answers, and leaves. -/
def syncA (A : List Ab × Ds) (n : List UInt8) : Int × (List Ab × Ds) := match errA A n with | some k => (k, A) | none => match lookA A.1 n with | some x => (0, (setA A.1 (x.1, x.2.1, x.2.1), A.2)) | none => (0, A)

theorem set_setA {l : List Ab} (hs : l.Pairwise (fun f g => f.1 < g.1)) (k : Nat) (hk : k < l.length) (y : Ab) (hy : y.1 = l[k].1) : l.set k y = setA l y := by
  have e : l = l.take k ++ l[k] :: l.drop (k + 1) := by rw [← List.drop_eq_getElem_cons hk, List.take_append_drop]
  have h2 := setA_split (a := l.take k) (b := l.drop (k + 1)) (x := l[k]) (y := y) (by rw [← e]; exact hs) hy
  rw [← e] at h2
  rw [h2, List.set_eq_take_append_cons_drop, if_pos hk]

section
variable {w : World} {fp : List Nat} {r : Nat} {l : List Ab} {s : Ds}

set_option maxRecDepth 100000 in
set_option maxHeartbeats 4000000 in
set_option linter.unusedSimpArgs false in
theorem Rk.sync (h : Rk w fp r l s) (ho : okA l s) (hn : s.ops ≤ 1000000) (hs : (beginA l s).1.Pairwise (fun f g => f.1 < g.1)) (nm : ByteArray) : Calls Try.prog 27 #[.pointer (some ⟨r, 0, none⟩), .string nm] w fun e w' =>
    e = .returned (.int .i64 (syncA (beginA l s) nm.data.toList).1) ∧ ROut w w' fp r (syncA (beginA l s) nm.data.toList).2 := by
  have hll : l.length ≤ 1048576 := by have := ho.len; omega
  have BG := hide (h.begins ho hn hll)
  have hl1 : (beginA l s).1.length ≤ 1000000 := by rw [beginA_len]; have := ho.len; omega
  obtain ⟨A, hA⟩ : ∃ A, A = beginA l s := ⟨_, rfl⟩
  rw [← hA] at BG hl1 hs ⊢
  have HS := hide hs
  have ok1 := beginA_ok ho
  rw [← hA] at ok1
  have HOK0 := hide ok1
  clear h ho hA hs ok1
  obtain ⟨l1, s1⟩ := A
  simp only at BG hl1 HS
  have HOK : Hid (okA l1 s1) := HOK0.out
  clear HOK0
  unfold syncA errA
  simp only
  cases hd : s1.down with
  | true =>
    rw [hd] at BG
    rw [if_pos rfl]
    simp only
    go_enter Try.func27, Try.ntmps27
    go_wp2_with fail
    refine BG.out.mono ?_
    rintro e w1 ⟨rfl, o1⟩
    have O1 := hide o1
    clear o1
    go_wp2
    go_ret
    exact ⟨rfl, O1.out⟩
  | false =>
    rw [hd] at BG
    rw [if_neg (by simp)]
    cases hx : lookA l1 nm.data.toList with
    | none =>
      simp only
      have hp := place_none hx
      go_enter Try.func27, Try.ntmps27
      go_wp2_with fail
      refine BG.out.mono ?_
      rintro e w1 ⟨rfl, o1⟩
      have O1 := hide o1
      obtain ⟨fp1, ⟨lv, kv, fs, ks, d1, i1, j1⟩, k1, n1⟩ := o1
      have D1 := hide d1
      clear i1 j1 k1 n1 d1
      go_wp2_with fail
      refine (refFind_any D1.out (by omega) nm).mono ?_
      rintro e w2 ⟨rfl, rfl⟩
      rw [hp]
      go_wp2
      go_ret
      exact ⟨rfl, O1.out⟩
    | some x =>
      simp only
      obtain ⟨k, hk, hp, hkx⟩ := place_some hx
      have hk0 : ¬ (k : Int) < 0 := by omega
      obtain ⟨xt, now, syn⟩ := x
      have HX := hide hkx
      clear hkx
      go_enter Try.func27, Try.ntmps27
      go_wp2_with fail
      refine BG.out.mono ?_
      rintro e w1 ⟨rfl, o1⟩
      obtain ⟨fp1, ⟨lv, kv, fs, ks, d1, i1, j1⟩, k1, n1⟩ := o1
      have d1 : RefAt w1 r lv kv fs l1 ks s1.room s1.ops s1.left s1.down := d1
      have D1 := hide (And.intro d1 (And.intro i1 (And.intro j1 (And.intro k1 n1))))
      have HFL := hide d1.len
      obtain ⟨g, cap, hlv, f0, f1, f2⟩ := d1.fileAt k (by have := HFL.out; omega)
      obtain ⟨hnm, hnow, hsyn⟩ := d1.files k (by have := HFL.out; omega) hk
      rw [HX.out] at hnm hnow hsyn
      simp only at hnm hnow hsyn
      obtain ⟨F, hF⟩ : ∃ F, F = fs[k]'(by have := HFL.out; omega) := ⟨_, rfl⟩
      rw [← hF] at f0 f1 f2 hnm hnow hsyn
      have HF := hide hF
      clear hF
      obtain ⟨t, vn, vs⟩ := F
      simp only at f0 f1 f2 hnm hnow hsyn
      obtain ⟨na, nc, hvn, _⟩ := hnow.form
      obtain ⟨N, hN⟩ : ∃ N, N = now.length := ⟨_, rfl⟩
      rw [← hN] at hvn
      subst hvn
      obtain ⟨n, hn2⟩ : ∃ n, n = fs.length := ⟨_, rfl⟩
      rw [← hn2] at hlv
      have hkn : (k : Int) < (n : Int) := by have := HFL.out; omega
      have LS : Hid (∀ W, Kept [] w1 W → W.cell? ⟨r, 1, none⟩ = some (.slice (some ⟨g, 0, none⟩) n cap) ∧ W.cell? ⟨g, k * 3 + 1, none⟩ = some (.slice na N nc)) := fun W q => ⟨q.cell (hlv ▸ d1.cellAt.2.1) (by simp), q.cell f1 (by simp)⟩
      have hrw := d1.row
      rw [hlv, ← hn2] at hrw
      have FZ : Hid (∀ W, Kept [] w1 W → W.cell? ⟨g, k * 3 + 2, none⟩ = some vs ∧ W.frozen? ⟨g, k * 3 + 2, none⟩ = false) := fun W q => ⟨q.cell f2 (by simp), World.ownsRow.frozenAt (ownsRow_kept hrw q (by simp)) (k * 3 + 2)⟩
      have INOW : Hid (∀ W, Kept [] w1 W → IsB W (.slice na N nc) now) := fun W q => hnow.kept q (by simp)
      have OA : Hid (RowB (w1.alloc (.cells #[] 5)).drew (.slice (some ⟨w1.heap.size, 0, none⟩) 0 0) []) := ⟨World.ownsRow_made w1 #[] 0 (Nat.zero_le _) (by unfold maxLen; omega) rfl, by simp⟩
      have Q0 : Hid (Kept [] w1 (w1.alloc (.cells #[] 5)).drew) := ((Kept.refl _ w1).alloc _).drew
      have N0 : Hid (Newly w1 [] (own (.slice (some ⟨w1.heap.size, 0, none⟩) 0 0))) := fun x hx => by simp [own, Value.ownBlock] at hx; exact .inr (by omega)
      have hfx := HOK.out.file _ (List.getElem_mem hk)
      rw [HX.out] at hfx
      have HLN : Hid (([] : List Int).length + now.length ≤ 1099511627776) := by show _ ≤ _; have := hfx.1; simp only at this; simp; omega
      have HNL : Hid (now.length = N) := hN.symm
      have HLV := hide (And.intro hlv hn2)
      have HIS := hide (And.intro hnm (And.intro hnow hsyn))
      clear i1 j1 k1 n1 d1 f0 f1 f2 hnm hnow hsyn hN hn2 hrw hlv hfx
      go_wp2_with fail
      refine (refFind_any D1.out.1 (by omega) nm).mono ?_
      rintro e w2 ⟨rfl, e2⟩
      subst e2
      rw [hp]
      go_upto_region 7 with fail
      refine Walk.start (S := (fun W => W.cell? ⟨r, 1, none⟩ = some (.slice (some ⟨g, 0, none⟩) n cap) ∧ W.cell? ⟨g, k * 3 + 1, none⟩ = some (.slice na N nc))) (L := 17) (by kernel_rfl) (LS.out _ (Kept.refl [] w2).drew) (fun hHeld => ?_)
      refine Walk.take (L := 17) (i := 0) (oi := { dst := some 16, op := Go.Op.move (Go.Operand.tmp 0), type := 26, pos := "ref.go:212", after := #[], guard := none }) (v := ?_) 0 (by kernel_rfl) (by kernel_rfl) (by kernel_rfl) rfl (by kernel_rfl) (by kernel_rfl) (by kernel_rfl) (fun _ _ _ h => h) (Or.inl ⟨by rfl, ?_⟩) (by assumption) ?_
      rotate_left
      · (intro W hSw; (try dsimp only at hSw); go_simp; (try with_reducible rfl))
      (try simp only [Act.put, List.setIfInBounds_toArray, List.set_cons_zero, List.set_cons_succ])
      refine Walk.take (L := 17) (i := 1) (oi := { dst := some 17, op := Go.Op.nilCheck (Go.Operand.tmp 16), type := 0, pos := "ref.go:212", after := #[{ on := 0, ground := Go.Ground.data }], guard := none }) (v := ?_) 1 (by kernel_rfl) (by kernel_rfl) (by kernel_rfl) rfl (by kernel_rfl) (by kernel_rfl) (by kernel_rfl) (fun _ _ _ h => h) (Or.inl ⟨by rfl, ?_⟩) (by assumption) ?_
      rotate_left
      · (intro W hSw; (try dsimp only at hSw); go_simp; (try with_reducible rfl))
      (try simp only [Act.put, List.setIfInBounds_toArray, List.set_cons_zero, List.set_cons_succ])
      refine Walk.take (L := 17) (i := 2) (oi := { dst := some 18, op := Go.Op.fieldAddr 51 (Go.Operand.tmp 17) 1, type := 0, pos := "ref.go:212", after := #[{ on := 1, ground := Go.Ground.data }], guard := none }) (v := ?_) 2 (by kernel_rfl) (by kernel_rfl) (by kernel_rfl) rfl (by kernel_rfl) (by kernel_rfl) (by kernel_rfl) (fun _ _ _ h => h) (Or.inl ⟨by rfl, ?_⟩) (by assumption) ?_
      rotate_left
      · (intro W hSw; (try dsimp only at hSw); go_simp; (try with_reducible rfl))
      (try simp only [Act.put, List.setIfInBounds_toArray, List.set_cons_zero, List.set_cons_succ])
      refine Walk.take (L := 17) (i := 3) (oi := { dst := some 19, op := Go.Op.load 49 (Go.Operand.tmp 18), type := 49, pos := "ref.go:212", after := #[{ on := 2, ground := Go.Ground.data }], guard := none }) (v := ?_) 3 (by kernel_rfl) (by kernel_rfl) (by kernel_rfl) rfl (by kernel_rfl) (by kernel_rfl) (by kernel_rfl) (fun _ _ _ h => h) (Or.inl ⟨by rfl, ?_⟩) (by assumption) ?_
      rotate_left
      · (intro W hSw; (try dsimp only at hSw); go_simp; (try with_reducible rfl))
      (try simp only [Act.put, List.setIfInBounds_toArray, List.set_cons_zero, List.set_cons_succ])
      refine Walk.take (L := 17) (i := 4) (oi := { dst := some 20, op := Go.Op.move (Go.Operand.tmp 6), type := 3, pos := "ref.go:212", after := #[], guard := none }) (v := ?_) 4 (by kernel_rfl) (by kernel_rfl) (by kernel_rfl) rfl (by kernel_rfl) (by kernel_rfl) (by kernel_rfl) (fun _ _ _ h => h) (Or.inl ⟨by rfl, ?_⟩) (by assumption) ?_
      rotate_left
      · (intro W hSw; (try dsimp only at hSw); go_simp; (try with_reducible rfl))
      (try simp only [Act.put, List.setIfInBounds_toArray, List.set_cons_zero, List.set_cons_succ])
      refine Walk.take (L := 17) (i := 6) (oi := { dst := some 22, op := Go.Op.move (Go.Operand.tmp 0), type := 26, pos := "ref.go:212", after := #[], guard := none }) (v := ?_) 6 (by kernel_rfl) (by kernel_rfl) (by kernel_rfl) rfl (by kernel_rfl) (by kernel_rfl) (by kernel_rfl) (fun _ _ _ h => h) (Or.inl ⟨by rfl, ?_⟩) (by assumption) ?_
      rotate_left
      · (intro W hSw; (try dsimp only at hSw); go_simp; (try with_reducible rfl))
      (try simp only [Act.put, List.setIfInBounds_toArray, List.set_cons_zero, List.set_cons_succ])
      refine Walk.take (L := 17) (i := 7) (oi := { dst := some 23, op := Go.Op.nilCheck (Go.Operand.tmp 22), type := 0, pos := "ref.go:212", after := #[{ on := 6, ground := Go.Ground.data }], guard := none }) (v := ?_) 7 (by kernel_rfl) (by kernel_rfl) (by kernel_rfl) rfl (by kernel_rfl) (by kernel_rfl) (by kernel_rfl) (fun _ _ _ h => h) (Or.inl ⟨by rfl, ?_⟩) (by assumption) ?_
      rotate_left
      · (intro W hSw; (try dsimp only at hSw); go_simp; (try with_reducible rfl))
      (try simp only [Act.put, List.setIfInBounds_toArray, List.set_cons_zero, List.set_cons_succ])
      refine Walk.take (L := 17) (i := 8) (oi := { dst := some 24, op := Go.Op.fieldAddr 51 (Go.Operand.tmp 23) 1, type := 0, pos := "ref.go:212", after := #[{ on := 7, ground := Go.Ground.data }], guard := none }) (v := ?_) 8 (by kernel_rfl) (by kernel_rfl) (by kernel_rfl) rfl (by kernel_rfl) (by kernel_rfl) (by kernel_rfl) (fun _ _ _ h => h) (Or.inl ⟨by rfl, ?_⟩) (by assumption) ?_
      rotate_left
      · (intro W hSw; (try dsimp only at hSw); go_simp; (try with_reducible rfl))
      (try simp only [Act.put, List.setIfInBounds_toArray, List.set_cons_zero, List.set_cons_succ])
      refine Walk.take (L := 17) (i := 9) (oi := { dst := some 25, op := Go.Op.load 49 (Go.Operand.tmp 24), type := 49, pos := "ref.go:212", after := #[{ on := 8, ground := Go.Ground.data }], guard := none }) (v := ?_) 9 (by kernel_rfl) (by kernel_rfl) (by kernel_rfl) rfl (by kernel_rfl) (by kernel_rfl) (by kernel_rfl) (fun _ _ _ h => h) (Or.inl ⟨by rfl, ?_⟩) (by assumption) ?_
      rotate_left
      · (intro W hSw; (try dsimp only at hSw); go_simp; (try with_reducible rfl))
      (try simp only [Act.put, List.setIfInBounds_toArray, List.set_cons_zero, List.set_cons_succ])
      refine Walk.take (L := 17) (i := 10) (oi := { dst := some 26, op := Go.Op.move (Go.Operand.tmp 6), type := 3, pos := "ref.go:212", after := #[], guard := none }) (v := ?_) 10 (by kernel_rfl) (by kernel_rfl) (by kernel_rfl) rfl (by kernel_rfl) (by kernel_rfl) (by kernel_rfl) (fun _ _ _ h => h) (Or.inl ⟨by rfl, ?_⟩) (by assumption) ?_
      rotate_left
      · (intro W hSw; (try dsimp only at hSw); go_simp; (try with_reducible rfl))
      (try simp only [Act.put, List.setIfInBounds_toArray, List.set_cons_zero, List.set_cons_succ])
      refine Walk.take (L := 17) (i := 11) (oi := { dst := some 27, op := Go.Op.indexAddr 49 (Go.Operand.tmp 25) (Go.Operand.tmp 26), type := 0, pos := "ref.go:212", after := #[{ on := 9, ground := Go.Ground.data }, { on := 10, ground := Go.Ground.data }], guard := none }) (v := ?_) 11 (by kernel_rfl) (by kernel_rfl) (by kernel_rfl) rfl (by kernel_rfl) (by kernel_rfl) (by kernel_rfl) (fun _ _ _ h => h) (Or.inl ⟨by rfl, ?_⟩) (by assumption) ?_
      rotate_left
      · (intro W hSw; (try dsimp only at hSw); go_simp; (try with_reducible rfl))
      (try simp only [Act.put, List.setIfInBounds_toArray, List.set_cons_zero, List.set_cons_succ])
      refine Walk.take (L := 17) (i := 12) (oi := { dst := some 28, op := Go.Op.fieldAddr 81 (Go.Operand.tmp 27) 1, type := 0, pos := "ref.go:212", after := #[{ on := 11, ground := Go.Ground.data }], guard := none }) (v := ?_) 12 (by kernel_rfl) (by kernel_rfl) (by kernel_rfl) rfl (by kernel_rfl) (by kernel_rfl) (by kernel_rfl) (fun _ _ _ h => h) (Or.inl ⟨by rfl, ?_⟩) (by assumption) ?_
      rotate_left
      · (intro W hSw; (try dsimp only at hSw); go_simp; (try with_reducible rfl))
      (try simp only [Act.put, List.setIfInBounds_toArray, List.set_cons_zero, List.set_cons_succ])
      refine Walk.take (L := 17) (i := 13) (oi := { dst := some 29, op := Go.Op.load 28 (Go.Operand.tmp 28), type := 28, pos := "ref.go:212", after := #[{ on := 12, ground := Go.Ground.data }], guard := none }) (v := ?_) 13 (by kernel_rfl) (by kernel_rfl) (by kernel_rfl) rfl (by kernel_rfl) (by kernel_rfl) (by kernel_rfl) (fun _ _ _ h => h) (Or.inl ⟨by rfl, ?_⟩) (by assumption) ?_
      rotate_left
      · (intro W hSw; (try dsimp only at hSw); go_simp; (try with_reducible rfl))
      (try simp only [Act.put, List.setIfInBounds_toArray, List.set_cons_zero, List.set_cons_succ])
      refine Walk.each (rs := [5]) (by kernel_rfl) (by simp) ?_
      intro iw hiw
      obtain rfl : iw = 5 := by simpa using hiw
      refine Walk.step (L := 17) rfl (fun K hK => ?_)
      go_simp
      refine hK.out _ _ (fun _ => LS.out _ ((Kept.refl [] w2).alloc _).drew) (fun hH => ?_)
      have hHeld := hH (by decide)
      clear hH hK K
      (try simp only [Act.put, List.setIfInBounds_toArray, List.set_cons_zero, List.set_cons_succ])
      refine Walk.each (rs := [14]) (by kernel_rfl) (by simp) ?_
      intro iw hiw
      obtain rfl : iw = 14 := by simpa using hiw
      refine Walk.step (L := 17) rfl (fun K hK => ?_)
      refine step_appendR _ rfl (.tmp 21) (.tmp 29) rfl (.slice (some ⟨w2.heap.size, 0, none⟩) 0 0) (.slice na N nc) [] now rfl OA.out rfl (INOW.out _ Q0.out) HLN.out ?_
      intro v5 w5 r5 k5 n5
      have P5 := hide (keptNewF Q0.out N0.out k5 n5)
      rw [List.nil_append] at r5
      obtain ⟨a5, p5, hv5, _⟩ := r5.isB.form
      rw [HNL.out] at hv5
      subst hv5
      have R5 := hide r5
      obtain ⟨c5, z5⟩ := FZ.out _ P5.out.1
      clear r5 k5 n5
      refine hK.out _ _ (fun _ => LS.out _ P5.out.1) (fun hH => ?_)
      have hHeld := hH (by decide)
      clear hH hK K
      (try simp only [Act.put, List.setIfInBounds_toArray, List.set_cons_zero, List.set_cons_succ])
      refine Walk.take (L := 17) (i := 15) (oi := { dst := some 31, op := Go.Op.indexAddr 49 (Go.Operand.tmp 19) (Go.Operand.tmp 20), type := 0, pos := "ref.go:212", after := #[{ on := 3, ground := Go.Ground.data }, { on := 4, ground := Go.Ground.data }, { on := 0, ground := Go.Ground.phase }, { on := 1, ground := Go.Ground.phase }, { on := 2, ground := Go.Ground.phase }, { on := 3, ground := Go.Ground.phase }, { on := 4, ground := Go.Ground.phase }, { on := 5, ground := Go.Ground.phase }, { on := 6, ground := Go.Ground.phase }, { on := 7, ground := Go.Ground.phase }, { on := 8, ground := Go.Ground.phase }, { on := 9, ground := Go.Ground.phase }, { on := 10, ground := Go.Ground.phase }, { on := 11, ground := Go.Ground.phase }, { on := 12, ground := Go.Ground.phase }, { on := 13, ground := Go.Ground.phase }, { on := 14, ground := Go.Ground.phase }], guard := none }) (v := ?_) 16 (by kernel_rfl) (by kernel_rfl) (by kernel_rfl) rfl (by kernel_rfl) (by kernel_rfl) (by kernel_rfl) (fun _ _ _ h => h) (Or.inl ⟨by rfl, ?_⟩) (by assumption) ?_
      rotate_left
      · (intro W hSw; (try dsimp only at hSw); go_simp; (try with_reducible rfl))
      (try simp only [Act.put, List.setIfInBounds_toArray, List.set_cons_zero, List.set_cons_succ])
      refine Walk.take (L := 17) (i := 16) (oi := { dst := some 32, op := Go.Op.fieldAddr 81 (Go.Operand.tmp 31) 2, type := 0, pos := "ref.go:212", after := #[{ on := 15, ground := Go.Ground.data }, { on := 0, ground := Go.Ground.phase }, { on := 1, ground := Go.Ground.phase }, { on := 2, ground := Go.Ground.phase }, { on := 3, ground := Go.Ground.phase }, { on := 4, ground := Go.Ground.phase }, { on := 5, ground := Go.Ground.phase }, { on := 6, ground := Go.Ground.phase }, { on := 7, ground := Go.Ground.phase }, { on := 8, ground := Go.Ground.phase }, { on := 9, ground := Go.Ground.phase }, { on := 10, ground := Go.Ground.phase }, { on := 11, ground := Go.Ground.phase }, { on := 12, ground := Go.Ground.phase }, { on := 13, ground := Go.Ground.phase }, { on := 14, ground := Go.Ground.phase }], guard := none }) (v := ?_) 16 (by kernel_rfl) (by kernel_rfl) (by kernel_rfl) rfl (by kernel_rfl) (by kernel_rfl) (by kernel_rfl) (fun _ _ _ h => h) (Or.inl ⟨by rfl, ?_⟩) (by assumption) ?_
      rotate_left
      · (intro W hSw; (try dsimp only at hSw); go_simp; (try with_reducible rfl))
      (try simp only [Act.put, List.setIfInBounds_toArray, List.set_cons_zero, List.set_cons_succ])
      refine Walk.each (rs := [17]) (by kernel_rfl) (by simp) ?_
      intro iw hiw
      obtain rfl : iw = 17 := by simpa using hiw
      refine Walk.step (L := 17) rfl (fun K hK => ?_)
      go_simp
      refine hK.out _ _ (fun h => absurd rfl h) (fun hH => ?_)
      clear hH hK K
      (try simp only [Act.put, List.setIfInBounds_toArray, List.set_cons_zero, List.set_cons_succ])
      refine Walk.done (by kernel_rfl) ?_ _
      have FIN : Hid (ROut w (w5.setCell ⟨g, k * 3 + 2, none⟩ (.slice a5 N p5)) fp r (setA l1 (xt, now, now), s1)) := by
        obtain ⟨d1, i1, j1, k1, n1⟩ := D1.out
        obtain ⟨hlv, hn2⟩ := HLV.out
        have d5 := d1.kept P5.out.1 (by simp)
        have hil : k < fs.length := by have := HFL.out; omega
        have hlow := d1.filesLow (t, .slice na N nc, vs) (by rw [HF.out]; exact List.getElem_mem hil)
        have hfree := fun y hy => (d1.free y hy).2 (t, .slice na N nc, vs) (by rw [HF.out]; exact List.getElem_mem hil)
        have hrl := d1.row_lt
        have q5 := P5.out.1
        have hs5 := d5.setF hlv k 2 (.slice a5 N p5) (t, .slice na N nc, .slice a5 N p5) (xt, now, now) (by rw [rcells_set2 fs k hil, ← HF.out]) ⟨HIS.out.1, (HIS.out.2.1).kept q5 (by simp), R5.out.isB⟩ (fun z hz => by
          rcases List.mem_append.1 hz with v | v
          · exact ⟨Nat.lt_of_lt_of_le (hlow z (List.mem_append.2 (.inl v))).1 q5.size, fun e3 => (hfree z e3).1 v⟩
          · refine ⟨R5.out.lt z v, fun e3 => ?_⟩
            have h1 := hrl z e3
            rcases P5.out.2 z v with x1 | x1
            · simp at x1
            · omega)
        subst j1
        have hset : l1.set k (xt, now, now) = setA l1 (xt, now, now) := set_setA HS.out k hk _ (by rw [HX.out])
        rw [hset] at hs5
        have a2 : Kept (rfeet r lv kv fs) w2 (w5.setCell ⟨g, k * 3 + 2, none⟩ (.slice a5 N p5)) := (q5.mono (fp' := rfeet r lv kv fs) (by simp)).trans (hs5.2.mono (fp' := rfeet r lv kv fs) (fun z hz => by simp only [rfeet, List.mem_append, List.mem_cons]; exact .inl (.inl (.inr hz)))) (Newly.refl _ _)
        refine ⟨_, ⟨lv, kv, _, ks, hs5.1, i1, rfl⟩, k1.trans a2 n1, n1.trans (fun z hz => ?_) k1.size⟩
        simp only [rfeet, List.mem_append, List.mem_cons, List.mem_flatMap] at hz ⊢
        rcases hz with ((hz | hz) | hz) | ⟨f, hf, hz⟩
        · exact .inl (.inl (.inl (.inl hz)))
        · exact .inl (.inl (.inl (.inr hz)))
        · exact .inl (.inl (.inr hz))
        · rcases List.mem_or_eq_of_mem_set hf with v | v
          · exact .inl (.inr ⟨f, v, hz⟩)
          · rw [v] at hz
            rcases hz with hz | hz
            · exact .inl (.inr ⟨(t, .slice na N nc, vs), by rw [HF.out]; exact List.getElem_mem hil, .inl hz⟩)
            · rcases P5.out.2 z hz with x1 | x1
              · simp at x1
              · exact .inr x1
      go_wp2
      go_ret
      exact ⟨rfl, FIN.out⟩
end

end Go.Proofs.Ytahhokhhgamelaa

namespace Go.Proofs.Ytahhokhhgamelaa
open Go.RowKit Go.Maps Go.Sort Go.Shelf

section
variable {w : World} {fp : List Nat} {r : Nat} {l : List Ab} {s : Ds}

set_option maxRecDepth 100000 in
set_option maxHeartbeats 4000000 in
theorem Rk.readAt_err (h : Rk w fp r l s) (ho : okA l s) (hn : s.ops ≤ 1000000) (nm : ByteArray) (a m : Int) {c : Int} (he : errA (beginA l s) nm.data.toList = some c) : Calls Try.prog 23 #[.pointer (some ⟨r, 0, none⟩), .string nm, .int .i64 a, .int .i64 m] w fun e w' =>
    e = .returned (.tuple #[.slice none 0 0, .int .i64 c]) ∧ ROut w w' fp r (beginA l s) := by
  have hll : l.length ≤ 1048576 := by have := ho.len; omega
  have BG := hide (h.begins ho hn hll)
  have hl1 : (beginA l s).1.length ≤ 1048576 := by rw [beginA_len]; exact hll
  obtain ⟨A, hA⟩ : ∃ A, A = beginA l s := ⟨_, rfl⟩
  rw [← hA] at BG hl1 he ⊢
  clear h ho hA
  obtain ⟨l1, s1⟩ := A
  simp only at BG hl1
  unfold errA at he
  simp only at he
  cases hd : s1.down with
  | true =>
    rw [hd] at BG
    rw [hd, if_pos rfl] at he
    simp only [Option.some.injEq] at he
    subst he
    go_enter Try.func23, Try.ntmps23
    go_wp2_with fail
    refine BG.out.mono ?_
    rintro e w1 ⟨rfl, o1⟩
    have O1 := hide o1
    clear o1
    go_wp2
    go_ret2
    exact ⟨rfl, O1.out⟩
  | false =>
    rw [hd] at BG
    rw [hd, if_neg (by simp)] at he
    cases hx : lookA l1 nm.data.toList with
    | some x =>
      rw [hx] at he
      cases he
    | none =>
      rw [hx] at he
      simp only [Option.some.injEq] at he
      subst he
      have hp := place_none hx
      go_enter Try.func23, Try.ntmps23
      go_wp2_with fail
      refine BG.out.mono ?_
      rintro e w1 ⟨rfl, o1⟩
      have O1 := hide o1
      obtain ⟨fp1, ⟨lv, kv, fs, ks, d1, i1, j1⟩, k1, n1⟩ := o1
      have D1 := hide d1
      clear i1 j1 k1 n1 d1
      go_wp2_with fail
      refine (refFind_any D1.out (by omega) nm).mono ?_
      rintro e w2 ⟨rfl, rfl⟩
      rw [hp]
      go_wp2
      go_ret2
      exact ⟨rfl, O1.out⟩

theorem errA_up {A : List Ab × Ds} {n : List UInt8} (h : errA A n = none) : A.2.down = false := by
  unfold errA at h
  split at h
  · cases h
  · rename_i hd
    simpa using hd

set_option maxRecDepth 100000 in
set_option maxHeartbeats 4000000 in
theorem Rk.read_arg (h : Rk w fp r l s) (ho : okA l s) (hn : s.ops ≤ 1000000) (nm : ByteArray) {x : Ab} (he : errA (beginA l s) nm.data.toList = none) (hx : lookA (beginA l s).1 nm.data.toList = some x) (a m : Int) (ha : -9223372036854775808 ≤ a ∧ a ≤ 9223372036854775807) (hno : a < 0 ∨ m < 0 ∨ (x.2.1.length : Int) - a < m) :
    Calls Try.prog 23 #[.pointer (some ⟨r, 0, none⟩), .string nm, .int .i64 a, .int .i64 m] w fun e w' => e = .returned (.tuple #[.slice none 0 0, .int .i64 1]) ∧ ROut w w' fp r (beginA l s) := by
  have hll : l.length ≤ 1048576 := by have := ho.len; omega
  have BG := hide (h.begins ho hn hll)
  have ok1 := beginA_ok ho
  have hl1 : (beginA l s).1.length ≤ 1048576 := by rw [beginA_len]; exact hll
  obtain ⟨A, hA⟩ : ∃ A, A = beginA l s := ⟨_, rfl⟩
  rw [← hA] at BG hl1 he hx ok1 ⊢
  have OK := hide ok1
  clear h ho hA ok1
  obtain ⟨l1, s1⟩ := A
  simp only at BG hl1 hx OK
  have hd : s1.down = false := errA_up he
  rw [hd] at BG
  obtain ⟨k, hk, hp, hkx⟩ := place_some hx
  obtain ⟨N, hN⟩ : ∃ N, N = x.2.1.length := ⟨_, rfl⟩
  rw [← hN] at hno
  have hNb : N ≤ 1073741824 := by
    have := OK.out.file l1[k] (List.getElem_mem hk)
    rw [hkx] at this
    omega
  have HN := hide hN
  have HX := hide hkx
  clear hN hx he hd hkx
  go_enter Try.func23, Try.ntmps23
  go_wp2_with fail
  refine BG.out.mono ?_
  rintro e w1 ⟨rfl, o1⟩
  have O1 := hide o1
  obtain ⟨fp1, ⟨lv, kv, fs, ks, d1, i1, j1⟩, k1, n1⟩ := o1
  have D1 : Hid (RefAt w1 r lv kv fs l1 ks s1.room s1.ops s1.left s1.down) := d1
  clear i1 j1 k1 n1 d1
  go_wp2_with fail
  refine (refFind_any D1.out (by omega) nm).mono ?_
  rintro e w2 ⟨rfl, rfl⟩
  rw [hp]
  have hfl := D1.out.len
  obtain ⟨g, cap, hlv, f0, f1, f2⟩ := D1.out.fileAt k (by omega)
  obtain ⟨_, hnow, _⟩ := D1.out.files k (by omega) hk
  obtain ⟨na, nc, hvn, _⟩ := hnow.form
  rw [HX.out, ← HN.out] at hvn
  rw [hvn] at f1
  have c1 := D1.out.cellAt.2.1
  obtain ⟨n, hnn⟩ : ∃ n, n = fs.length := ⟨_, rfl⟩
  rw [hlv, ← hnn] at c1
  have hkn : (k : Int) < (n : Int) := by omega
  have hk0 : ¬ (k : Int) < 0 := by omega
  clear hnow hvn f0 f2 hlv hnn
  by_cases h1 : a < 0
  · go_wp2
    go_ret2
    exact ⟨rfl, O1.out⟩
  · by_cases h2 : m < 0
    · go_wp2
      go_ret2
      exact ⟨rfl, O1.out⟩
    · by_cases h3 : (N : Int) < a
      · go_wp2
        go_ret2
        exact ⟨rfl, O1.out⟩
      · have h4 : (N : Int) - a < m := by omega
        have hw : IntKind.i64.wrap ((N : Int) - a) = (N : Int) - a := i64_small _ (by omega) (by omega)
        go_wp2
        go_ret2
        exact ⟨rfl, O1.out⟩

set_option maxRecDepth 100000 in
set_option maxHeartbeats 4000000 in
theorem Rk.read (h : Rk w fp r l s) (ho : okA l s) (hn : s.ops ≤ 1000000) (nm : ByteArray) {x : Ab} (he : errA (beginA l s) nm.data.toList = none) (hx : lookA (beginA l s).1 nm.data.toList = some x) (a m : Nat) (hno : a + m ≤ x.2.1.length) :
    Calls Try.prog 23 #[.pointer (some ⟨r, 0, none⟩), .string nm, .int .i64 a, .int .i64 m] w fun e w' => ∃ v, e = .returned (.tuple #[v, .int .i64 0]) ∧ RowB w' v ((x.2.1.drop a).take m) ∧
      ∃ fp', Rk w' fp' r (beginA l s).1 (beginA l s).2 ∧ Kept fp w w' ∧ Newly w fp fp' ∧ ∀ y ∈ own v, w.heap.size ≤ y ∧ y ∉ fp' := by
  have hll : l.length ≤ 1048576 := by have := ho.len; omega
  have BG := hide (h.begins ho hn hll)
  have ok1 := beginA_ok ho
  have hl1 : (beginA l s).1.length ≤ 1048576 := by rw [beginA_len]; exact hll
  obtain ⟨A, hA⟩ : ∃ A, A = beginA l s := ⟨_, rfl⟩
  rw [← hA] at BG hl1 he hx ok1 ⊢
  have OK := hide ok1
  clear h ho hA ok1
  obtain ⟨l1, s1⟩ := A
  simp only at BG hl1 hx OK
  have hd : s1.down = false := errA_up he
  rw [hd] at BG
  obtain ⟨k, hk, hp, hkx⟩ := place_some hx
  obtain ⟨N, hN⟩ : ∃ N, N = x.2.1.length := ⟨_, rfl⟩
  rw [← hN] at hno
  have hNb : N ≤ 1073741824 := by
    have := OK.out.file l1[k] (List.getElem_mem hk)
    rw [hkx] at this
    omega
  have HN := hide hN
  have HX := hide hkx
  clear hN hx he hd hkx
  go_enter Try.func23, Try.ntmps23
  go_wp2_with fail
  refine BG.out.mono ?_
  rintro e w1 ⟨rfl, o1⟩
  obtain ⟨fp1, q1, k1, n1⟩ := o1
  have O1 := hide (And.intro q1 (And.intro k1 n1))
  obtain ⟨lv, kv, fs, ks, d1, i1, j1⟩ := q1
  have D1 : Hid (RefAt w1 r lv kv fs l1 ks s1.room s1.ops s1.left s1.down) := d1
  clear i1 j1 k1 n1 d1
  go_wp2_with fail
  refine (refFind_any D1.out (by omega) nm).mono ?_
  rintro e w2 ⟨rfl, rfl⟩
  rw [hp]
  have hfl := D1.out.len
  obtain ⟨g, cap, hlv, f0, f1, f2⟩ := D1.out.fileAt k (by omega)
  obtain ⟨_, hnow, _⟩ := D1.out.files k (by omega) hk
  obtain ⟨na, nc, hvn, hnc⟩ := hnow.form
  rw [HX.out] at hvn hnc hnow
  rw [← HN.out] at hvn hnc
  rw [hvn] at f1 hnow
  have c1 := D1.out.cellAt.2.1
  obtain ⟨n, hnn⟩ : ∃ n, n = fs.length := ⟨_, rfl⟩
  rw [hlv, ← hnn] at c1
  have hkn : (k : Int) < (n : Int) := by omega
  have hk0 : ¬ (k : Int) < 0 := by omega
  have OA : Hid (RowB (w2.alloc (.cells #[] 5)) (.slice (some ⟨w2.heap.size, 0, none⟩) 0 0) []) := ⟨World.ownsRow_made w2 #[] 0 (Nat.zero_le _) (by unfold maxLen; omega) rfl, by simp⟩
  have Q0 : Hid (Kept [] w2 (w2.alloc (.cells #[] 5))) := (Kept.refl _ w2).alloc _
  have N0 : Hid (Newly w2 [] (own (.slice (some ⟨w2.heap.size, 0, none⟩) 0 0))) := fun x hx => by simp [own, Value.ownBlock] at hx; exact .inr (by omega)
  obtain ⟨XS, hXS⟩ : ∃ XS, XS = (x.2.1.drop a).take m := ⟨_, rfl⟩
  have hxl : XS.length = m := by rw [hXS, List.length_take, List.length_drop]; have := HN.out; omega
  have HLX : Hid (([] : List Int).length + XS.length ≤ 1099511627776) := by show _ ≤ _; rw [hxl]; simp; omega
  have HIN : Hid (IsB w2 (.slice na N nc) x.2.1) := hnow
  have HXS := hide hXS
  have FIN : Hid (∀ (v3 : Value) (w3 : World), Kept (own (.slice (some ⟨w2.heap.size, 0, none⟩) 0 0)) (w2.alloc (.cells #[] 5)) w3 → Newly (w2.alloc (.cells #[] 5)) (own (.slice (some ⟨w2.heap.size, 0, none⟩) 0 0)) (own v3) →
      ∃ fp', Rk w3 fp' r l1 s1 ∧ Kept fp w w3 ∧ Newly w fp fp' ∧ ∀ y ∈ own v3, w.heap.size ≤ y ∧ y ∉ fp') := by
    intro v3 w3 k3 n3
    obtain ⟨p1, p2⟩ := keptNewF Q0.out N0.out k3 n3
    obtain ⟨q1, k1, n1⟩ := O1.out
    refine ⟨fp1, q1.kept p1 (by simp), k1.trans (p1.mono (fp' := fp1) (by simp)) n1, n1, fun y hy => ?_⟩
    rcases p2 y hy with u | u
    · simp at u
    · exact ⟨Nat.le_trans k1.size u, fun e => by have := q1.lt y e; omega⟩
  have ha0 : ¬ (a : Int) < 0 := by omega
  have hm0 : ¬ (m : Int) < 0 := by omega
  have haN : ¬ (N : Int) < (a : Int) := by omega
  have hw : IntKind.i64.wrap ((N : Int) - (a : Int)) = (N : Int) - (a : Int) := i64_small _ (by omega) (by omega)
  have hmN : ¬ (N : Int) - (a : Int) < (m : Int) := by omega
  obtain ⟨z, hz⟩ : ∃ z, z = a + m := ⟨_, rfl⟩
  have hz1 : (a : Int) + (m : Int) = (z : Int) := by omega
  have hw2 : IntKind.i64.wrap (z : Int) = (z : Int) := i64_small _ (by omega) (by omega)
  have b1 : (a : Int) ≤ (z : Int) := by omega
  have b2 : (z : Int) ≤ (nc : Int) := by omega
  have b3 : (0 : Int) ≤ (a : Int) := by omega
  have b4 : a ≤ z := by omega
  have b5 : z ≤ nc := by omega
  have hza : z - a = m := by omega
  clear hnow hvn f0 f2 hlv hnn hz hXS hno
  by_cases hN0 : N = 0
  · have ha00 : a = 0 := by omega
    have hm00 : m = 0 := by omega
    subst hm00
    subst ha00
    subst hN0
    have hx0 : XS = [] := by simpa using hxl
    subst hx0
    have hz00 : z = 0 := by omega
    subst hz00
    cases na with
    | none =>
      have hnc0 : nc = 0 := by
        obtain ⟨a', c', e, _, q, _⟩ := HIN.out
        simp only [Value.slice.injEq] at e
        obtain ⟨rfl, _, rfl⟩ := e
        exact (q rfl).2
      subst hnc0
      have HSRC : Hid (IsB (w2.alloc (.cells #[] 5)) (.slice none 0 0) []) := IsB.nil _
      go_wp2_with (at_builtin; refine wp_appendR _ rfl _ _ rfl (.slice (some ⟨w2.heap.size, 0, none⟩) 0 0) (.slice none 0 0) [] [] rfl OA.out rfl HSRC.out HLX.out ?_; intro v3 w3 r3 k3 n3 _; have F3 := hide (FIN.out v3 w3 k3 n3); rw [List.nil_append] at r3; have R3 := hide r3; clear r3 k3 n3)
      go_ret2
      exact ⟨v3, rfl, R3.out, by simpa [own] using F3.out⟩
    | some ad =>
      by_cases hnc0 : nc = 0
      · subst hnc0
        have HSRC : Hid (IsB (w2.alloc (.cells #[] 5)) (.slice (some ad) 0 0) []) := ⟨_, 0, rfl, Nat.le_refl _, by simp, by simp, by simp⟩
        go_wp2_with (at_builtin; refine wp_appendR _ rfl _ _ rfl (.slice (some ⟨w2.heap.size, 0, none⟩) 0 0) (.slice (some ad) 0 0) [] [] rfl OA.out rfl HSRC.out HLX.out ?_; intro v3 w3 r3 k3 n3 _; have F3 := hide (FIN.out v3 w3 k3 n3); rw [List.nil_append] at r3; have R3 := hide r3; clear r3 k3 n3)
        go_ret2
        exact ⟨v3, rfl, R3.out, by simpa [own] using F3.out⟩
      · have HSRC : Hid (IsB (w2.alloc (.cells #[] 5)) (.slice (some ad) 0 nc) []) := ⟨_, nc, rfl, Nat.zero_le _, by simp, by simp, by simp⟩
        go_wp2_with (at_builtin; refine wp_appendR _ rfl _ _ rfl (.slice (some ⟨w2.heap.size, 0, none⟩) 0 0) (.slice (some ad) 0 nc) [] [] rfl OA.out rfl HSRC.out HLX.out ?_; intro v3 w3 r3 k3 n3 _; have F3 := hide (FIN.out v3 w3 k3 n3); rw [List.nil_append] at r3; have R3 := hide r3; clear r3 k3 n3)
        go_ret2
        exact ⟨v3, rfl, R3.out, by simpa [own] using F3.out⟩
  · obtain ⟨nb, no, nc', hne, _, _⟩ := HIN.out.opened (by have := HN.out; omega)
    simp only [Value.slice.injEq] at hne
    obtain ⟨rfl, hq1, rfl⟩ := hne
    clear hq1
    by_cases hca : nc = a
    · have hm00 : m = 0 := by omega
      subst hm00
      have hx0 : XS = [] := by simpa using hxl
      subst hx0
      have HSRC : Hid (IsB (w2.alloc (.cells #[] 5)) (.slice (some ⟨nb, no, none⟩) 0 0) []) := ⟨_, 0, rfl, Nat.le_refl _, by simp, by simp, by simp⟩
      go_wp2_with (at_builtin; refine wp_appendR _ rfl _ _ rfl (.slice (some ⟨w2.heap.size, 0, none⟩) 0 0) (.slice (some ⟨nb, no, none⟩) 0 0) [] [] rfl OA.out rfl HSRC.out HLX.out ?_; intro v3 w3 r3 k3 n3 _; have F3 := hide (FIN.out v3 w3 k3 n3); rw [List.nil_append] at r3; have R3 := hide r3; clear r3 k3 n3)
      go_ret2
      exact ⟨v3, rfl, R3.out, by simpa [own] using F3.out⟩
    · have HSRC : Hid (IsB (w2.alloc (.cells #[] 5)) (.slice (some ⟨nb, no + a, none⟩) m (nc - a)) XS) := by
        have := (HIN.out.kept Q0.out (by simp)).mid a m (by omega)
        rw [← HXS.out] at this
        exact this
      go_wp2_with (at_builtin; refine wp_appendR _ rfl _ _ rfl (.slice (some ⟨w2.heap.size, 0, none⟩) 0 0) (.slice (some ⟨nb, no + a, none⟩) m (nc - a)) [] XS rfl OA.out rfl HSRC.out HLX.out ?_; intro v3 w3 r3 k3 n3 _; have F3 := hide (FIN.out v3 w3 k3 n3); rw [List.nil_append] at r3; have R3 := hide r3; clear r3 k3 n3)
      go_ret2
      exact ⟨v3, rfl, by rw [← HXS.out]; exact R3.out, F3.out⟩
end

end Go.Proofs.Ytahhokhhgamelaa

namespace Go.Proofs.Ytahhokhhgamelaa
open Go.RowKit Go.Maps Go.Sort Go.Shelf

section
variable {w : World} {fp : List Nat} {r : Nat} {l : List Ab} {s : Ds}

/-- The fields that the law reads. -/
theorem Rk.cells (h : Rk w fp r l s) : w.cell? ⟨r, 0, none⟩ = some (.int .i64 s.room) ∧ w.cell? ⟨r, 2, none⟩ = some (.int .i64 s.ops) ∧ w.cell? ⟨r, 5, none⟩ = some (.bool s.down) ∧ ∀ o, w.frozen? ⟨r, o, none⟩ = false := by
  obtain ⟨lv, kv, fs, ks, h1, h2, rfl⟩ := h
  obtain ⟨c0, c1, c2, c3, c4, c5⟩ := h1.cellAt
  exact ⟨c0, c2, c5, fun o => frozen_of_heap h1.cells o⟩

/-- The field Down is stored: Restart. -/
theorem Rk.restart (h : Rk w fp r l s) : ROut w (w.setCell ⟨r, 5, none⟩ (.bool false)) fp r (l, { s with down := false }) := by
  obtain ⟨lv, kv, fs, ks, h1, h2, rfl⟩ := h
  have k : Kept [r] w (w.setCell ⟨r, 5, none⟩ (.bool false)) := (Kept.refl _ w).setCell (p := ⟨r, 5, none⟩) (.inl (by simp)) _
  refine ⟨_, ⟨lv, kv, fs, ks, h1.put k ?_, h2, rfl⟩, k.mono (by simp [rfeet]), Newly.refl _ _⟩
  have e := heap_setCell h1.cells 5 (.bool false)
  simpa using e

theorem Rk.used (h : Rk w fp r l s) (ho : okA l s) (hn : s.ops ≤ 1000000) : Calls Try.prog 43 #[.pointer (some ⟨r, 0, none⟩)] w fun e w' => e = .returned (.int .i64 s.used) ∧ w' = w := by
  have hu := ho.used
  obtain ⟨lv, kv, fs, ks, h1, h2, rfl⟩ := h
  rw [hu]
  exact refUsed_any h1 (fun x hx => by have := (ho.file x hx).1; omega) (by have := ho.fits; have := ho.room; omega) (by have := ho.len; omega)

theorem Rk.arm (h : Rk w fp r l s) (n : Int) (u : Value) (ks : List Bool) (hu : IsK w u ks) (hux : ks ≠ [] → ∀ x ∈ own u, x ≠ r) (hkl : ks.length ≤ 1099511627776) :
    Calls Try.prog 39 #[.pointer (some ⟨r, 0, none⟩), .int .i64 n, u] w fun e w' => e = .returned (.tuple #[]) ∧ ROut w w' fp r (armA l s n ks) := by
  obtain ⟨lv, kv, fs, ks0, h1, h2, rfl⟩ := h
  refine (refArm_any h1 n u ks hu hux hkl).mono ?_
  rintro e w' ⟨rfl, kv', d, k, nw⟩
  have hN : Newly w (rfeet r lv kv fs) (rfeet r lv kv' fs) := fun x hx => by
    simp only [rfeet, List.mem_append, List.mem_cons] at hx ⊢
    rcases hx with ((hx | hx) | hx) | hx
    · exact .inl (.inl (.inl (.inl hx)))
    · exact .inl (.inl (.inl (.inr hx)))
    · exact .inr (nw x hx)
    · exact .inl (.inr hx)
  refine ⟨rfl, rfeet r lv kv' fs, ?_, k.mono (by simp [rfeet]), hN⟩
  unfold armA
  split
  · rename_i h1n
    have e : max n 0 = 0 := by omega
    rw [e] at d
    exact ⟨lv, kv', fs, ks, d, fun hc => absurd hc (by simp), rfl⟩
  · rename_i h1n
    have e : max n 0 = n := by omega
    rw [e] at d
    exact ⟨lv, kv', fs, ks, d, fun _ => rfl, rfl⟩

theorem rk_new (room : Int) (w : World) : Calls Try.prog 14 #[.int .i64 room] w fun e w' => ∃ r fp, e = .returned (.pointer (some ⟨r, 0, none⟩)) ∧ Rk w' fp r [] { room := max room 0, used := 0, ops := 0, down := false, left := 0, keep := [] } ∧ Below w.heap.size w w' ∧ ∀ x ∈ fp, w.heap.size ≤ x := by
  refine (refNew_any room w).mono ?_
  rintro e w' ⟨rfl, d, b⟩
  refine ⟨_, _, rfl, ⟨_, _, _, _, d, fun h => absurd h (by simp), rfl⟩, b, fun x hx => ?_⟩
  simp [rfeet, own, Value.ownBlock] at hx
  omega
end

end Go.Proofs.Ytahhokhhgamelaa

namespace Go.Proofs.Ytahhokhhgamelaa
open Go.RowKit Go.Maps Go.Sort Go.Shelf

section
variable {w : World} {r : Nat} {lv kv : Value} {fs : List Rf} {l : List Ab} {ks : List Bool} {s : Ds}

theorem writeA_no {l : List Ab} {s : Ds} {x : Ab} {at_ : Int} {cs : List Int} (h : (writeA l s x at_ cs).1 ≠ 0) : (writeA l s x at_ cs).2 = (l, s) := by
  unfold writeA at h ⊢
  split
  · rfl
  · split
    · rfl
    · rename_i h1 h2
      rw [if_neg h1, if_neg h2] at h
      exact absurd rfl h

set_option maxRecDepth 100000 in
set_option maxHeartbeats 4000000 in
theorem refWrites_no (h : RefAt w r lv kv fs l ks s.room s.ops s.left s.down) (ho : okA l s) (hn : s.ops ≤ 1000000) (k : Nat) (hk : k < l.length) (at_ : Int) (h64 : -9223372036854775808 ≤ at_ ∧ at_ ≤ 9223372036854775807) (ua : Option Addr) (un uc : Nat) (cs : List Int) (hcs : cs.length = un) (hcl : un ≤ 1073741824) (hno : (writeA l s l[k] at_ cs).1 ≠ 0) :
    Calls Try.prog 53 #[.pointer (some ⟨r, 0, none⟩), .int .i64 k, .int .i64 at_, .slice ua un uc] w fun e w' => e = .returned (.int .i64 (writeA l s l[k] at_ cs).1) ∧ ∃ m, w' = w.drewN m := by
  have hfx := ho.file l[k] (List.getElem_mem hk)
  obtain ⟨g, cap, hlv, f0, f1, f2⟩ := h.fileAt k (by rw [h.len]; exact hk)
  obtain ⟨hq1, hnow, hq2⟩ := h.files k (by rw [h.len]; exact hk) hk
  obtain ⟨na, nc, hvn, _⟩ := hnow.form
  have UA := hide (fun W (q : Kept [] w W) => refUsed_any (h.kept q (by simp)) (fun x hx => by have := (ho.file x hx).1; omega) (by have := ho.used; have := ho.fits; have := ho.room; omega) (by have := ho.len; omega))
  have hub : 0 ≤ usedB l := usedB_nonneg l
  have husd := ho.used
  have hfit := ho.fits
  have hroom := ho.room
  have husd2 := usedB_mem (List.getElem_mem hk)
  obtain ⟨N, hN⟩ : ∃ N, N = l[k].2.1.length := ⟨_, rfl⟩
  rw [← hN] at hvn hfx husd2
  rw [hvn] at f1
  have c0 := h.cellAt.1
  have c1 := h.cellAt.2.1
  obtain ⟨n, hnn⟩ : ∃ n, n = fs.length := ⟨_, rfl⟩
  rw [hlv, ← hnn] at c1
  have hkn : (k : Int) < (n : Int) := by have := h.len; omega
  have hwe : writeA l s l[k] at_ cs = if at_ < 0 ∨ (N : Int) < at_ then (1, (l, s)) else if s.room - s.used < sec (max N (at_.toNat + un)) - sec N then (6, (l, s)) else (0, (setA l (l[k].1, putA l[k].2.1 at_.toNat cs, l[k].2.2), { s with used := s.used + moreA l[k].2.1 at_.toNat cs })) := by
    unfold writeA moreA
    rw [hN, hcs]
  rw [hwe] at hno ⊢
  clear hwe hq1 hq2 hnow hvn f0 f2 hlv hN hnn h
  by_cases h1 : at_ < 0
  · rw [if_pos (.inl h1)]
    go_enter Try.func53, Try.ntmps53
    go_wp2
    go_ret
    first | exact ⟨rfl, 0, rfl⟩ | exact ⟨0, rfl⟩ | trivial
  · by_cases h2 : (N : Int) < at_
    · rw [if_pos (.inr h2)]
      go_enter Try.func53, Try.ntmps53
      go_wp2
      go_ret
      first | exact ⟨rfl, 0, rfl⟩ | exact ⟨0, rfl⟩ | trivial
    · rw [if_neg (by omega)] at hno ⊢
      obtain ⟨a, rfl⟩ : ∃ a : Nat, at_ = (a : Int) := ⟨at_.toNat, by omega⟩
      rw [Int.toNat_natCast] at hno ⊢
      have hfull : s.room - s.used < sec (max N (a + un)) - sec N := by
        rcases Decidable.em (s.room - s.used < sec (max N (a + un)) - sec N) with q | q
        · exact q
        · rw [if_neg q] at hno
          exact absurd rfl hno
      rw [if_pos hfull]
      obtain ⟨M, hM⟩ : ∃ M, M = max N (a + un) := ⟨_, rfl⟩
      have hmax : ∀ (ts : Array TypeId) (t : TypeId) (W : World), (Builtin.max_ ts t #[.int .i64 (N : Int), .int .i64 ((a : Int) + (un : Int))]).run Try.prog W = .ok (.int .i64 (M : Int)) W := by
        intro ts t W
        rw [run_max_int2]
        congr 2
        split <;> omega
      have hwa : IntKind.i64.wrap ((a : Int) + (un : Int)) = (a : Int) + (un : Int) := i64_small _ (by omega) (by omega)
      rw [← hM] at hfull
      have hMb : M ≤ 2147483648 := by omega
      have S1 := hide (fun W => refSectors_any N (by omega) W)
      have S2 := hide (fun W => refSectors_any M (by omega) W)
      have bX : 0 ≤ sec N ∧ sec N ≤ 1073741824 := by unfold sec; omega
      have bY : 0 ≤ sec M ∧ sec M ≤ 1073741824 := by unfold sec; omega
      rw [husd] at hfull hfit
      generalize sec N = X at S1 hfull bX husd2
      generalize sec M = Y at S2 hfull bY
      generalize usedB l = U at UA hub hfull hfit husd2
      have hw1 : IntKind.i64.wrap (U - X) = U - X := i64_small _ (by omega) (by omega)
      have hw2 : IntKind.i64.wrap (U - X + Y) = U - X + Y := i64_small _ (by omega) (by omega)
      have hgt : s.room < U - X + Y := by omega
      have KD := hide (fun m => (Kept.refl [] w).drewN m)
      clear hM husd hno hfull hfit
      go_enter Try.func53, Try.ntmps53
      go_wp2
      go_quiet (first | (go_at_call 43; exact Calls.quiet_of_same (UA.out _ (KD.out _))) | (go_at_call 62; first | exact Calls.quiet_of_same (S1.out _) | exact Calls.quiet_of_same (S2.out _)))
      go_wp2
      go_ret
      first | exact ⟨rfl, _, rfl⟩ | exact ⟨_, rfl⟩ | trivial
end

end Go.Proofs.Ytahhokhhgamelaa

namespace Go.Proofs.Ytahhokhhgamelaa
open Go.RowKit Go.Maps Go.Sort Go.Shelf

/-- The blocks of files are elder ones, or new. -/
def NewF (w : World) (old : List Nat) (fs' : List Rf) : Prop := ∀ f ∈ fs', ∀ z ∈ own f.2.1 ++ own f.2.2, z ∈ old ∨ w.heap.size ≤ z

section
variable {w : World} {r : Nat} {lv kv : Value} {fs : List Rf} {l : List Ab} {ks : List Bool} {s : Ds}

set_option maxRecDepth 100000 in
set_option maxHeartbeats 4000000 in
theorem refWrites_go (h : RefAt w r lv kv fs l ks s.room s.ops s.left s.down) (ho : okA l s) (hn : s.ops ≤ 1000000) (k : Nat) (hk : k < l.length) (a : Nat) (ua : Option Addr) (un uc : Nat) (cs : List Int) (hcs : cs.length = un) (hcl : un ≤ 1073741824) (hu : IsB w (.slice ua un uc) cs) (hs : l.Pairwise (fun f g => f.1 < g.1)) (ha : a ≤ l[k].2.1.length) (hroomy : ¬ s.room - s.used < moreA l[k].2.1 a cs) :
    Calls Try.prog 53 #[.pointer (some ⟨r, 0, none⟩), .int .i64 k, .int .i64 (a : Int), .slice ua un uc] w fun e w' => e = .returned (.int .i64 0) ∧ ∃ fs', RefAt w' r lv kv fs' (setA l (l[k].1, putA l[k].2.1 a cs, l[k].2.2)) ks s.room s.ops s.left s.down ∧ Kept (own lv) w w' ∧ NewF w (rfeet r lv kv fs) fs' := by
  have hkf : k < fs.length := by rw [h.len]; exact hk
  have hfx := ho.file l[k] (List.getElem_mem hk)
  obtain ⟨g, cap, hlv, f0, f1, f2⟩ := h.fileAt k (by rw [h.len]; exact hk)
  obtain ⟨hq1, hnow, hq2⟩ := h.files k (by rw [h.len]; exact hk) hk
  obtain ⟨na, nc, hvn, _⟩ := hnow.form
  have UA := hide (fun W (q : Kept [] w W) => refUsed_any (h.kept q (by simp)) (fun x hx => by have := (ho.file x hx).1; omega) (by have := ho.used; have := ho.fits; have := ho.room; omega) (by have := ho.len; omega))
  have hub : 0 ≤ usedB l := usedB_nonneg l
  have husd := ho.used
  have hfit := ho.fits
  have hroom := ho.room
  have husd2 := usedB_mem (List.getElem_mem hk)
  have H := hide h
  obtain ⟨x, hx⟩ : ∃ x, x = l[k] := ⟨_, rfl⟩
  obtain ⟨F, hF⟩ : ∃ F, F = fs[k]'hkf := ⟨_, rfl⟩
  rw [← hF] at hq1 hnow hq2 hvn f0 f1 f2
  rw [← hx] at hq1 hnow hq2 hvn hfx husd2 ha hroomy ⊢
  have HX := hide hx
  have HF := hide hF
  clear hx hF
  obtain ⟨xt, now, syn⟩ := x
  obtain ⟨t, vn, vs⟩ := F
  simp only at hq1 hnow hq2 hvn f0 f1 f2 hfx husd2 ha hroomy ⊢
  obtain ⟨N, hN⟩ : ∃ N, N = now.length := ⟨_, rfl⟩
  rw [← hN] at hvn hfx husd2 ha
  subst hvn
  have hcn : N ≤ nc := by
    obtain ⟨_, c', e, q, _⟩ := hnow
    simp only [Value.slice.injEq] at e
    omega
  have c0 := h.cellAt.1
  have c1 := h.cellAt.2.1
  obtain ⟨n, hnn⟩ : ∃ n, n = fs.length := ⟨_, rfl⟩
  rw [hlv, ← hnn] at c1
  have hkn : (k : Int) < (n : Int) := by have := h.len; omega
  have hrw := h.row
  rw [hlv, ← hnn] at hrw
  have CL : Hid (∀ W, Kept [] w W → W.cell? ⟨r, 1, none⟩ = some (.slice (some ⟨g, 0, none⟩) n cap) ∧ W.cell? ⟨g, k * 3 + 1, none⟩ = some (.slice na N nc) ∧ W.frozen? ⟨g, k * 3 + 1, none⟩ = false) := fun W q => ⟨q.cell c1 (by simp), q.cell f1 (by simp), World.ownsRow.frozenAt (ownsRow_kept hrw q (by simp)) (k * 3 + 1)⟩
  have HNOW := hide hnow
  have HU := hide hu
  have HFX : Hid (isF w (t, .slice na N nc, vs) (xt, now, syn)) := ⟨hq1, hnow, hq2⟩
  have HLV := hide (And.intro hlv hnn)
  have HS := hide hs
  have HNL := hide hN
  unfold moreA at hroomy
  rw [← hN, hcs] at hroomy
  have HCS := hide hcs
  obtain ⟨M, hM⟩ : ∃ M, M = max N (a + un) := ⟨_, rfl⟩
  obtain ⟨z, hz⟩ : ∃ z, z = a + un := ⟨_, rfl⟩
  have hmax : ∀ (ts : Array TypeId) (t : TypeId) (W : World), (Builtin.max_ ts t #[.int .i64 (N : Int), .int .i64 (z : Int)]).run Try.prog W = .ok (.int .i64 (M : Int)) W := by
    intro ts t W
    rw [run_max_int2]
    congr 2
    split <;> omega
  have hz1 : (a : Int) + (un : Int) = (z : Int) := by omega
  have hwz : IntKind.i64.wrap (z : Int) = (z : Int) := i64_small _ (by omega) (by omega)
  rw [← hM] at hroomy
  have hMb : M ≤ 2147483648 := by omega
  have S1 := hide (fun W => refSectors_any N (by omega) W)
  have S2 := hide (fun W => refSectors_any M (by omega) W)
  have bX : 0 ≤ sec N ∧ sec N ≤ 1073741824 := by unfold sec; omega
  have bY : 0 ≤ sec M ∧ sec M ≤ 1073741824 := by unfold sec; omega
  rw [husd] at hroomy hfit
  generalize sec N = X at S1 hroomy bX husd2
  generalize sec M = Y at S2 hroomy bY
  generalize usedB l = U at UA hub hroomy hfit husd2
  have hw1 : IntKind.i64.wrap (U - X) = U - X := i64_small _ (by omega) (by omega)
  have hw2 : IntKind.i64.wrap (U - X + Y) = U - X + Y := i64_small _ (by omega) (by omega)
  have hgt : ¬ s.room < U - X + Y := by omega
  have KD := hide (fun m => (Kept.refl [] w).drewN m)
  have ha1 : ¬ (a : Int) < 0 := by omega
  have ha2 : ¬ (N : Int) < (a : Int) := by omega
  have b0 : (0 : Int) ≤ (a : Int) := by omega
  have b1 : (a : Int) ≤ (nc : Int) := by omega
  have hzb : z ≤ 2147483648 ∧ N ≤ 1073741824 := by omega
  have HZ := hide hz
  clear hM husd hroomy hfit hq1 hq2 hnow hs hu hN hcs f0 f2 hlv hnn hrw h hz
  go_enter Try.func53, Try.ntmps53
  go_wp2
  go_quiet (first | (go_at_call 43; exact Calls.quiet_of_same (UA.out _ (KD.out _))) | (go_at_call 62; first | exact Calls.quiet_of_same (S1.out _) | exact Calls.quiet_of_same (S2.out _)))
  obtain ⟨wq, hwq⟩ : ∃ wq, wq = w.drewN nq := ⟨_, rfl⟩
  have QW : Hid (Kept [] w wq) := by rw [hwq]; exact KD.out nq
  rw [← hwq]
  clear hwq
  obtain ⟨o1, o2, o3⟩ := CL.out wq QW.out
  have IN1 := hide ((HNOW.out.take a (by omega)).kept QW.out (by simp))
  have OS0 : Hid (OutS wq (wq.alloc (.cells #[] 5)) (.slice (some ⟨wq.heap.size, 0, none⟩) 0 0) []) := ⟨⟨World.ownsRow_made wq #[] 0 (Nat.zero_le _) (by unfold maxLen; omega) rfl, by simp⟩, fun x hx => by simp [own, Value.ownBlock] at hx; omega, (Kept.refl _ wq).alloc _⟩
  have QA : Hid (Kept [] wq (wq.alloc (.cells #[] 5))) := (Kept.refl _ wq).alloc _
  have hl1 : (now.take a).length = a := by rw [List.length_take, ← HNL.out]; omega
  have HL1 : Hid (([] : List Int).length + (now.take a).length ≤ 1099511627776) := by show _ ≤ _; rw [hl1]; simp; omega
  have HL2 : Hid ((now.take a).length + cs.length ≤ 1099511627776) := by show _ ≤ _; rw [hl1, HCS.out]; omega
  have HL12 : Hid ((now.take a ++ cs).length = z) := by show _ = _; rw [List.length_append, hl1, HCS.out]; have := HZ.out; omega
  have HT1 := hide hl1
  clear hl1
  have FIN : Hid (∀ (w5 : World) (vo : Value), OutS wq w5 vo (putA now a cs) → ∃ fs', RefAt (w5.setCell ⟨g, k * 3 + 1, none⟩ vo) r lv kv fs' (setA l (xt, putA now a cs, syn)) ks s.room s.ops s.left s.down ∧ Kept (own lv) w (w5.setCell ⟨g, k * 3 + 1, none⟩ vo) ∧ NewF w (rfeet r lv kv fs) fs') := by
    intro w5 vo O5
    have q5 := QW.out.trans O5.kept (Newly.refl _ _)
    have d5 := H.out.kept q5 (by simp)
    have hlow := H.out.filesLow (t, .slice na N nc, vs) (by rw [HF.out]; exact List.getElem_mem hkf)
    have hfree := fun y hy => (H.out.free y hy).2 (t, .slice na N nc, vs) (by rw [HF.out]; exact List.getElem_mem hkf)
    have hrl := H.out.row_lt
    have hs5 := d5.setF HLV.out.1 k 1 vo (t, vo, vs) (xt, putA now a cs, syn) (by rw [rcells_set1 fs k hkf, ← HF.out]) ⟨HFX.out.1, O5.row.isB, (HFX.out.2.2).kept q5 (by simp)⟩ (fun y hy => by
      rcases List.mem_append.1 hy with v | v
      · refine ⟨O5.row.lt y v, fun e3 => ?_⟩
        have h1 := hrl y e3
        have h2 := O5.fresh y v
        have h3 := QW.out.size
        omega
      · exact ⟨Nat.lt_of_lt_of_le (hlow y (List.mem_append.2 (.inr v))).1 q5.size, fun e3 => (hfree y e3).2 v⟩)
    have hset : l.set k (xt, putA now a cs, syn) = setA l (xt, putA now a cs, syn) := set_setA HS.out k hk _ (by rw [← HX.out])
    rw [hset] at hs5
    refine ⟨_, hs5.1, (q5.mono (fp' := own lv) (by simp)).trans hs5.2 (Newly.refl _ _), fun f hf y hy => ?_⟩
    rcases List.mem_or_eq_of_mem_set hf with v | v
    · exact .inl (by simp only [rfeet, List.mem_append, List.mem_flatMap]; exact .inr ⟨f, v, by simpa only [List.mem_append] using hy⟩)
    · rw [v] at hy
      rcases List.mem_append.1 hy with v | v
      · exact .inr (Nat.le_trans QW.out.size (O5.fresh y v))
      · exact .inl (by simp only [rfeet, List.mem_append, List.mem_flatMap]; exact .inr ⟨(t, .slice na N nc, vs), by rw [HF.out]; exact List.getElem_mem hkf, .inr v⟩)
  by_cases hzN : z < N
  · have hzN' : (z : Int) < (N : Int) := by omega
    obtain ⟨nb, no, nc', hne, _, _⟩ := HNOW.out.opened (by have := HNL.out; omega)
    simp only [Value.slice.injEq] at hne
    obtain ⟨rfl, hq1, rfl⟩ := hne
    clear hq1
    have hzc : ¬ nc = z := by omega
    have hnc0 : ¬ nc = 0 := by omega
    have b2 : (0 : Int) ≤ (z : Int) := by omega
    have b3 : (z : Int) ≤ (N : Int) := by omega
    have b4 : (N : Int) ≤ (nc : Int) := by omega
    have b5 : z ≤ N := by omega
    have IN3 : Hid (IsB wq (.slice (some ⟨nb, no + z, none⟩) (N - z) (nc - z)) (now.drop z)) := by
      have h1 := (HNOW.out.kept QW.out (by simp)).mid z (N - z) (by omega)
      rw [List.take_of_length_le (by rw [List.length_drop, ← HNL.out]; omega)] at h1
      exact h1
    have HL3 : Hid ((now.take a ++ cs).length + (now.drop z).length ≤ 1099511627776) := by show _ ≤ _; rw [HL12.out, List.length_drop, ← HNL.out]; omega
    have HL33 : Hid ((now.take a ++ cs ++ now.drop z).length = N) := by show _ = _; rw [List.length_append, HL12.out, List.length_drop, ← HNL.out]; omega
    have HPUT : Hid (now.take a ++ cs ++ now.drop z = putA now a cs) := by show _ = _; rw [List.append_assoc, HZ.out, ← HCS.out]; rfl
    go_wp2_with (first | (at_builtin; refine wp_appendR _ rfl _ _ rfl (.slice a2 z p2) (.slice (some ⟨nb, no + z, none⟩) (N - z) (nc - z)) (now.take a ++ cs) (now.drop z) rfl OS2.out.row rfl (IN3.out.kept OS2.out.kept (by simp)) HL3.out ?_; intro v3 w3 r3 k3 n3 _; have OS3 := hide (OS2.out.turn (Kept.refl [] _) r3 k3 n3); obtain ⟨a3, p3, e3, _⟩ := r3.isB.form; rw [HL33.out] at e3; subst e3; clear r3 k3 n3; obtain ⟨u1, u2, u3⟩ := CL.out w3 (QW.out.trans OS3.out.kept (Newly.refl _ _))) | (at_builtin; refine wp_appendR _ rfl _ _ rfl (.slice a1 a p1) (.slice ua un uc) (now.take a) cs rfl OS1.out.row rfl ((HU.out.kept QW.out (by simp)).kept OS1.out.kept (by simp)) HL2.out ?_; intro v2 w2 r2 k2 n2 _; have OS2 := hide (OS1.out.turn (Kept.refl [] _) r2 k2 n2); obtain ⟨a2, p2, e2, _⟩ := r2.isB.form; rw [HL12.out] at e2; subst e2; clear r2 k2 n2) | (at_builtin; refine wp_appendR _ rfl _ _ rfl (.slice (some ⟨wq.heap.size, 0, none⟩) 0 0) (.slice (some ⟨nb, no, none⟩) a nc) [] (now.take a) rfl OS0.out.row rfl (IN1.out.kept QA.out (by simp)) HL1.out ?_; intro v1 w1 r1 k1 n1 _; have OS1 := hide (OS0.out.turn (Kept.refl [] _) r1 k1 n1); rw [List.nil_append] at r1 OS1; obtain ⟨a1, p1, e1, _⟩ := r1.isB.form; rw [HT1.out] at e1; subst e1; clear r1 k1 n1))
    go_ret
    have o9 := OS3.out
    rw [HPUT.out] at o9
    exact ⟨rfl, FIN.out _ _ o9⟩
  · have hzN' : ¬ (z : Int) < (N : Int) := by omega
    have HPUT : Hid (now.take a ++ cs = putA now a cs) := by
      show _ = _
      unfold putA
      rw [List.drop_of_length_le (by rw [← HNL.out, HCS.out]; have := HZ.out; omega), List.append_nil]
    go_wp2_with (first | (at_builtin; refine wp_appendR _ rfl _ _ rfl (.slice a1 a p1) (.slice ua un uc) (now.take a) cs rfl OS1.out.row rfl ((HU.out.kept QW.out (by simp)).kept OS1.out.kept (by simp)) HL2.out ?_; intro v2 w2 r2 k2 n2 _; have OS2 := hide (OS1.out.turn (Kept.refl [] _) r2 k2 n2); obtain ⟨a2, p2, e2, _⟩ := r2.isB.form; rw [HL12.out] at e2; subst e2; clear r2 k2 n2; obtain ⟨u1, u2, u3⟩ := CL.out w2 (QW.out.trans OS2.out.kept (Newly.refl _ _))) | (at_builtin; refine wp_appendR _ rfl _ _ rfl (.slice (some ⟨wq.heap.size, 0, none⟩) 0 0) (.slice na a nc) [] (now.take a) rfl OS0.out.row rfl (IN1.out.kept QA.out (by simp)) HL1.out ?_; intro v1 w1 r1 k1 n1 _; have OS1 := hide (OS0.out.turn (Kept.refl [] _) r1 k1 n1); rw [List.nil_append] at r1 OS1; obtain ⟨a1, p1, e1, _⟩ := r1.isB.form; rw [HT1.out] at e1; subst e1; clear r1 k1 n1))
    go_ret
    have o9 := OS2.out
    rw [HPUT.out] at o9
    exact ⟨rfl, FIN.out _ _ o9⟩
end

end Go.Proofs.Ytahhokhhgamelaa

namespace Go.Proofs.Ytahhokhhgamelaa
open Go.RowKit Go.Maps Go.Sort Go.Shelf

section
variable {w : World} {fp : List Nat} {r : Nat} {l : List Ab} {s : Ds}

set_option maxRecDepth 100000 in
set_option maxHeartbeats 4000000 in
theorem Rk.writeAt (h : Rk w fp r l s) (ho : okA l s) (hn : s.ops ≤ 900000) (hs : (beginA l s).1.Pairwise (fun f g => f.1 < g.1)) (nm : ByteArray) (at_ : Int) (h64 : -9223372036854775808 ≤ at_ ∧ at_ ≤ 9223372036854775807) (ua : Option Addr) (un uc : Nat) (cs : List Int) (hcs : cs.length = un) (hcl : un ≤ 1073741824) (hu : IsB w (.slice ua un uc) cs) (hux : cs ≠ [] → ∀ x ∈ own (.slice ua un uc), x ∉ fp) : Calls Try.prog 21 #[.pointer (some ⟨r, 0, none⟩), .string nm, .int .i64 at_, .slice ua un uc] w fun e w' =>
    e = .returned (.int .i64 (writeAtA (beginA l s) nm.data.toList at_ cs).1) ∧ ROut w w' fp r (writeAtA (beginA l s) nm.data.toList at_ cs).2 := by
  have hll : l.length ≤ 1048576 := by have := ho.len; omega
  have BG := hide (h.begins ho (by omega) hll)
  have hl1 : (beginA l s).1.length ≤ 1000000 := by rw [beginA_len]; have := ho.len; omega
  obtain ⟨A, hA⟩ : ∃ A, A = beginA l s := ⟨_, rfl⟩
  rw [← hA] at BG hl1 hs ⊢
  have HS := hide hs
  have ok1 := beginA_ok ho
  have hop1 : (beginA l s).2.ops ≤ 1000000 := by rw [beginA_ops]; omega
  rw [← hA] at ok1 hop1
  have HOK0 := hide (And.intro ok1 hop1)
  clear h ho hA hs ok1 hop1
  obtain ⟨l1, s1⟩ := A
  simp only at BG hl1 HS
  have HOK : Hid (okA l1 s1 ∧ s1.ops ≤ 1000000) := HOK0.out
  clear HOK0
  unfold writeAtA errA
  simp only
  cases hd : s1.down with
  | true =>
    rw [hd] at BG
    rw [if_pos rfl]
    simp only
    go_enter Try.func21, Try.ntmps21
    go_wp2_with fail
    refine BG.out.mono ?_
    rintro e w1 ⟨rfl, o1⟩
    have O1 := hide o1
    clear o1
    go_wp2
    go_ret
    exact ⟨rfl, O1.out⟩
  | false =>
    rw [hd] at BG
    rw [if_neg (by simp)]
    cases hx : lookA l1 nm.data.toList with
    | none =>
      simp only
      have hp := place_none hx
      go_enter Try.func21, Try.ntmps21
      go_wp2_with fail
      refine BG.out.mono ?_
      rintro e w1 ⟨rfl, o1⟩
      have O1 := hide o1
      obtain ⟨fp1, ⟨lv, kv, fs, ks, d1, i1, j1⟩, k1, n1⟩ := o1
      have D1 := hide d1
      clear i1 j1 k1 n1 d1
      go_wp2_with fail
      refine (refFind_any D1.out (by omega) nm).mono ?_
      rintro e w2 ⟨rfl, rfl⟩
      rw [hp]
      go_wp2
      go_ret
      exact ⟨rfl, O1.out⟩
    | some x =>
      simp only
      obtain ⟨k, hk, hp, hkx⟩ := place_some hx
      have hk0 : ¬ (k : Int) < 0 := by omega
      subst hkx
      go_enter Try.func21, Try.ntmps21
      go_wp2_with fail
      refine BG.out.mono ?_
      rintro e w1 ⟨rfl, o1⟩
      obtain ⟨fp1, ⟨lv, kv, fs, ks, d1, i1, j1⟩, k1, n1⟩ := o1
      have d1 : RefAt w1 r lv kv fs l1 ks s1.room s1.ops s1.left s1.down := d1
      have O1 : Hid (ROut w w1 fp r (l1, s1)) := ⟨fp1, ⟨lv, kv, fs, ks, d1, i1, j1⟩, k1, n1⟩
      have D1 := hide (And.intro d1 (And.intro i1 (And.intro j1 (And.intro k1 n1))))
      have HU1 := hide (hu.kept k1 hux)
      clear i1 j1 k1 n1 d1 hu
      go_wp2_with fail
      refine (refFind_any D1.out.1 (by omega) nm).mono ?_
      rintro e w2 ⟨rfl, e2⟩
      subst e2
      rw [hp]
      by_cases hz : (writeA l1 s1 l1[k] at_ cs).1 = 0
      · have hok : ¬ (at_ < 0 ∨ (l1[k].2.1.length : Int) < at_) ∧ ¬ s1.room - s1.used < moreA l1[k].2.1 at_.toNat cs := by
          unfold writeA at hz
          constructor
          · intro q
            rw [if_pos q] at hz
            cases hz
          · intro q
            by_cases q0 : at_ < 0 ∨ (l1[k].2.1.length : Int) < at_
            · rw [if_pos q0] at hz
              cases hz
            · rw [if_neg q0, if_pos q] at hz
              cases hz
        obtain ⟨a, rfl⟩ : ∃ a : Nat, at_ = (a : Int) := ⟨at_.toNat, by omega⟩
        rw [Int.toNat_natCast] at hok
        have hwe : writeA l1 s1 l1[k] (a : Int) cs = (0, (setA l1 (l1[k].1, putA l1[k].2.1 a cs, l1[k].2.2), { s1 with used := s1.used + moreA l1[k].2.1 a cs })) := by
          unfold writeA
          rw [if_neg hok.1, Int.toNat_natCast, if_neg hok.2]
        have HWE := hide hwe
        have HOK2 := hide hok
        have haL : a ≤ l1[k].2.1.length := by have := hok.1; omega
        clear hwe hz hok
        go_wp2_with fail
        refine (refWrites_go D1.out.1 HOK.out.1 HOK.out.2 k hk a ua un uc cs hcs hcl HU1.out HS.out haL (by have := HOK2.out.2; omega)).mono ?_
        rintro e w3 ⟨rfl, fs', d3, k3, n3⟩
        have FIN : Hid (ROut w w3 fp r (setA l1 (l1[k].1, putA l1[k].2.1 a cs, l1[k].2.2), { s1 with used := s1.used + moreA l1[k].2.1 a cs })) := by
          obtain ⟨d1, i1, j1, k1, n1⟩ := D1.out
          subst j1
          refine ⟨rfeet r lv kv fs', ⟨lv, kv, fs', ks, d3, i1, rfl⟩, k1.trans (k3.mono (fp' := rfeet r lv kv fs) (fun z hz => by simp only [rfeet, List.mem_append, List.mem_cons]; exact .inl (.inl (.inr hz)))) n1, n1.trans (fun z hz => ?_) k1.size⟩
          simp only [rfeet, List.mem_append, List.mem_cons, List.mem_flatMap] at hz
          rcases hz with ((hz | hz) | hz) | ⟨f, hf, hz⟩
          · exact .inl (by simp only [rfeet, List.mem_append, List.mem_cons]; exact .inl (.inl (.inl hz)))
          · exact .inl (by simp only [rfeet, List.mem_append, List.mem_cons]; exact .inl (.inl (.inr hz)))
          · exact .inl (by simp only [rfeet, List.mem_append, List.mem_cons]; exact .inl (.inr hz))
          · exact n3 f hf z (by simpa only [List.mem_append] using hz)
        clear d3 k3 n3
        go_wp2
        go_ret
        exact ⟨by rw [HWE.out]; rfl, by rw [HWE.out]; exact FIN.out⟩
      · have HWN := hide (writeA_no hz)
        go_wp2_with fail
        refine (refWrites_no D1.out.1 HOK.out.1 HOK.out.2 k hk at_ h64 ua un uc cs hcs hcl hz).mono ?_
        rintro e w3 ⟨rfl, mq, hw3⟩
        have FIN : Hid (ROut w w3 fp r (writeA l1 s1 l1[k] at_ cs).2) := by
          rw [HWN.out]
          obtain ⟨fp1, q1, q2, q3⟩ := O1.out
          rw [hw3]
          exact ⟨fp1, q1.below (below_drewN (Below.refl _ _) mq), q2.trans (Kept.refl fp1 _ |>.drewN mq) q3, q3⟩
        clear hw3 hz
        clear HWN
        go_wp2
        go_ret
        exact ⟨rfl, FIN.out⟩
end

end Go.Proofs.Ytahhokhhgamelaa

namespace Go.Proofs.Ytahhokhhgamelaa
open Go.RowKit Go.Maps Go.Sort Go.Shelf

section
variable {w : World} {fp : List Nat} {r : Nat} {l : List Ab} {s : Ds}

set_option maxRecDepth 100000 in
set_option maxHeartbeats 4000000 in
theorem Rk.append (h : Rk w fp r l s) (ho : okA l s) (hn : s.ops ≤ 900000) (hs : (beginA l s).1.Pairwise (fun f g => f.1 < g.1)) (nm : ByteArray) (ua : Option Addr) (un uc : Nat) (cs : List Int) (hcs : cs.length = un) (hcl : un ≤ 1073741824) (hu : IsB w (.slice ua un uc) cs) (hux : cs ≠ [] → ∀ x ∈ own (.slice ua un uc), x ∉ fp) : Calls Try.prog 19 #[.pointer (some ⟨r, 0, none⟩), .string nm, .slice ua un uc] w fun e w' =>
    e = .returned (.int .i64 (appendA (beginA l s) nm.data.toList cs).1) ∧ ROut w w' fp r (appendA (beginA l s) nm.data.toList cs).2 := by
  have hll : l.length ≤ 1048576 := by have := ho.len; omega
  have BG := hide (h.begins ho (by omega) hll)
  have hl1 : (beginA l s).1.length ≤ 1000000 := by rw [beginA_len]; have := ho.len; omega
  obtain ⟨A, hA⟩ : ∃ A, A = beginA l s := ⟨_, rfl⟩
  rw [← hA] at BG hl1 hs ⊢
  have HS := hide hs
  have ok1 := beginA_ok ho
  have hop1 : (beginA l s).2.ops ≤ 1000000 := by rw [beginA_ops]; omega
  rw [← hA] at ok1 hop1
  have HOK0 := hide (And.intro ok1 hop1)
  clear h ho hA hs ok1 hop1
  obtain ⟨l1, s1⟩ := A
  simp only at BG hl1 HS
  have HOK : Hid (okA l1 s1 ∧ s1.ops ≤ 1000000) := HOK0.out
  clear HOK0
  unfold appendA errA
  simp only
  cases hd : s1.down with
  | true =>
    rw [hd] at BG
    rw [if_pos rfl]
    simp only
    go_enter Try.func19, Try.ntmps19
    go_wp2_with fail
    refine BG.out.mono ?_
    rintro e w1 ⟨rfl, o1⟩
    have O1 := hide o1
    clear o1
    go_wp2
    go_ret
    exact ⟨rfl, O1.out⟩
  | false =>
    rw [hd] at BG
    rw [if_neg (by simp)]
    cases hx : lookA l1 nm.data.toList with
    | none =>
      simp only
      have hp := place_none hx
      go_enter Try.func19, Try.ntmps19
      go_wp2_with fail
      refine BG.out.mono ?_
      rintro e w1 ⟨rfl, o1⟩
      have O1 := hide o1
      obtain ⟨fp1, ⟨lv, kv, fs, ks, d1, i1, j1⟩, k1, n1⟩ := o1
      have D1 := hide d1
      clear i1 j1 k1 n1 d1
      go_wp2_with fail
      refine (refFind_any D1.out (by omega) nm).mono ?_
      rintro e w2 ⟨rfl, rfl⟩
      rw [hp]
      go_wp2
      go_ret
      exact ⟨rfl, O1.out⟩
    | some x =>
      simp only
      obtain ⟨k, hk, hp, hkx⟩ := place_some hx
      have hk0 : ¬ (k : Int) < 0 := by omega
      subst hkx
      obtain ⟨N, hN⟩ : ∃ N, N = l1[k].2.1.length := ⟨_, rfl⟩
      rw [← hN]
      have HN := hide hN
      clear hN
      go_enter Try.func19, Try.ntmps19
      go_wp2_with fail
      refine BG.out.mono ?_
      rintro e w1 ⟨rfl, o1⟩
      obtain ⟨fp1, ⟨lv, kv, fs, ks, d1, i1, j1⟩, k1, n1⟩ := o1
      have d1 : RefAt w1 r lv kv fs l1 ks s1.room s1.ops s1.left s1.down := d1
      have O1 : Hid (ROut w w1 fp r (l1, s1)) := ⟨fp1, ⟨lv, kv, fs, ks, d1, i1, j1⟩, k1, n1⟩
      have D1 := hide (And.intro d1 (And.intro i1 (And.intro j1 (And.intro k1 n1))))
      have HU1 := hide (hu.kept k1 hux)
      clear i1 j1 k1 n1 d1 hu
      go_wp2_with fail
      refine (refFind_any D1.out.1 (by omega) nm).mono ?_
      rintro e w2 ⟨rfl, e2⟩
      subst e2
      rw [hp]
      have hfl := D1.out.1.len
      obtain ⟨g, cap, hlv, f0, f1, f2⟩ := D1.out.1.fileAt k (by omega)
      obtain ⟨hq1, hnow, hq2⟩ := D1.out.1.files k (by omega) hk
      obtain ⟨na, nc, hvn, hnc⟩ := hnow.form
      rw [hvn] at f1
      have c1 := D1.out.1.cellAt.2.1
      obtain ⟨n, hnn⟩ : ∃ n, n = fs.length := ⟨_, rfl⟩
      rw [hlv, ← hnn] at c1
      have hkn : (k : Int) < (n : Int) := by omega
      have hlb := (HOK.out.1.file l1[k] (List.getElem_mem hk)).1
      rw [← HN.out] at f1 hlb
      clear hq1 hq2 hnow hvn hnc f0 f2 hlv hnn
      by_cases hz : (writeA l1 s1 l1[k] (N : Int) cs).1 = 0
      · have hok : ¬ ((N : Int) < 0 ∨ (l1[k].2.1.length : Int) < (N : Int)) ∧ ¬ s1.room - s1.used < moreA l1[k].2.1 (N : Int).toNat cs := by
          unfold writeA at hz
          constructor
          · intro q
            rw [if_pos q] at hz
            cases hz
          · intro q
            by_cases q0 : (N : Int) < 0 ∨ (l1[k].2.1.length : Int) < (N : Int)
            · rw [if_pos q0] at hz
              cases hz
            · rw [if_neg q0, if_pos q] at hz
              cases hz
        rw [Int.toNat_natCast] at hok
        have hwe : writeA l1 s1 l1[k] (N : Int) cs = (0, (setA l1 (l1[k].1, putA l1[k].2.1 N cs, l1[k].2.2), { s1 with used := s1.used + moreA l1[k].2.1 N cs })) := by
          unfold writeA
          rw [if_neg hok.1, Int.toNat_natCast, if_neg hok.2]
        have HWE := hide hwe
        have HOK2 := hide hok
        have haL : N ≤ l1[k].2.1.length := by rw [HN.out]; exact Nat.le_refl _
        clear hwe hz hok
        go_wp2_with fail
        refine (refWrites_go D1.out.1 HOK.out.1 HOK.out.2 k hk N ua un uc cs hcs hcl HU1.out HS.out haL (by have := HOK2.out.2; omega)).mono ?_
        rintro e w3 ⟨rfl, fs', d3, k3, n3⟩
        have FIN : Hid (ROut w w3 fp r (setA l1 (l1[k].1, putA l1[k].2.1 N cs, l1[k].2.2), { s1 with used := s1.used + moreA l1[k].2.1 N cs })) := by
          obtain ⟨d1, i1, j1, k1, n1⟩ := D1.out
          subst j1
          refine ⟨rfeet r lv kv fs', ⟨lv, kv, fs', ks, d3, i1, rfl⟩, k1.trans (k3.mono (fp' := rfeet r lv kv fs) (fun z hz => by simp only [rfeet, List.mem_append, List.mem_cons]; exact .inl (.inl (.inr hz)))) n1, n1.trans (fun z hz => ?_) k1.size⟩
          simp only [rfeet, List.mem_append, List.mem_cons, List.mem_flatMap] at hz
          rcases hz with ((hz | hz) | hz) | ⟨f, hf, hz⟩
          · exact .inl (by simp only [rfeet, List.mem_append, List.mem_cons]; exact .inl (.inl (.inl hz)))
          · exact .inl (by simp only [rfeet, List.mem_append, List.mem_cons]; exact .inl (.inl (.inr hz)))
          · exact .inl (by simp only [rfeet, List.mem_append, List.mem_cons]; exact .inl (.inr hz))
          · exact n3 f hf z (by simpa only [List.mem_append] using hz)
        clear d3 k3 n3
        go_wp2
        go_ret
        exact ⟨by rw [HWE.out]; rfl, by rw [HWE.out]; exact FIN.out⟩
      · have HWN := hide (writeA_no hz)
        go_wp2_with fail
        refine (refWrites_no D1.out.1 HOK.out.1 HOK.out.2 k hk (N : Int) (by omega) ua un uc cs hcs hcl hz).mono ?_
        rintro e w3 ⟨rfl, mq, hw3⟩
        have FIN : Hid (ROut w w3 fp r (writeA l1 s1 l1[k] (N : Int) cs).2) := by
          rw [HWN.out]
          obtain ⟨fp1, q1, q2, q3⟩ := O1.out
          rw [hw3]
          exact ⟨fp1, q1.below (below_drewN (Below.refl _ _) mq), q2.trans (Kept.refl fp1 _ |>.drewN mq) q3, q3⟩
        clear hw3 hz
        clear HWN
        go_wp2
        go_ret
        exact ⟨rfl, FIN.out⟩
end

end Go.Proofs.Ytahhokhhgamelaa
