/-
  Create, Crash, Arm, Restart, New and what is asked, by what is told of a disk. A lemma file: no statement of the seat is proved here.
-/
import Derived.Test.YtbhjdcoehgajcaaDCreate
namespace Go.Proofs.Ytbhjdcoehgajcaa
open Go.RowKit Go.Maps Go.Sort Go.Shelf

/-- What Create answers, and leaves. -/
def createA (A : List Ab × Ds) (n : List UInt8) : Int × (List Ab × Ds) :=
  if A.2.down then (7, A) else if mayB n = false then (1, A) else match lookA A.1 n with | some _ => (5, A) | none => (0, (insA A.1 (n, [], []), A.2))

theorem usedB_ins (l : List Ab) (x : Ab) : usedB (insA l x) = sec x.2.1.length + usedB l := by
  induction l with
  | nil => exact usedB_cons [] x
  | cons g r ih =>
    unfold insA
    split
    · rw [usedB_cons, ih, usedB_cons]
      omega
    · rw [usedB_cons]

theorem createA_ok {A : List Ab × Ds} (h : okA A.1 A.2) (n : List UInt8) (hl : (A.1.length : Int) + 1 ≤ A.2.ops) : okA (createA A n).2.1 (createA A n).2.2 := by
  unfold createA
  split
  · exact h
  · split
    · exact h
    · rename_i h1 h2
      cases lookA A.1 n with
      | some x => exact h
      | none =>
        have hp := insA_perm A.1 (n, [], [])
        have hu : usedB (insA A.1 (n, [], [])) = usedB A.1 := by
          rw [usedB_ins]
          simp [sec]
        refine ⟨fun x hx => ?_, by simp only; rw [hu]; exact h.used, h.fits, h.room, h.ops, ?_, h.left, h.keep, fun x hx => ?_⟩
        · rcases List.mem_cons.1 (hp.mem_iff.1 hx) with rfl | hx
          · exact Nat.le_refl _
          · exact h.ok x hx
        · simp only [hp.length_eq, List.length_cons]
          omega
        · rcases List.mem_cons.1 (hp.mem_iff.1 hx) with rfl | hx
          · simpa using h2
          · exact h.names x hx

theorem beginA_len (l : List Ab) (s : Ds) : (beginA l s).1.length = l.length := by
  unfold beginA
  split
  · rfl
  · split
    · rfl
    · exact crashA_len _ _ _

section
variable {w : World} {fp : List Nat} {p : Nat} {l : List Ab} {s : Ds}

set_option maxRecDepth 100000 in
set_option maxHeartbeats 4000000 in
theorem Dk.create (h : Dk w fp p l s) (hn : s.ops ≤ 1000000) (nm : ByteArray) (hnm : nm.size ≤ maxLen) : Calls Try.prog 25 #[.pointer (some ⟨p, 0, none⟩), .string nm] w fun e w' =>
    e = .returned (.int .i64 (createA (beginA l s) nm.data.toList).1) ∧ Outc w w' fp p (createA (beginA l s) nm.data.toList).2 := by
  obtain ⟨bm, kv, fs, d, rfl, rfl, ho⟩ := h
  have hok := beginA_ok ho
  have hcok := createA_ok hok nm.data.toList (by rw [beginA_len, beginA_ops]; have := ho.len; omega)
  have BG := begin_any d ho hn
  have hfl : (beginA (fs.map Fl.ab) s).1.length ≤ 1000000 := by rw [beginA_len]; have := ho.len; omega
  generalize beginA (fs.map Fl.ab) s = A at BG hok hcok hfl ⊢
  have HOK := hide hok
  have HNM := hide hnm
  have MB := hide (fun W => mayBe_any nm hnm W)
  clear d ho hok
  unfold createA at hcok ⊢
  by_cases hd : A.2.down = true
  · rw [if_pos hd] at BG ⊢
    have HB := hide BG
    clear BG hcok hfl
    go_enter Try.func25, Try.ntmps25
    go_wp2_with (go_at_call 42; refine HB.out.mono ?_; rintro e w1 ⟨rfl, kv1, fs1, s1, L1⟩; have HL := hide L1; clear L1)
    go_ret
    exact ⟨rfl, HL.out.outc HOK.out⟩
  · rw [if_neg hd] at BG hcok ⊢
    have HB := hide BG
    clear BG
    cases hm : mayB nm.data.toList with
    | false =>
      rw [hm] at MB
      simp only [if_true]
      clear hcok hfl
      go_enter Try.func25, Try.ntmps25
      go_wp2_with (first | (go_at_call 42; refine HB.out.mono ?_; rintro e w1 ⟨rfl, kv1, fs1, s1, L1⟩; have HL := hide L1; clear L1) | (go_at_call 43; refine (MB.out _).mono ?_; rintro e w2 ⟨rfl, rfl⟩))
      go_ret
      exact ⟨rfl, HL.out.outc HOK.out⟩
    | true =>
      rw [hm] at MB hcok
      simp only [Bool.true_eq_false, if_false] at hcok ⊢
      cases hlk : lookA A.1 nm.data.toList with
      | some x =>
        have HLK := hide hlk
        clear hcok hlk hfl
        go_enter Try.func25, Try.ntmps25
        go_wp2_with (first | (go_at_call 42; refine HB.out.mono ?_; rintro e w1 ⟨rfl, kv1, fs1, s1, L1⟩; have c0 := L1.1.cellAt.1; have LK := L1.1.look nm HNM.out; have e1 : lookA (fs1.map Fl.ab) nm.data.toList = some x := (by have := congrArg (fun y => y.1) L1.2.1; simp only at this; rw [this]; exact HLK.out); rw [look_ab] at e1; obtain ⟨f1, hf1, _⟩ := Option.map_eq_some_iff.1 e1; rw [hf1] at LK; unfold ptrOf at LK; simp only [Option.map_some] at LK; have HL := hide L1; clear L1 e1 hf1) | (go_at_call 43; refine (MB.out _).mono ?_; rintro e w2 ⟨rfl, rfl⟩))
        go_ret
        exact ⟨rfl, HL.out.outc HOK.out⟩
      | none =>
        rw [hlk] at hcok
        have HLK := hide hlk
        have HCOK := hide hcok
        have HFL := hide hfl
        clear hcok hlk hfl
        have hz : Hid (∀ (fs1 : List Fl) (s1 : Ds), (fs1.map Fl.ab, s1) = A → fs1.length < maxLen) := fun fs1 s1 e => by
          have := congrArg (fun y => y.1.length) e
          simp only [List.length_map] at this
          have h2 := HFL.out
          unfold maxLen
          omega
        go_enter Try.func25, Try.ntmps25
        go_wp2_with (first | (go_at_call 42; refine HB.out.mono ?_; rintro e w1 ⟨rfl, kv1, fs1, s1, L1⟩; have c0 := L1.1.cellAt.1; have LK := L1.1.look nm HNM.out; have e1 : lookA (fs1.map Fl.ab) nm.data.toList = none := (by have := congrArg (fun y => y.1) L1.2.1; simp only at this; rw [this]; exact HLK.out); rw [look_ab] at e1; have hf1 : look fs1 nm.data.toList = none := Option.map_eq_none_iff.1 e1; rw [hf1] at LK; unfold ptrOf at LK; simp only [Option.map_none] at LK; have hpl := L1.1.lt p (by simp [feet]); obtain ⟨D, hown, hD⟩ := L1.1.map; have HOW := hide hown; have HD := hide hD; have HF1 := hide hf1; have HL := hide L1; clear L1 e1 hf1 hown hD) | (go_at_call 43; refine (MB.out _).mono ?_; rintro e w2 ⟨rfl, rfl⟩) | (at_mapUpdate; refine wpList_mapUpdate_own _ rfl _ _ _ 72 rfl 9 67 strLaw Try.underlying72 ptrE bm fs1.length D rfl (HOW.out.alloc _) (hz.out fs1 s1 HL.out.2.1) _ _ (.string nm.data.toList) rfl rfl (WideMaps.keyOf_string_mk Try.underlying9 HNM.out) _ [] (ptrE_some _) ?_; intro w3 o3 g3; have O3 := hide o3; have G3 := hide g3; clear o3 g3))
        go_ret
        refine ⟨rfl, ?_⟩
        have q := disk_create HL.out.1 nm.data.toList HF1.out HD.out (HOW.out.tidy strLaw) O3.out (Kept.of_grown G3.out)
        have L2 : Left w2 w3 p bm kv1 fs1 kv1 (insF fs1 (newF nm.data.toList w2.heap.size)) s1 (insA A.1 (nm.data.toList, [], []), A.2) := by
          refine ⟨q.1, ?_, q.2.1, q.2.2⟩
          rw [insF_ab]
          have e1 := congrArg (fun y => y.1) HL.out.2.1
          have e2 := congrArg (fun y => y.2) HL.out.2.1
          simp only at e1 e2
          rw [e1, e2]
          rfl
        exact (Left.trans HL.out L2).outc HCOK.out

theorem Dk.crash (h : Dk w fp p l s) (hn : s.ops ≤ 1048576) (u : Value) (ks : List Bool) (hu : IsK w u ks) (hux : ks ≠ [] → ∀ x ∈ own u, x ∉ fp) (hkl : ks.length ≤ 1099511627776) :
    Calls Try.prog 22 #[.pointer (some ⟨p, 0, none⟩), u] w fun e w' => e = .returned (.tuple #[]) ∧ Outc w w' fp p (crashA ks l s) := by
  obtain ⟨bm, kv, fs, d, rfl, rfl, ho⟩ := h
  refine (crash_all d ho hn u ks hu hux hkl).mono ?_
  rintro e w' ⟨rfl, kv1, fs1, s1, L⟩
  exact ⟨rfl, L.outc (crashA_ok ho)⟩

/-- What Arm leaves. -/
def armA (l : List Ab) (s : Ds) (n : Int) (ks : List Bool) : List Ab × Ds := if n < 1 then (l, { s with left := 0, keep := [] }) else (l, { s with left := n, keep := ks })

theorem Dk.arm (h : Dk w fp p l s) (n : Int) (hn : n ≤ 9223372036854775807) (u : Value) (ks : List Bool) (hu : IsK w u ks) (hux : ks ≠ [] → ∀ x ∈ own u, x ∉ fp) (hkl : ks.length ≤ 1099511627776) :
    Calls Try.prog 41 #[.pointer (some ⟨p, 0, none⟩), .int .i64 n, u] w fun e w' => e = .returned (.tuple #[]) ∧ Outc w w' fp p (armA l s n ks) := by
  obtain ⟨bm, kv, fs, d, rfl, rfl, ho⟩ := h
  unfold armA
  by_cases h1 : n < 1
  · rw [if_pos h1]
    refine (arm_no d n h1 u).mono ?_
    rintro e w' ⟨rfl, d1, k1⟩
    exact ⟨rfl, _, ⟨bm, _, fs, d1, rfl, rfl, ⟨ho.ok, ho.used, ho.fits, ho.room, ho.ops, ho.len, ⟨by simp, by simp⟩, by simp, ho.names⟩⟩, k1.mono (by simp [feet]), Newly.of_sub feet_sub_nil⟩
  · rw [if_neg h1]
    refine (arm_go d n (by omega) u ks hu (fun hne x hx e => hux hne x hx (by simp [feet, e])) hkl).mono ?_
    rintro e w' ⟨rfl, kv1, d1, k1, n1⟩
    refine ⟨rfl, _, ⟨bm, kv1, fs, d1, rfl, rfl, ⟨ho.ok, ho.used, ho.fits, ho.room, ho.ops, ho.len, ⟨by simp only; omega, hn⟩, hkl, ho.names⟩⟩, k1.mono (by simp [feet]), fun x hx => ?_⟩
    simp only [feet, List.mem_cons, List.mem_append] at hx ⊢
    rcases hx with hx | hx | hx | hx
    · exact .inl (.inl hx)
    · exact .inl (.inr (.inl hx))
    · exact .inr (n1 x hx)
    · exact .inl (.inr (.inr (.inr hx)))

theorem Dk.restart (h : Dk w fp p l s) : Calls Try.prog 23 #[.pointer (some ⟨p, 0, none⟩)] w fun e w' => e = .returned (.tuple #[]) ∧ Outc w w' fp p (l, { s with down := false }) := by
  obtain ⟨bm, kv, fs, d, rfl, rfl, ho⟩ := h
  refine (restart_any d).mono ?_
  rintro e w' ⟨rfl, d1, k1⟩
  exact ⟨rfl, _, ⟨bm, kv, fs, d1, rfl, rfl, ⟨ho.ok, ho.used, ho.fits, ho.room, ho.ops, ho.len, ho.left, ho.keep, ho.names⟩⟩, k1.mono (by simp [feet]), Newly.refl _ _⟩

theorem Dk.ops (h : Dk w fp p l s) : Calls Try.prog 20 #[.pointer (some ⟨p, 0, none⟩)] w fun e w' => e = .returned (.int .i64 s.ops) ∧ w' = w := by
  obtain ⟨bm, kv, fs, d, rfl, rfl, ho⟩ := h
  exact ops_any d
end

/-- A new disk. -/
theorem new_dk (room : Int) (hr : room ≤ 67108864) (w : World) : Calls Try.prog 24 #[.int .i64 room] w fun e w' => e = .returned (.pointer (some ⟨w.heap.size + 1, 0, none⟩)) ∧
    ∃ fp, Dk w' fp (w.heap.size + 1) [] { room := max room 0, used := 0, ops := 0, down := false, left := 0, keep := [] } ∧ Below w.heap.size w w' ∧ ∀ x ∈ fp, w.heap.size ≤ x := by
  refine (new_any room w).mono ?_
  rintro e w' ⟨rfl, d, b⟩
  refine ⟨rfl, _, ⟨_, _, _, d, rfl, rfl, ⟨by simp [okAb], rfl, by simp only; omega, by simp only; omega, by simp, by simp, ⟨by simp, by simp⟩, by simp, by simp⟩⟩, b, ?_⟩
  intro x hx
  simp [feet, own, Value.ownBlock] at hx
  omega

end Go.Proofs.Ytbhjdcoehgajcaa
