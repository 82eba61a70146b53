/-
  What Crash does. A lemma file: no statement of the seat is proved here.
-/
import Derived.Test.YtbhjdcoehgajcaaDArm
namespace Go.Proofs.Ytbhjdcoehgajcaa
open Go.RowKit Go.Maps Go.Sort Go.Shelf

/-- A file as it is told: its name, its bytes now, and as synced. -/
abbrev Ab := List UInt8 × List Int × List Int

def Fl.ab (f : Fl) : Ab := (f.name, f.now, f.syn)

/-- The files behind a crash, and how many sectors were asked for. -/
def torn (ks : List Bool) : List Ab → Nat → List Ab × Nat
  | [], k => ([], k)
  | x :: r, k => ((x.1, (tearB ks x.2.1 x.2.2 k).1, (tearB ks x.2.1 x.2.2 k).1) :: (torn ks r (tearB ks x.2.1 x.2.2 k).2).1, (torn ks r (tearB ks x.2.1 x.2.2 k).2).2)

theorem torn_snoc (ks : List Bool) (xs : List Ab) (x : Ab) (k : Nat) :
    torn ks (xs ++ [x]) k = ((torn ks xs k).1 ++ [(x.1, (tearB ks x.2.1 x.2.2 (torn ks xs k).2).1, (tearB ks x.2.1 x.2.2 (torn ks xs k).2).1)], (tearB ks x.2.1 x.2.2 (torn ks xs k).2).2) := by
  induction xs generalizing k with
  | nil => simp [torn]
  | cons y xs ih => simp [torn, ih]

/-- How many sectors all files have. -/
def usedB (l : List Ab) : Int := (l.map fun x => sec x.2.1.length).sum

theorem usedB_nil : usedB [] = 0 := rfl
theorem usedB_snoc (xs : List Ab) (x : Ab) : usedB (xs ++ [x]) = usedB xs + sec x.2.1.length := by simp [usedB]
theorem usedB_cons (xs : List Ab) (x : Ab) : usedB (x :: xs) = sec x.2.1.length + usedB xs := by simp [usedB]
theorem usedB_append (xs ys : List Ab) : usedB (xs ++ ys) = usedB xs + usedB ys := by simp [usedB]
theorem sec_nonneg (n : Nat) : 0 ≤ sec n := by unfold sec; omega
theorem sec_mono {m n : Nat} (h : m ≤ n) : sec m ≤ sec n := by unfold sec; omega
theorem sec_le (n : Nat) (N : Int) (h : sec n ≤ N) : (n : Int) ≤ 16 * N := by unfold sec at h; omega
theorem usedB_nonneg (l : List Ab) : 0 ≤ usedB l := by
  induction l with
  | nil => simp [usedB]
  | cons x l ih => rw [usedB_cons]; have := sec_nonneg x.2.1.length; omega
theorem usedB_take (l : List Ab) (i : Nat) : usedB (l.take i) ≤ usedB l := by
  have h := usedB_append (l.take i) (l.drop i)
  rw [List.take_append_drop] at h
  have := usedB_nonneg (l.drop i)
  omega
theorem usedB_mem {l : List Ab} {x : Ab} (h : x ∈ l) : sec x.2.1.length ≤ usedB l := by
  obtain ⟨a, b, rfl⟩ := List.append_of_mem h
  rw [usedB_append, usedB_cons]
  have := usedB_nonneg a
  have := usedB_nonneg b
  omega

/-- A file's synced bytes are no more than those that it has. -/
def okAb (l : List Ab) : Prop := ∀ x ∈ l, x.2.2.length ≤ x.2.1.length

theorem tearB_len (ks : List Bool) (now syn : List Int) (k : Nat) (hs : syn.length ≤ now.length) : (tearB ks now syn k).1.length ≤ now.length ∧ syn.length ≤ (tearB ks now syn k).1.length ∧ (((tearB ks now syn k).2 : Nat) : Int) ≤ k + sec now.length := by
  have h := tearTo_len ks now syn k ((now.length + 15) / 16) (by omega) hs
  unfold tearB sec
  omega

theorem torn_used (ks : List Bool) (l : List Ab) (k : Nat) (h : okAb l) : usedB (torn ks l k).1 ≤ usedB l ∧ (((torn ks l k).2 : Nat) : Int) ≤ k + usedB l := by
  induction l generalizing k with
  | nil => simp [torn, usedB]
  | cons x l ih =>
    have h1 := tearB_len ks x.2.1 x.2.2 k (h x (by simp))
    have h2 := ih (tearB ks x.2.1 x.2.2 k).2 (fun y hy => h y (by simp [hy]))
    have h3 := sec_mono h1.1
    simp only [torn, usedB_cons]
    omega

theorem torn_ok (ks : List Bool) (l : List Ab) (k : Nat) : okAb (torn ks l k).1 := by
  induction l generalizing k with
  | nil => simp [torn, okAb]
  | cons x l ih =>
    intro y hy
    simp only [torn, List.mem_cons] at hy
    rcases hy with rfl | hy
    · exact Nat.le_refl _
    · exact ih _ y hy

theorem torn_length (ks : List Bool) (l : List Ab) (k : Nat) : (torn ks l k).1.length = l.length := by
  induction l generalizing k with
  | nil => rfl
  | cons x l ih => simp [torn, ih]

theorem torn_names (ks : List Bool) (l : List Ab) (k : Nat) : (torn ks l k).1.map (fun x => x.1) = l.map (fun x => x.1) := by
  induction l generalizing k with
  | nil => rfl
  | cons x l ih => simp [torn, ih]

/-- In the middle of a crash. -/
structure CrashSt (w0 wr : World) (p bm c : Nat) (kv : Value) (fs : List Fl) (s : Ds) (ks : List Bool) (i : Nat) (ds : List Fl) : Prop where
  disk : DiskAt wr p bm kv (ds ++ fs.drop i) { s with used := usedB (ds.map Fl.ab) }
  abs : ds.map Fl.ab = (torn ks ((fs.take i).map Fl.ab) 0).1
  cnt : wr.heap[c]? = some (.cells #[.int .i64 (torn ks ((fs.take i).map Fl.ab) 0).2] 3 (0, 0))
  kept : Kept (c :: feet p bm kv fs) w0 wr
  new : Newly w0 (feet p bm kv fs) (feet p bm kv (ds ++ fs.drop i))

section
variable {w0 wr w4 : World} {p bm c : Nat} {kv vn vs : Value} {fs ds : List Fl} {s : Ds} {ks : List Bool} {i : Nat} {f : Fl}

/-- A file as it is behind tear. -/
def tornF (ks : List Bool) (f : Fl) (k : Nat) (vn vs : Value) : Fl := { f with vn := vn, vs := vs, now := (tearB ks f.now f.syn k).1, syn := (tearB ks f.now f.syn k).1 }

theorem CrashSt.torn1 (h : CrashSt w0 wr p bm c kv fs s ks i ds) (hf : fs.drop i = f :: fs.drop (i + 1)) (hc : c ∉ feet p bm kv fs) (hcl : c < w0.heap.size)
    (hF : FileAt w4 (tornF ks f (torn ks ((fs.take i).map Fl.ab) 0).2 vn vs)) (hK : Kept [c, f.blk] wr w4) (hnew : ∀ x ∈ own vn ++ own vs, wr.heap.size ≤ x) :
    DiskAt w4 p bm kv (ds ++ tornF ks f (torn ks ((fs.take i).map Fl.ab) 0).2 vn vs :: fs.drop (i + 1)) { s with used := usedB (ds.map Fl.ab) } ∧ Newly wr (feet p bm kv (ds ++ fs.drop i)) (feet p bm kv (ds ++ tornF ks f (torn ks ((fs.take i).map Fl.ab) 0).2 vn vs :: fs.drop (i + 1))) := by
  have hd := h.disk
  have hnw := h.new
  rw [hf] at hd hnw ⊢
  have hn : Newly wr (foot f) (foot (tornF ks f (torn ks ((fs.take i).map Fl.ab) 0).2 vn vs)) := fun x hx => by
    simp only [foot, tornF, List.mem_cons] at hx ⊢
    rcases hx with rfl | hx
    · exact .inl (.inl rfl)
    · exact .inr (hnew x hx)
  refine ⟨hd.file rfl rfl hK (fun x hx => ?_) hF hn, feet_file hn rfl⟩
  simp only [List.mem_cons, List.not_mem_nil, or_false] at hx
  rcases hx with rfl | rfl
  · refine .inr (fun e => ?_)
    rcases hnw x e with h1 | h1
    · exact hc h1
    · omega
  · exact .inl (by simp [foot])

theorem take_drop {fs : List Fl} {i : Nat} {f : Fl} (hf : fs.drop i = f :: fs.drop (i + 1)) : fs.take (i + 1) = fs.take i ++ [f] ∧ i < fs.length ∧ f ∈ fs := by
  have hi : i < fs.length := by
    rcases Nat.lt_or_ge i fs.length with h | h
    · exact h
    · rw [List.drop_of_length_le h] at hf
      simp at hf
  have e : fs[i] = f := by
    have := List.drop_eq_getElem_cons hi
    rw [this] at hf
    exact (List.cons.inj hf).1
  refine ⟨?_, hi, by rw [← e]; exact List.getElem_mem hi⟩
  rw [List.take_succ_eq_append_getElem hi, e]

theorem CrashSt.next {w5 : World} (h : CrashSt w0 wr p bm c kv fs s ks i ds) (hf : fs.drop i = f :: fs.drop (i + 1)) (hc : c ∉ feet p bm kv fs) (hcl : c < w0.heap.size)
    (hF : FileAt w4 (tornF ks f (torn ks ((fs.take i).map Fl.ab) 0).2 vn vs)) (hK : Kept [c, f.blk] wr w4) (hnew : ∀ x ∈ own vn ++ own vs, wr.heap.size ≤ x)
    (hcnt : w4.heap[c]? = some (.cells #[.int .i64 (tearB ks f.now f.syn (torn ks ((fs.take i).map Fl.ab) 0).2).2] 3 (0, 0))) (hK5 : Kept [p] w4 w5)
    (h5 : w5.heap[p]? = some (.cells (diskCells bm kv { s with used := usedB (ds.map Fl.ab) + sec (tearB ks f.now f.syn (torn ks ((fs.take i).map Fl.ab) 0).2).1.length }) 80 (0, 0))) :
    CrashSt w0 w5 p bm c kv fs s ks (i + 1) (ds ++ [tornF ks f (torn ks ((fs.take i).map Fl.ab) 0).2 vn vs]) := by
  obtain ⟨hd4, hn4⟩ := h.torn1 hf hc hcl hF hK hnew
  obtain ⟨ht, hi, hfm⟩ := take_drop hf
  have hab : (ds ++ [tornF ks f (torn ks ((fs.take i).map Fl.ab) 0).2 vn vs]).map Fl.ab = (torn ks ((fs.take (i + 1)).map Fl.ab) 0).1 := by
    rw [ht, List.map_append, List.map_append, List.map_cons, List.map_nil, List.map_cons, List.map_nil, torn_snoc, h.abs]
    rfl
  have hpc : p ≠ c := fun e => hc (by simp [feet, e])
  refine ⟨?_, hab, ?_, ?_, ?_⟩
  · have e : ds ++ [tornF ks f (torn ks ((fs.take i).map Fl.ab) 0).2 vn vs] ++ fs.drop (i + 1) = ds ++ tornF ks f (torn ks ((fs.take i).map Fl.ab) 0).2 vn vs :: fs.drop (i + 1) := by simp
    rw [e]
    refine hd4.put0 hK5 ?_ rfl
    rw [h5]
    congr 3
    rw [List.map_append, List.map_cons, List.map_nil, usedB_snoc]
    rfl
  · rw [hK5.block c (by have := h.kept.size; have := hK.size; omega) (by simpa using Ne.symm hpc), hcnt, ht, List.map_append, List.map_cons, List.map_nil, torn_snoc]
    rfl
  · have k1 : Kept (c :: feet p bm kv fs) w0 w4 := h.kept.trans hK (fun x hx => by
      simp only [List.mem_cons, List.not_mem_nil, or_false] at hx
      rcases hx with rfl | rfl
      · exact .inl (by simp)
      · refine .inl ?_
        simp only [List.mem_cons, feet, List.mem_append, List.mem_flatMap]
        exact .inr (.inr (.inr (.inr ⟨f, hfm, by simp [foot]⟩))))
    exact k1.trans hK5 (Newly.of_sub (by simp [feet]))
  · have e : ds ++ [tornF ks f (torn ks ((fs.take i).map Fl.ab) 0).2 vn vs] ++ fs.drop (i + 1) = ds ++ tornF ks f (torn ks ((fs.take i).map Fl.ab) 0).2 vn vs :: fs.drop (i + 1) := by simp
    rw [e]
    exact h.new.trans hn4 h.kept.size
end

set_option maxRecDepth 100000 in
set_option maxHeartbeats 8000000 in
theorem crash_any {w : World} {p bm : Nat} {kv : Value} {fs : List Fl} {s : Ds} (h : DiskAt w p bm kv fs s) (hdn : s.down = false) (u : Value) (ks : List Bool) (hu : IsK w u ks) (hux : ks ≠ [] → ∀ x ∈ own u, x ∉ feet p bm kv fs)
    (hkl : ks.length ≤ 1099511627776) (hok : okAb (fs.map Fl.ab)) (hus : usedB (fs.map Fl.ab) ≤ 67108864) (hfl : fs.length ≤ 1073741824) (hnm : ∀ f ∈ fs, f.name.length ≤ 24) :
    Calls Try.prog 22 #[.pointer (some ⟨p, 0, none⟩), u] w fun e w' => e = .returned (.tuple #[]) ∧ ∃ fs', DiskAt w' p bm (.slice none 0 0) fs' { s with used := usedB (fs'.map Fl.ab), down := true, left := 0, keep := [] } ∧
      fs'.map Fl.ab = (torn ks (fs.map Fl.ab) 0).1 ∧ Kept (feet p bm kv fs) w w' ∧ Newly w (feet p bm kv fs) (feet p bm (.slice none 0 0) fs') := by
  have hul := hu.lt
  obtain ⟨W0, hW0⟩ : ∃ W0, W0 = w.setCell ⟨p, 2, none⟩ (.int .i64 0) := ⟨_, rfl⟩
  obtain ⟨W2, hW2⟩ : ∃ W2, W2 = (W0.alloc (.cells #[u] 78)).alloc (.cells #[.int .i64 0] 3) := ⟨_, rfl⟩
  have k0 : Kept [p] w W0 := by rw [hW0]; exact (Kept.refl _ w).setCell (p := ⟨p, 2, none⟩) (.inl (by simp)) _
  have z0 : W0.heap.size = w.heap.size := by rw [hW0]; simp [World.setCell]
  have b2 : Below W0.heap.size W0 W2 := by rw [hW2]; exact ((Below.refl _ W0).alloc (Nat.le_refl _) _).alloc (by simp) _
  have z2 : W2.heap.size = w.heap.size + 2 := by rw [hW2]; simp [z0]
  have k2 : Kept [p] w W2 := k0.trans (Kept.of_below (fp := []) b2) (Newly.of_sub (by simp))
  have hpl := h.lt p (by simp [feet])
  have d2 : DiskAt W2 p bm kv fs { s with used := 0 } := by
    refine DiskAt.below (w := W0) (h.put0 k0 ?_ rfl) b2
    rw [hW0]
    have e := heap_setCell h.cells 2 (.int .i64 0)
    simpa [diskCells] using e
  have hkb : W2.cell? ⟨w.heap.size, 0, none⟩ = some u := by
    rw [hW2, ← z0]
    simp
  have hc0 : W2.heap[w.heap.size + 1]? = some (.cells #[.int .i64 0] 3 (0, 0)) := by
    have e := heap_alloc_new (W0.alloc (.cells #[u] 78)) (.cells #[.int .i64 0] 3)
    have e2 : (W0.alloc (.cells #[u] 78)).heap.size = w.heap.size + 1 := by simp [z0]
    rw [e2] at e
    rw [hW2]
    exact e
  have NM := hide (names_any d2 (by omega))
  have c4 : w.cell? ⟨p, 4, none⟩ = some (.bool false) := by rw [h.cellAt.2.2.2.2.1, hdn]
  have c2 := h.cellAt.2.2.1
  have c7 := h.cellAt.2.2.2.2.2.2.2
  have hmf : ∀ (fn : Fn) (first cap : Array Value) (w : World), (Instr.makeFunc fn first cap).run Try.prog w = .ok (.func fn first cap) w := fun _ _ _ _ => rfl
  obtain ⟨ua, uc, hu1⟩ : ∃ ua uc, u = .slice ua ks.length uc := by obtain ⟨a, c, e, _⟩ := hu; exact ⟨a, c, e⟩
  have HU := hide hu
  have HUL := hide hul
  have HUX := hide hux
  have HW2 := hide hW2
  have D2 := hide d2
  have HD := hide h
  have K2 := hide k2
  have Z2 := hide z2
  have HKB := hide hkb
  have HC0 := hide hc0
  have HOK := hide hok
  have HUS := hide hus
  have HNM := hide hnm
  rw [hW2, hW0] at NM
  have HW0 := hide hW0
  clear hu hul hux hW0 hW2 d2 h b2 k2 k0 z0 z2 hkb hc0 hok hus hnm hdn
  subst hu1
  go_enter Try.func22, Try.ntmps22
  go_wp2_with (go_at_call 38; refine NM.out.mono ?_; rintro e w3 ⟨vN, rfl, r3, b3⟩; rw [← HW0.out, ← HW2.out] at r3 b3; have hvN : ∃ na nc, vN = .slice na fs.length nc := (by rcases r3.2 with ⟨h1, h2⟩ | ⟨g, cp, cur, h1, _⟩; exact ⟨none, 0, by rw [h2]; exact h1⟩; exact ⟨_, _, h1⟩); obtain ⟨na, nc, rfl⟩ := hvN; have R3 := hide r3; have B3 := hide b3; clear r3 b3)
  obtain ⟨c, hc⟩ : ∃ c, c = w.heap.size + 1 := ⟨_, rfl⟩
  obtain ⟨kb, hkb⟩ : ∃ kb, kb = w.heap.size := ⟨_, rfl⟩
  have HFL := hide HD.out.lt
  have hcf : Hid (c ∉ feet p bm kv fs) := fun e => by have := HFL.out c e; omega
  have hkf : Hid (kb ∉ c :: feet p bm kv fs) := fun e => by
    rcases List.mem_cons.1 e with e | e
    · omega
    · have := HFL.out kb e
      omega
  have z3 : w.heap.size + 2 ≤ w3.heap.size := by have := B3.out.size; have := Z2.out; omega
  have KA : Hid (Kept [p] w w3) := K2.out.trans (Kept.of_below (fp := []) B3.out) (Newly.of_sub (by simp))
  have HNB : Hid (∀ x ∈ own (.slice na fs.length nc), w.heap.size + 2 ≤ x ∧ x < w3.heap.size) := fun x hx => by
    have h1 := World.ownsRow.lt R3.out x (by simpa [own] using hx)
    have := Z2.out
    omega
  have HUK : Hid (ks ≠ [] → ∀ x ∈ own (.slice ua ks.length uc), x ∉ c :: feet p bm kv fs) := fun hne x hx e => by
    rcases List.mem_cons.1 e with e | e
    · have := HUL.out hne x hx
      omega
    · exact HUX.out hne x hx e
  have HG := hide (fun (wr : World) (hk : Kept (c :: feet p bm kv fs) w3 wr) => (⟨hk.cell ((B3.out.cell (p := ⟨kb, 0, none⟩) (by have := Z2.out; simp; omega)).trans (by rw [hkb]; exact HKB.out)) hkf.out,
      (HU.out.kept KA.out (fun hne x hx e => HUK.out hne x hx (by simp at e; simp [e, feet]))).kept hk HUK.out,
      ownsRow_kept R3.out hk (fun x hx e => by
        have h1 := HNB.out x hx
        rcases List.mem_cons.1 e with e | e
        · omega
        · have := HFL.out x e
          omega)⟩ : wr.cell? ⟨kb, 0, none⟩ = some (.slice ua ks.length uc) ∧ IsK wr (.slice ua ks.length uc) ks ∧ wr.ownsRow W2.heap.size 9 1 (.slice na fs.length nc) fs.length (fs.map fun f => encStr f.name)))
  have ST0 : Hid (CrashSt w3 w3 p bm c kv fs s ks 0 []) := by
    refine ⟨?_, rfl, ?_, Kept.refl _ _, Newly.refl _ _⟩
    · exact D2.out.below B3.out
    · rw [hc, B3.out.block _ (by have := Z2.out; omega)]
      exact HC0.out
  have e1 : w.heap.size + 1 = c := hc.symm
  rw [e1, ← hkb]
  have HCE := hide hc
  have HKE := hide hkb
  clear e1 hc hkb
  go_loopw [20] (fun i wr => ∃ (j : Nat) (ds : List Fl), j ≤ fs.length ∧ i = .int .i64 (j : Int) ∧ Hid (CrashSt w3 wr p bm c kv fs s ks j ds)) (fun i _ => fs.length - (intOf i).toNat)
  case atStart => exact ⟨0, [], Nat.zero_le _, rfl, ST0⟩
  case round =>
    obtain ⟨i, ds, hi, rfl, HST⟩ := hrel
    by_cases hlt : i < fs.length
    · obtain ⟨f, hf⟩ : ∃ f, fs.drop i = f :: fs.drop (i + 1) := ⟨_, List.drop_eq_getElem_cons hlt⟩
      have hfm := (take_drop hf).2.2
      have hfd : f ∈ ds ++ fs.drop i := by rw [hf]; simp
      have FA := HST.out.disk.files f hfd
      obtain ⟨g1, g2, g3⟩ := HG.out wr HST.out.kept
      obtain ⟨ng, hng⟩ : ∃ ng, na = some ⟨ng, 0, none⟩ := by
        rcases g3.2 with ⟨h1, h2⟩ | ⟨g, cp, cur, h1, _⟩
        · omega
        · simp only [Value.slice.injEq] at h1
          exact ⟨g, h1.1⟩
      subst hng
      have n1 : wr.cell? ⟨ng, i, none⟩ = some (.string ⟨f.name.toArray⟩) := by
        have e := World.ownsRow.cells g3 (g := ng) rfl i (encStr f.name) (by
          have e2 : fs[i]? = some f := by
            have := congrArg (fun l => l[0]?) hf
            simpa using this
          rw [List.getElem?_map, e2]
          rfl)
        rw [Addr.add_lit] at e
        simpa [encStr] using e
      have c0 := HST.out.disk.cellAt.1
      have LK : (Instr.lookup 72 (.map (some bm)) (.string ⟨f.name.toArray⟩) false).run Try.prog wr = .ok (.pointer (some ⟨f.blk, 0, none⟩)) wr := by
        obtain ⟨D, ho, hD⟩ := HST.out.disk.map
        have e := look_run ho hD f.name (by have := HNM.out f hfm; unfold maxLen; omega)
        rw [look_of_mem HST.out.disk.sorted hfd] at e
        exact e
      obtain ⟨k, hk⟩ : ∃ k, k = (torn ks ((fs.take i).map Fl.ab) 0).2 := ⟨_, rfl⟩
      have hokt : okAb ((fs.take i).map Fl.ab) := fun x hx => HOK.out x (by
        obtain ⟨y, hy, rfl⟩ := List.mem_map.1 hx
        exact List.mem_map.2 ⟨y, List.mem_of_mem_take hy, rfl⟩)
      have hut : usedB ((fs.take i).map Fl.ab) ≤ 67108864 := by
        have := usedB_take (fs.map Fl.ab) i
        rw [← List.map_take] at this
        have := HUS.out
        omega
      have htu := torn_used ks ((fs.take i).map Fl.ab) 0 hokt
      rw [← hk] at htu
      have hsec : sec f.now.length ≤ 67108864 := by
        have := usedB_mem (l := fs.map Fl.ab) (x := f.ab) (List.mem_map.2 ⟨f, hfm, rfl⟩)
        have := HUS.out
        simp only [Fl.ab] at *
        omega
      have hfl2 := sec_le _ _ hsec
      have hsyn : f.syn.length ≤ f.now.length := HOK.out f.ab (List.mem_map.2 ⟨f, hfm, rfl⟩)
      have hcf2 : c ∉ foot f := fun e => by
        rcases HST.out.new c (by
          simp only [feet, List.mem_cons, List.mem_append, List.mem_flatMap]
          exact .inr (.inr (.inr ⟨f, List.mem_append.1 hfd, e⟩))) with h1 | h1
        · exact hcf.out h1
        · have := HCE.out
          omega
      have hcnt := HST.out.cnt
      rw [← hk] at hcnt
      have T := hide (tear_any FA c kb k (.slice ua ks.length uc) ks hcnt g1 (by have := HCE.out; have := HKE.out; omega) g2 (fun hne e => HUK.out hne c e (by simp)) hcf2 (by omega) hsyn (by omega) hkl)
      have htl := tearB_len ks f.now f.syn k hsyn
      obtain ⟨U, hU⟩ : ∃ U, U = usedB (ds.map Fl.ab) := ⟨_, rfl⟩
      have hU0 : 0 ≤ U := by rw [hU]; exact usedB_nonneg _
      have hU1 : U ≤ 67108864 := by rw [hU, HST.out.abs]; omega
      obtain ⟨TT, hTT⟩ : ∃ TT, TT = (tearB ks f.now f.syn k).1 := ⟨_, rfl⟩
      obtain ⟨S, hS⟩ : ∃ S, S = sec TT.length := ⟨_, rfl⟩
      rw [← hTT] at htl
      have hTl : TT.length ≤ 1099511627776 := by omega
      have hS0 : 0 ≤ S := by rw [hS]; exact sec_nonneg _
      have hS1 : S ≤ 67108864 := by rw [hS]; have := sec_mono htl.1; omega
      have SC := hide (fun W => sectors_any TT.length hTl W)
      rw [← hS] at SC
      have hUS : IntKind.i64.wrap (U + S) = U + S := i64_small _ (by omega) (by omega)
      have HK := hide hk
      have HF := hide hf
      have HU2 := hide hU
      have HT2 := hide hTT
      have HS2 := hide hS
      have hpf : Hid (True) := trivial
      clear hk hf hU hTT hS hfm hfd FA g1 g2 g3 hokt hut htu hsec hfl2 hsyn hcf2 hcnt htl hpf
      go_wp2_with (go_at_call 39; refine T.out.mono ?_; rintro e w4 ⟨rfl, vn, vs, f4, n4, k4, m4⟩; have F4 : Hid (FileAt w4 (tornF ks f (torn ks ((fs.take i).map Fl.ab) 0).2 vn vs)) := (by rw [← HK.out]; exact f4); rw [HK.out] at n4; have N4 := hide n4; have K4 := hide k4; have M4 := hide m4; have r4 : RowB w4 vn (tearB ks f.now f.syn k).1 := f4.rnow; rw [← HT2.out] at r4; obtain ⟨va, vc, rfl, _⟩ := r4.isB.form; have D4 := hide (HST.out.torn1 HF.out hcf.out (by have := HCE.out; omega) F4.out K4.out M4.out).1; have d2 := D4.out.cellAt.2.2.1; have d7 := D4.out.cellAt.2.2.2.2.2.2.2; have f0 := cell_of_heap F4.out.cells 0; simp [tornF] at f0; rw [← HU2.out] at d2; clear f4 n4 k4 m4 r4)
      go_region_law (go_simp; go_at_call 40; refine (SC.out _).mono ?_; rintro e w5 ⟨rfl, rfl⟩)
      all_goals
        have K5 : Kept [p] w4 (w4.setCell ⟨p, 2, none⟩ (.int .i64 (U + S))).drew := ((Kept.refl _ w4).setCell (p := ⟨p, 2, none⟩) (.inl (by simp)) _).drew
        have ST5 : Hid (CrashSt w3 (w4.setCell ⟨p, 2, none⟩ (.int .i64 (U + S))).drew p bm c kv fs s ks (i + 1) (ds ++ [tornF ks f (torn ks ((fs.take i).map Fl.ab) 0).2 (.slice va TT.length vc) vs])) := by
          refine HST.out.next HF.out hcf.out (by have := HCE.out; omega) F4.out K4.out M4.out N4.out K5 ?_
          have e := heap_setCell D4.out.cells 2 (.int .i64 (U + S))
          rw [← HK.out, ← HT2.out, ← HS2.out, ← HU2.out]
          simp [diskCells] at e
          exact e
        clear K5
        go_wp2
        go_roundw
        case rel => exact ⟨i + 1, _, by omega, by go_num, ST5⟩
        case measure => simp [intOf]; omega
    · have hie : i = fs.length := by omega
      have HIE := hide hie
      have hde : fs.drop i = [] := by rw [hie]; simp
      have htk : fs.take i = fs := by rw [hie]; simp
      have D9 := HST.out.disk
      rw [hde, List.append_nil] at D9
      have N9 := HST.out.new
      rw [hde, List.append_nil] at N9
      have A9 := HST.out.abs
      rw [htk] at A9
      have AR := hide (arm_no D9 0 (by omega) (.slice none 0 0))
      have HN9 := hide N9
      have HA9 := hide A9
      have HD9 := hide D9
      clear D9 N9 A9 hde htk hie
      go_wp2_with (go_at_call 41; refine AR.out.mono ?_; rintro e w5 ⟨rfl, d5, k5⟩; have D5 := hide d5; have K5 := hide k5; have e4 := d5.cellAt.2.2.2.2.1; have e7 := d5.cellAt.2.2.2.2.2.2.2; clear d5 k5)
      go_end0
      have k6 : Kept [p] w5 (w5.setCell ⟨p, 4, none⟩ (.bool true)) := (Kept.refl _ w5).setCell (p := ⟨p, 4, none⟩) (.inl (by simp)) _
      refine ⟨rfl, ds, D5.out.put0 k6 ?_ rfl, HA9.out, ?_, ?_⟩
      · have e := heap_setCell D5.out.cells 4 (.bool true)
        simpa [diskCells] using e
      · have q1 : Kept (feet p bm kv fs) w wr := (KA.out.mono (fp' := feet p bm kv fs) (by simp [feet])).trans HST.out.kept (fun x hx => by
          rcases List.mem_cons.1 hx with e | e
          · exact .inr (by have := HCE.out; omega)
          · exact .inl e)
        exact (q1.trans K5.out (Newly.of_sub (by simp [feet]))).trans k6 (Newly.of_sub (by simp [feet]))
      · intro x hx
        have hx2 : x ∈ feet p bm kv ds := by
          simp only [feet, own, Value.ownBlock, Option.toList_none, List.nil_append, List.mem_cons, List.mem_append] at hx ⊢
          rcases hx with hx | hx | hx
          · exact .inl hx
          · exact .inr (.inl hx)
          · exact .inr (.inr (.inr hx))
        rcases HN9.out x hx2 with h1 | h1
        · exact .inl h1
        · exact .inr (Nat.le_trans KA.out.size h1)

set_option maxRecDepth 100000 in
set_option maxHeartbeats 1000000 in
/-- Crash, of a disk that is down: nothing. -/
theorem crash_down {w : World} {p bm : Nat} {kv : Value} {fs : List Fl} {s : Ds} (h : DiskAt w p bm kv fs s) (hdn : s.down = true) (u : Value) (ks : List Bool) (hu : IsK w u ks) :
    Calls Try.prog 22 #[.pointer (some ⟨p, 0, none⟩), u] w fun e w' => e = .returned (.tuple #[]) ∧ Below w.heap.size w w' := by
  have c4 : w.cell? ⟨p, 4, none⟩ = some (.bool true) := by rw [h.cellAt.2.2.2.2.1, hdn]
  have hpl := h.lt p (by simp [feet])
  obtain ⟨ua, uc, rfl, _⟩ := hu
  clear h hdn
  go_enter Try.func22, Try.ntmps22
  go_wp2
  first | go_end0 | refine bodyPost_ret (results_none rfl _ _ _) rfl ?_
  exact ⟨rfl, (Below.refl _ w).alloc (Nat.le_refl _) _⟩

end Go.Proofs.Ytbhjdcoehgajcaa
