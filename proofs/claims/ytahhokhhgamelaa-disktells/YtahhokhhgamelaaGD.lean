/-
  Lemma texts, one behind the other: DMeth, DCreate, DMeth2, DShown, DShown2, DShown3, DErr, DDrop, DRead, DSync, DMore, DRename, DMore2. No statement of the seat is proved here.
-/
import Derived.Test.YtahhokhhgamelaaGC
namespace Go.Proofs.Ytahhokhhgamelaa
open Go.RowKit Go.Maps Go.Sort Go.Shelf

/-- What Size answers. -/
def sizeA (A : List Ab × Ds) (n : List UInt8) : Int × Int := match errA A n with | some k => (0, k) | none => match lookA A.1 n with | some x => (x.2.1.length, 0) | none => (0, 0)

/-- What Append answers, and leaves. -/
def appendA (A : List Ab × Ds) (n : List UInt8) (cs : List Int) : Int × (List Ab × Ds) := match errA A n with | some k => (k, A) | none => match lookA A.1 n with | some x => writeA A.1 A.2 x x.2.1.length cs | none => (0, A)

/-- What WriteAt answers, and leaves. -/
def writeAtA (A : List Ab × Ds) (n : List UInt8) (at_ : Int) (cs : List Int) : Int × (List Ab × Ds) := match errA A n with | some k => (k, A) | none => match lookA A.1 n with | some x => writeA A.1 A.2 x at_ cs | none => (0, A)

section
variable {w : World} {fp : List Nat} {p : Nat} {l : List Ab} {s : Ds}

theorem Dk.below {w' : World} (h : Dk w fp p l s) (hb : Below w.heap.size w w') : Dk w' fp p l s := by
  obtain ⟨bm, kv, fs, d, h1, h2, h3⟩ := h
  exact ⟨bm, kv, fs, d.below hb, h1, h2, h3⟩

theorem Dk.kept {w' : World} {fp' : List Nat} (h : Dk w fp p l s) (hk : Kept fp' w w') (hf : ∀ x ∈ fp, x ∉ fp') : Dk w' fp p l s := by
  obtain ⟨bm, kv, fs, d, h1, rfl, h3⟩ := h
  exact ⟨bm, kv, fs, d.kept hk hf, h1, rfl, h3⟩

theorem Dk.lt (h : Dk w fp p l s) : ∀ x ∈ fp, x < w.heap.size := by
  obtain ⟨bm, kv, fs, d, h1, rfl, h3⟩ := h
  exact d.lt

theorem Dk.ok (h : Dk w fp p l s) : okA l s := by
  obtain ⟨bm, kv, fs, d, h1, h2, h3⟩ := h
  exact h3

theorem Dk.sorted (h : Dk w fp p l s) : l.Pairwise (fun f g => f.1 < g.1) := by
  obtain ⟨bm, kv, fs, d, rfl, h2, h3⟩ := h
  exact sortedA d.sorted

theorem Outc.trans {w1 w2 : World} {A B : List Ab × Ds} (h : Outc w w1 fp p A) (k : ∀ fp1, Dk w1 fp1 p A.1 A.2 → Kept fp w w1 → Newly w fp fp1 → Outc w1 w2 fp1 p B) : Outc w w2 fp p B := by
  obtain ⟨fp1, d1, k1, n1⟩ := h
  obtain ⟨fp2, d2, k2, n2⟩ := k fp1 d1 k1 n1
  exact ⟨fp2, d2, k1.trans k2 n1, n1.trans n2 k1.size⟩

set_option maxRecDepth 100000 in
set_option maxHeartbeats 2000000 in
theorem Dk.size (h : Dk w fp p l s) (hn : s.ops ≤ 1000000) (nm : ByteArray) (hnm : nm.size ≤ maxLen) : Calls Try.prog 24 #[.pointer (some ⟨p, 0, none⟩), .string nm] w fun e w' =>
    e = .returned (.tuple #[.int .i64 (sizeA (beginA l s) nm.data.toList).1, .int .i64 (sizeA (beginA l s) nm.data.toList).2]) ∧ Outc w w' fp p (beginA l s) := by
  obtain ⟨bm, kv, fs, d, rfl, rfl, ho⟩ := h
  have hok := hide (beginA_ok ho)
  unfold sizeA
  cases he : errA (beginA (fs.map Fl.ab) s) nm.data.toList with
  | some k =>
    have FD := hide (find_err d ho hn nm hnm he)
    have hk := errA_ne he
    have hk0 : ¬ k = 0 := by omega
    clear d ho he hnm
    simp only
    generalize beginA (fs.map Fl.ab) s = A at FD hok ⊢
    go_enter Try.func24, Try.ntmps24
    go_wp2_with (go_at_call 51; refine FD.out.mono ?_; rintro e w1 ⟨rfl, kv1, fs1, s1, L1⟩; have HL := hide L1; clear L1)
    go_ret2
    exact ⟨rfl, HL.out.outc hok.out⟩
  | none =>
    obtain ⟨x, hx⟩ := errA_none he
    have FD := hide (find_ok d ho hn nm hnm he hx)
    clear d ho he hnm
    rw [hx]
    simp only
    clear hx
    generalize beginA (fs.map Fl.ab) s = A at FD hok ⊢
    go_enter Try.func24, Try.ntmps24
    go_wp2_with (go_at_call 51; refine FD.out.mono ?_; rintro e w1 ⟨kv1, fs1, s1, f1, rfl, hl1, hf1, L1⟩; have FA := L1.1.files f1 (look_name hl1).1; have c0 := cell_of_heap FA.cells 0; simp at c0; obtain ⟨va, vc, hvn, _⟩ := FA.rnow.isB.form; rw [hvn] at c0; have e3 : f1.now.length = x.2.1.length := (by rw [← hf1]; rfl); rw [e3] at c0; have HL := hide L1; clear L1 FA hvn hf1 hl1 e3)
    go_ret2
    exact ⟨rfl, HL.out.outc hok.out⟩

set_option maxRecDepth 100000 in
set_option maxHeartbeats 2000000 in
theorem Dk.append (h : Dk w fp p l s) (hn : s.ops ≤ 1000000) (nm : ByteArray) (hnm : nm.size ≤ maxLen) (u : Value) (cs : List Int) (hu : IsB w u cs) (hcl : cs.length ≤ 1073741824) (hux : cs ≠ [] → ∀ x ∈ own u, x ∉ fp) :
    Calls Try.prog 18 #[.pointer (some ⟨p, 0, none⟩), .string nm, u] w fun e w' => e = .returned (.int .i64 (appendA (beginA l s) nm.data.toList cs).1) ∧ Outc w w' fp p (appendA (beginA l s) nm.data.toList cs).2 := by
  obtain ⟨bm, kv, fs, d, rfl, rfl, ho⟩ := h
  have hok := beginA_ok ho
  unfold appendA
  cases he : errA (beginA (fs.map Fl.ab) s) nm.data.toList with
  | some k =>
    have FD := hide (find_err d ho hn nm hnm he)
    have hk := errA_ne he
    have hk0 : ¬ k = 0 := by omega
    have HOK := hide hok
    obtain ⟨ua, uc, rfl, _⟩ := hu.form
    clear d ho he hnm hu hok hux
    simp only
    generalize beginA (fs.map Fl.ab) s = A at FD HOK ⊢
    go_enter Try.func18, Try.ntmps18
    go_wp2_with (go_at_call 51; refine FD.out.mono ?_; rintro e w1 ⟨rfl, kv1, fs1, s1, L1⟩; have HL := hide L1; clear L1)
    go_ret
    exact ⟨rfl, HL.out.outc HOK.out⟩
  | none =>
    obtain ⟨x, hx⟩ := errA_none he
    have FD := hide (find_ok d ho hn nm hnm he hx)
    rw [hx]
    simp only
    have WR := hide (fun (w1 : World) (kv1 : Value) (fs1 : List Fl) (s1 : Ds) (f1 : Fl) (hl1 : look fs1 nm.data.toList = some f1) (hf1 : f1.ab = x) (L1 : Left w w1 p bm kv fs kv1 fs1 s1 (beginA (fs.map Fl.ab) s)) =>
      write_any L1.1 (by have := L1.2.1; rw [← this] at hok; exact hok) hl1 (x.2.1.length : Int) (by
        have e3 : f1.now.length = x.2.1.length := by rw [← hf1]; rfl
        have := (file_len (s := s1) (fs := fs1) (by have := L1.2.1; rw [← this] at hok; exact hok) (look_name hl1).1).1
        omega) u cs (hu.kept L1.2.2.1 hux) hcl (fun hne y hy e => by
          rcases L1.2.2.2 y e with h1 | h1
          · exact hux hne y hy h1
          · have := hu.lt hne y hy
            omega))
    have WOK : Hid (∀ (w1 : World) (kv1 : Value) (fs1 : List Fl) (s1 : Ds), Left w w1 p bm kv fs kv1 fs1 s1 (beginA (fs.map Fl.ab) s) → okA (writeA (beginA (fs.map Fl.ab) s).1 (beginA (fs.map Fl.ab) s).2 x x.2.1.length cs).2.1 (writeA (beginA (fs.map Fl.ab) s).1 (beginA (fs.map Fl.ab) s).2 x x.2.1.length cs).2.2) := fun w1 kv1 fs1 s1 L1 =>
      writeA_ok hok (by rw [← L1.2.1]; exact sortedA L1.1.sorted) hx _ _
    obtain ⟨ua, uc, rfl, _⟩ := hu.form
    clear d ho he hnm hu hok hux hx
    go_enter Try.func18, Try.ntmps18
    go_wp2_with (first
      | (go_at_call 51; refine FD.out.mono ?_; rintro e w1 ⟨kv1, fs1, s1, f1, rfl, hl1, hf1, L1⟩; have FA := L1.1.files f1 (look_name hl1).1; have c0 := cell_of_heap FA.cells 0; simp at c0; obtain ⟨va, vc, hvn, _⟩ := FA.rnow.isB.form; rw [hvn] at c0; have e3 : f1.now.length = x.2.1.length := (by rw [← hf1]; rfl); rw [e3] at c0; have W1 := hide (WR.out w1 kv1 fs1 s1 f1 hl1 hf1 L1); rw [hf1] at W1; have E1 : Hid ((fs1.map Fl.ab, s1) = beginA (fs.map Fl.ab) s) := L1.2.1; have e8 : fs1.map Fl.ab = (beginA (fs.map Fl.ab) s).1 := (congrArg (fun x => x.1) E1.out); have e9 : s1 = (beginA (fs.map Fl.ab) s).2 := (congrArg (fun x => x.2) E1.out); rw [e8, e9] at W1; have HL := hide L1; clear L1 FA hvn hf1 hl1 e3 e8 e9)
      | (go_at_call 52; refine W1.out.mono ?_; rintro e w2 ⟨rfl, fs2, s2, L2⟩; have HL2 := hide L2; clear L2))
    go_ret
    refine ⟨rfl, (Left.trans HL.out HL2.out).outc (WOK.out w1 kv1 fs1 s1 HL.out)⟩
end

end Go.Proofs.Ytahhokhhgamelaa

namespace Go.Proofs.Ytahhokhhgamelaa
open Go.RowKit Go.Maps Go.Sort Go.Shelf

/-- A file, in its place. -/
def insF : List Fl → Fl → List Fl
  | [], f => [f]
  | g :: r, f => if g.name < f.name then g :: insF r f else f :: g :: r

def insA : List Ab → Ab → List Ab
  | [], f => [f]
  | g :: r, f => if g.1 < f.1 then g :: insA r f else f :: g :: r

theorem insF_ab (fs : List Fl) (f : Fl) : (insF fs f).map Fl.ab = insA (fs.map Fl.ab) f.ab := by
  induction fs with
  | nil => rfl
  | cons g r ih =>
    simp only [insF, insA, List.map_cons]
    show _ = if g.name < f.name then _ else _
    split
    · simp [ih]
    · simp

theorem insF_perm (fs : List Fl) (f : Fl) : (insF fs f).Perm (f :: fs) := by
  induction fs with
  | nil => exact List.Perm.refl _
  | cons g r ih =>
    unfold insF
    split
    · exact (ih.cons g).trans (List.Perm.swap f g r)
    · exact List.Perm.refl _

theorem insA_perm (l : List Ab) (x : Ab) : (insA l x).Perm (x :: l) := by
  induction l with
  | nil => exact List.Perm.refl _
  | cons g r ih =>
    unfold insA
    split
    · exact (ih.cons g).trans (List.Perm.swap x g r)
    · exact List.Perm.refl _

theorem name_lt {x y : List UInt8} (h : ¬ x < y) (hne : x ≠ y) : y < x := by
  exact Classical.byContradiction fun h2 => hne (List.le_antisymm (List.not_lt.1 h2) (List.not_lt.1 h))

theorem insF_sorted {fs : List Fl} {f : Fl} (hs : fs.Pairwise (fun f g => f.name < g.name)) (hno : ∀ g ∈ fs, g.name ≠ f.name) : (insF fs f).Pairwise (fun f g => f.name < g.name) := by
  induction fs with
  | nil => simp [insF]
  | cons g r ih =>
    rw [List.pairwise_cons] at hs
    unfold insF
    split
    · rename_i h
      rw [List.pairwise_cons]
      refine ⟨fun y hy => ?_, ih hs.2 (fun y hy => hno y (by simp [hy]))⟩
      rcases List.mem_cons.1 ((insF_perm r f).mem_iff.1 hy) with rfl | hy
      · exact h
      · exact hs.1 y hy
    · rename_i h
      have h1 := name_lt h (hno g (by simp))
      rw [List.pairwise_cons, List.pairwise_cons]
      refine ⟨fun y hy => ?_, hs⟩
      rcases List.mem_cons.1 hy with rfl | hy
      · exact h1
      · exact List.lt_trans h1 (hs.1 y hy)

theorem look_ins (fs : List Fl) (f : Fl) (hno : look fs f.name = none) (n : List UInt8) : look (insF fs f) n = if f.name = n then some f else look fs n := by
  induction fs with
  | nil =>
    unfold look insF
    rw [List.find?_cons]
    by_cases h : f.name = n
    · simp [h]
    · have : (f.name == n) = false := by simpa using h
      simp [this, h]
  | cons g r ih =>
    unfold look at hno
    rw [List.find?_cons] at hno
    cases hg : (g.name == f.name) with
    | true => rw [hg] at hno; simp at hno
    | false =>
      rw [hg] at hno
      have ih := ih hno
      have hgn : g.name ≠ f.name := by simpa using hg
      unfold insF
      split
      · unfold look at ih ⊢
        rw [List.find?_cons, List.find?_cons, ih]
        cases h2 : (g.name == n) with
        | true =>
          have : g.name = n := by simpa using h2
          have hfn : ¬ f.name = n := by rw [← this]; exact Ne.symm hgn
          simp [hfn]
        | false => rfl
      · unfold look
        rw [List.find?_cons]
        cases h2 : (f.name == n) with
        | true =>
          have : f.name = n := by simpa using h2
          rw [if_pos this]
        | false =>
          have : ¬ f.name = n := by simpa using h2
          rw [if_neg this]

theorem lookA_none {l : List Ab} {n : List UInt8} (h : lookA l n = none) : ∀ x ∈ l, x.1 ≠ n := by
  unfold lookA at h
  intro f hf
  simpa using List.find?_eq_none.1 h f hf

theorem keyLit (n : List UInt8) : WideAt.IsKeyLit (.string n) := by trivial

theorem MapIs.ins {D : DataW Unit} {fs : List Fl} {f : Fl} (h : MapIs D fs) (ht : Tidy D) (hno : look fs f.name = none) : MapIs (D.put (.string f.name) (.lit (.int .i64 f.blk))) (insF fs f) := by
  refine ⟨fun n => ?_, fun n => ?_, ?_⟩
  · rw [look_ins fs f hno n]
    by_cases e : f.name = n
    · subst e
      rw [atKey_put_same ht.isMap (keyLit _), if_pos rfl]
    · rw [atKey_put_other (by simpa using fun e2 => e e2.symm), h.at_ n, if_neg e]
  · rw [look_ins fs f hno n]
    by_cases e : f.name = n
    · subst e
      rw [has_put_same ht.isMap (keyLit _), if_pos rfl]
      rfl
    · rw [has_put_other (by simpa using fun e2 => e e2.symm), h.has n, if_neg e]
  · rw [size_put ht, h.has, hno]
    have e := (insF_perm fs f).length_eq
    rw [e, h.size]
    simp

theorem feet_ins (p bm : Nat) (kv : Value) (fs : List Fl) (f : Fl) : (feet p bm kv (insF fs f)).Perm (foot f ++ feet p bm kv fs) := by
  have h1 : (feet p bm kv (insF fs f)).Perm (feet p bm kv ([] ++ f :: fs)) := by
    unfold feet
    exact (((insF_perm fs f).flatMap_right foot).append_left (own kv) |>.cons bm).cons p
  exact h1.trans (feet_perm p bm kv [] fs f)

/-- A new file. -/
def newF (nm : List UInt8) (b : Nat) : Fl := { name := nm, blk := b, vn := .slice none 0 0, vs := .slice none 0 0, now := [], syn := [] }

theorem disk_create {w w1 : World} {p bm : Nat} {kv : Value} {fs : List Fl} {s : Ds} (h : DiskAt w p bm kv fs s) (nm : List UInt8) (hno : look fs nm = none) {D : DataW Unit} (hD : MapIs D fs) (ht : Tidy D)
    (hown : w1.ownsMap Try.prog 9 ptrE bm (fs.length + 1) (D.put (.string nm) (.lit (.int .i64 w.heap.size)))) (hk : Kept [bm] (w.alloc (.cells #[.slice none 0 0, .slice none 0 0] 77)) w1) :
    DiskAt w1 p bm kv (insF fs (newF nm w.heap.size)) s ∧ Kept (feet p bm kv fs) w w1 ∧ Newly w (feet p bm kv fs) (feet p bm kv (insF fs (newF nm w.heap.size))) := by
  have hb : Below w.heap.size w (w.alloc (.cells #[.slice none 0 0, .slice none 0 0] 77)) := (Below.refl _ w).alloc (Nat.le_refl _) _
  have h1 := h.below hb
  have hnd := h.apart
  have hlt := h.lt
  have hfeet : ∀ x ∈ feet p bm kv fs, x ≠ bm → x ∉ [bm] := fun x _ e => by simpa using e
  have hbm : ∀ x, x ∈ own kv ∨ x ∈ fs.flatMap foot → x ≠ bm := fun x hx e => by
    subst e
    unfold feet at hnd
    rw [List.nodup_cons, List.nodup_cons] at hnd
    exact hnd.2.1 (List.mem_append.2 hx)
  have hpb : p ≠ bm := fun e => by
    subst e
    unfold feet at hnd
    rw [List.nodup_cons] at hnd
    exact hnd.1 (by simp)
  have hkk : Kept (feet p bm kv fs) w w1 := (Kept.of_below (fp := feet p bm kv fs) hb).trans hk (Newly.of_sub (by simp [feet]))
  refine ⟨⟨?_, ⟨_, ?_, hD.ins (f := newF nm w.heap.size) ht hno⟩, ?_, ?_, ?_, insF_sorted h.sorted (look_none hno)⟩, hkk, ?_⟩
  · exact (hk.block p (by simp; have := hlt p (by simp [feet]); omega) (by simpa using hpb)).trans h1.cells
  · rw [(insF_perm fs (newF nm w.heap.size)).length_eq]
    exact hown
  · intro f hf
    rcases List.mem_cons.1 ((insF_perm fs _).mem_iff.1 hf) with rfl | hf
    · refine ⟨?_, RowB.nil _, RowB.nil _, by simp [foot, newF, own, Value.ownBlock]⟩
      have hlt2 := hlt bm (by simp [feet])
      show w1.heap[w.heap.size]? = _
      rw [hk.block w.heap.size (by simp) (by simp; omega)]
      exact heap_alloc_new w _
    · exact (h1.files f hf).kept hk (fun x hx => by simpa using hbm x (.inr (List.mem_flatMap.2 ⟨f, hf, hx⟩)))
  · exact h1.keep.kept hk (fun x hx => by simpa using hbm x (.inl hx))
  · refine (feet_ins p bm kv fs _).nodup_iff.2 ?_
    rw [List.nodup_append]
    refine ⟨by simp [foot, newF, own, Value.ownBlock], hnd, fun x hx y hy e => ?_⟩
    subst e
    simp [foot, newF, own, Value.ownBlock] at hx
    have := hlt x hy
    omega
  · intro x hx
    rcases List.mem_append.1 ((feet_ins p bm kv fs _).mem_iff.1 hx) with h2 | h2
    · simp [foot, newF, own, Value.ownBlock] at h2
      exact .inr (by omega)
    · exact .inl h2

end Go.Proofs.Ytahhokhhgamelaa

namespace Go.Proofs.Ytahhokhhgamelaa
open Go.RowKit Go.Maps Go.Sort Go.Shelf

/-- What Create answers, and leaves. -/
def createA (A : List Ab × Ds) (n : List UInt8) : Int × (List Ab × Ds) :=
  if A.2.down then (7, A) else if mayB n = false then (1, A) else match lookA A.1 n with | some _ => (5, A) | none => (0, (insA A.1 (n, [], []), A.2))

theorem usedB_ins (l : List Ab) (x : Ab) : usedB (insA l x) = sec x.2.1.length + usedB l := by
  induction l with
  | nil => exact usedB_cons [] x
  | cons g r ih =>
    unfold insA
    split
    · rw [usedB_cons, ih, usedB_cons]
      omega
    · rw [usedB_cons]

theorem createA_ok {A : List Ab × Ds} (h : okA A.1 A.2) (n : List UInt8) (hl : (A.1.length : Int) + 1 ≤ A.2.ops) : okA (createA A n).2.1 (createA A n).2.2 := by
  unfold createA
  split
  · exact h
  · split
    · exact h
    · rename_i h1 h2
      cases lookA A.1 n with
      | some x => exact h
      | none =>
        have hp := insA_perm A.1 (n, [], [])
        have hu : usedB (insA A.1 (n, [], [])) = usedB A.1 := by
          rw [usedB_ins]
          simp [sec]
        refine ⟨fun x hx => ?_, by simp only; rw [hu]; exact h.used, h.fits, h.room, h.ops, ?_, h.left, h.keep, fun x hx => ?_⟩
        · rcases List.mem_cons.1 (hp.mem_iff.1 hx) with rfl | hx
          · exact Nat.le_refl _
          · exact h.ok x hx
        · simp only [hp.length_eq, List.length_cons]
          omega
        · rcases List.mem_cons.1 (hp.mem_iff.1 hx) with rfl | hx
          · simpa using h2
          · exact h.names x hx

theorem beginA_len (l : List Ab) (s : Ds) : (beginA l s).1.length = l.length := by
  unfold beginA
  split
  · rfl
  · split
    · rfl
    · exact crashA_len _ _ _

section
variable {w : World} {fp : List Nat} {p : Nat} {l : List Ab} {s : Ds}

set_option maxRecDepth 100000 in
set_option maxHeartbeats 4000000 in
theorem Dk.create (h : Dk w fp p l s) (hn : s.ops ≤ 1000000) (nm : ByteArray) (hnm : nm.size ≤ maxLen) : Calls Try.prog 16 #[.pointer (some ⟨p, 0, none⟩), .string nm] w fun e w' =>
    e = .returned (.int .i64 (createA (beginA l s) nm.data.toList).1) ∧ Outc w w' fp p (createA (beginA l s) nm.data.toList).2 := by
  obtain ⟨bm, kv, fs, d, rfl, rfl, ho⟩ := h
  have hok := beginA_ok ho
  have hcok := createA_ok hok nm.data.toList (by rw [beginA_len, beginA_ops]; have := ho.len; omega)
  have BG := begin_any d ho hn
  have hfl : (beginA (fs.map Fl.ab) s).1.length ≤ 1000000 := by rw [beginA_len]; have := ho.len; omega
  generalize beginA (fs.map Fl.ab) s = A at BG hok hcok hfl ⊢
  have HOK := hide hok
  have HNM := hide hnm
  have MB := hide (fun W => mayBe_any nm hnm W)
  clear d ho hok
  unfold createA at hcok ⊢
  by_cases hd : A.2.down = true
  · rw [if_pos hd] at BG ⊢
    have HB := hide BG
    clear BG hcok hfl
    go_enter Try.func16, Try.ntmps16
    go_wp2_with (go_at_call 45; refine HB.out.mono ?_; rintro e w1 ⟨rfl, kv1, fs1, s1, L1⟩; have HL := hide L1; clear L1)
    go_ret
    exact ⟨rfl, HL.out.outc HOK.out⟩
  · rw [if_neg hd] at BG hcok ⊢
    have HB := hide BG
    clear BG
    cases hm : mayB nm.data.toList with
    | false =>
      rw [hm] at MB
      simp only [if_true]
      clear hcok hfl
      go_enter Try.func16, Try.ntmps16
      go_wp2_with (first | (go_at_call 45; refine HB.out.mono ?_; rintro e w1 ⟨rfl, kv1, fs1, s1, L1⟩; have HL := hide L1; clear L1) | (go_at_call 46; refine (MB.out _).mono ?_; rintro e w2 ⟨rfl, rfl⟩))
      go_ret
      exact ⟨rfl, HL.out.outc HOK.out⟩
    | true =>
      rw [hm] at MB hcok
      simp only [Bool.true_eq_false, if_false] at hcok ⊢
      cases hlk : lookA A.1 nm.data.toList with
      | some x =>
        have HLK := hide hlk
        clear hcok hlk hfl
        go_enter Try.func16, Try.ntmps16
        go_wp2_with (first | (go_at_call 45; refine HB.out.mono ?_; rintro e w1 ⟨rfl, kv1, fs1, s1, L1⟩; have c0 := L1.1.cellAt.1; have LK := L1.1.look nm HNM.out; have e1 : lookA (fs1.map Fl.ab) nm.data.toList = some x := (by have := congrArg (fun y => y.1) L1.2.1; simp only at this; rw [this]; exact HLK.out); rw [look_ab] at e1; obtain ⟨f1, hf1, _⟩ := Option.map_eq_some_iff.1 e1; rw [hf1] at LK; unfold ptrOf at LK; simp only [Option.map_some] at LK; have HL := hide L1; clear L1 e1 hf1) | (go_at_call 46; refine (MB.out _).mono ?_; rintro e w2 ⟨rfl, rfl⟩))
        go_ret
        exact ⟨rfl, HL.out.outc HOK.out⟩
      | none =>
        rw [hlk] at hcok
        have HLK := hide hlk
        have HCOK := hide hcok
        have HFL := hide hfl
        clear hcok hlk hfl
        have hz : Hid (∀ (fs1 : List Fl) (s1 : Ds), (fs1.map Fl.ab, s1) = A → fs1.length < maxLen) := fun fs1 s1 e => by
          have := congrArg (fun y => y.1.length) e
          simp only [List.length_map] at this
          have h2 := HFL.out
          unfold maxLen
          omega
        go_enter Try.func16, Try.ntmps16
        go_wp2_with (first | (go_at_call 45; refine HB.out.mono ?_; rintro e w1 ⟨rfl, kv1, fs1, s1, L1⟩; have c0 := L1.1.cellAt.1; have LK := L1.1.look nm HNM.out; have e1 : lookA (fs1.map Fl.ab) nm.data.toList = none := (by have := congrArg (fun y => y.1) L1.2.1; simp only at this; rw [this]; exact HLK.out); rw [look_ab] at e1; have hf1 : look fs1 nm.data.toList = none := Option.map_eq_none_iff.1 e1; rw [hf1] at LK; unfold ptrOf at LK; simp only [Option.map_none] at LK; have hpl := L1.1.lt p (by simp [feet]); obtain ⟨D, hown, hD⟩ := L1.1.map; have HOW := hide hown; have HD := hide hD; have HF1 := hide hf1; have HL := hide L1; clear L1 e1 hf1 hown hD) | (go_at_call 46; refine (MB.out _).mono ?_; rintro e w2 ⟨rfl, rfl⟩) | (at_mapUpdate; refine wpList_mapUpdate_own _ rfl _ _ _ 65 rfl 9 75 strLaw Try.underlying65 ptrE bm fs1.length D rfl (HOW.out.alloc _) (hz.out fs1 s1 HL.out.2.1) _ _ (.string nm.data.toList) rfl rfl (WideMaps.keyOf_string_mk Try.underlying9 HNM.out) _ [] (ptrE_some _) ?_; intro w3 o3 g3; have O3 := hide o3; have G3 := hide g3; clear o3 g3))
        go_ret
        refine ⟨rfl, ?_⟩
        have q := disk_create HL.out.1 nm.data.toList HF1.out HD.out (HOW.out.tidy strLaw) O3.out (Kept.of_grown G3.out)
        have L2 : Left w2 w3 p bm kv1 fs1 kv1 (insF fs1 (newF nm.data.toList w2.heap.size)) s1 (insA A.1 (nm.data.toList, [], []), A.2) := by
          refine ⟨q.1, ?_, q.2.1, q.2.2⟩
          rw [insF_ab]
          have e1 := congrArg (fun y => y.1) HL.out.2.1
          have e2 := congrArg (fun y => y.2) HL.out.2.1
          simp only at e1 e2
          rw [e1, e2]
          rfl
        exact (Left.trans HL.out L2).outc HCOK.out

theorem Dk.crash (h : Dk w fp p l s) (hn : s.ops ≤ 1048576) (u : Value) (ks : List Bool) (hu : IsK w u ks) (hux : ks ≠ [] → ∀ x ∈ own u, x ∉ fp) (hkl : ks.length ≤ 1099511627776) :
    Calls Try.prog 35 #[.pointer (some ⟨p, 0, none⟩), u] w fun e w' => e = .returned (.tuple #[]) ∧ Outc w w' fp p (crashA ks l s) := by
  obtain ⟨bm, kv, fs, d, rfl, rfl, ho⟩ := h
  refine (crash_all d ho hn u ks hu hux hkl).mono ?_
  rintro e w' ⟨rfl, kv1, fs1, s1, L⟩
  exact ⟨rfl, L.outc (crashA_ok ho)⟩

/-- What Arm leaves. -/
def armA (l : List Ab) (s : Ds) (n : Int) (ks : List Bool) : List Ab × Ds := if n < 1 then (l, { s with left := 0, keep := [] }) else (l, { s with left := n, keep := ks })

theorem Dk.arm (h : Dk w fp p l s) (n : Int) (hn : n ≤ 9223372036854775807) (u : Value) (ks : List Bool) (hu : IsK w u ks) (hux : ks ≠ [] → ∀ x ∈ own u, x ∉ fp) (hkl : ks.length ≤ 1099511627776) :
    Calls Try.prog 38 #[.pointer (some ⟨p, 0, none⟩), .int .i64 n, u] w fun e w' => e = .returned (.tuple #[]) ∧ Outc w w' fp p (armA l s n ks) := by
  obtain ⟨bm, kv, fs, d, rfl, rfl, ho⟩ := h
  unfold armA
  by_cases h1 : n < 1
  · rw [if_pos h1]
    refine (arm_no d n h1 u).mono ?_
    rintro e w' ⟨rfl, d1, k1⟩
    exact ⟨rfl, _, ⟨bm, _, fs, d1, rfl, rfl, ⟨ho.ok, ho.used, ho.fits, ho.room, ho.ops, ho.len, ⟨by simp, by simp⟩, by simp, ho.names⟩⟩, k1.mono (by simp [feet]), Newly.of_sub feet_sub_nil⟩
  · rw [if_neg h1]
    refine (arm_go d n (by omega) u ks hu (fun hne x hx e => hux hne x hx (by simp [feet, e])) hkl).mono ?_
    rintro e w' ⟨rfl, kv1, d1, k1, n1⟩
    refine ⟨rfl, _, ⟨bm, kv1, fs, d1, rfl, rfl, ⟨ho.ok, ho.used, ho.fits, ho.room, ho.ops, ho.len, ⟨by simp only; omega, hn⟩, hkl, ho.names⟩⟩, k1.mono (by simp [feet]), fun x hx => ?_⟩
    simp only [feet, List.mem_cons, List.mem_append] at hx ⊢
    rcases hx with hx | hx | hx | hx
    · exact .inl (.inl hx)
    · exact .inl (.inr (.inl hx))
    · exact .inr (n1 x hx)
    · exact .inl (.inr (.inr (.inr hx)))

theorem Dk.restart (h : Dk w fp p l s) : Calls Try.prog 37 #[.pointer (some ⟨p, 0, none⟩)] w fun e w' => e = .returned (.tuple #[]) ∧ Outc w w' fp p (l, { s with down := false }) := by
  obtain ⟨bm, kv, fs, d, rfl, rfl, ho⟩ := h
  refine (restart_any d).mono ?_
  rintro e w' ⟨rfl, d1, k1⟩
  exact ⟨rfl, _, ⟨bm, kv, fs, d1, rfl, rfl, ⟨ho.ok, ho.used, ho.fits, ho.room, ho.ops, ho.len, ho.left, ho.keep, ho.names⟩⟩, k1.mono (by simp [feet]), Newly.refl _ _⟩

theorem Dk.down (h : Dk w fp p l s) : Calls Try.prog 40 #[.pointer (some ⟨p, 0, none⟩)] w fun e w' => e = .returned (.bool s.down) ∧ w' = w := by
  obtain ⟨bm, kv, fs, d, rfl, rfl, ho⟩ := h
  exact down_any d
theorem Dk.used (h : Dk w fp p l s) : Calls Try.prog 42 #[.pointer (some ⟨p, 0, none⟩)] w fun e w' => e = .returned (.int .i64 s.used) ∧ w' = w := by
  obtain ⟨bm, kv, fs, d, rfl, rfl, ho⟩ := h
  exact used_any d
theorem Dk.room (h : Dk w fp p l s) : Calls Try.prog 44 #[.pointer (some ⟨p, 0, none⟩)] w fun e w' => e = .returned (.int .i64 s.room) ∧ w' = w := by
  obtain ⟨bm, kv, fs, d, rfl, rfl, ho⟩ := h
  exact room_any d
theorem Dk.ops (h : Dk w fp p l s) : Calls Try.prog 41 #[.pointer (some ⟨p, 0, none⟩)] w fun e w' => e = .returned (.int .i64 s.ops) ∧ w' = w := by
  obtain ⟨bm, kv, fs, d, rfl, rfl, ho⟩ := h
  exact ops_any d
end

/-- A new disk. -/
theorem new_dk (room : Int) (hr : room ≤ 67108864) (w : World) : Calls Try.prog 13 #[.int .i64 room] w fun e w' => e = .returned (.pointer (some ⟨w.heap.size + 1, 0, none⟩)) ∧
    ∃ fp, Dk w' fp (w.heap.size + 1) [] { room := max room 0, used := 0, ops := 0, down := false, left := 0, keep := [] } ∧ Below w.heap.size w w' ∧ ∀ x ∈ fp, w.heap.size ≤ x := by
  refine (new_any room w).mono ?_
  rintro e w' ⟨rfl, d, b⟩
  refine ⟨rfl, _, ⟨_, _, _, d, rfl, rfl, ⟨by simp [okAb], rfl, by simp only; omega, by simp only; omega, by simp, by simp, ⟨by simp, by simp⟩, by simp, by simp⟩⟩, b, ?_⟩
  intro x hx
  simp [feet, own, Value.ownBlock] at hx
  omega

end Go.Proofs.Ytahhokhhgamelaa

namespace Go.Proofs.Ytahhokhhgamelaa
open Go.RowKit Go.Maps Go.Sort Go.Shelf

/-- So many 0s. -/
def zs0 (n : Nat) : List Int := List.replicate n 0

theorem zs0_length (n : Nat) : (zs0 n).length = n := List.length_replicate

/-- 'make([]byte, n)'. -/
theorem wp_makeB {ops : Array Oper} {rest : List Oper} {o : Oper} {a : Act} {Q : Exit → Act → World → Prop} (w : World) (hg : o.guard = none) (x y : Operand) (hop : o.op = Op.makeSlice 28 x y) (n : Nat) (L C : Int)
    (hl : a.eval x = .int .i64 L) (hc : a.eval y = .int .i64 C) (hL : L = (n : Int)) (hC : C = (n : Int)) (hn : n ≤ 1099511627776)
    (h : ∀ w', RowB w' (.slice (some ⟨w.heap.size, 0, none⟩) n n) (zs0 n) → Below w.heap.size w w' → wpList Try.prog ops Q rest (a.put o.dst (.slice (some ⟨w.heap.size, 0, none⟩) n n)) w') :
    wpList Try.prog ops Q (o :: rest) a w := by
  obtain ⟨i0, hi, hz0, hz1, hz2⟩ := info_parts Try.infoU8
  refine wpList_make_full w hg x y 28 hop 0 5 i0 (.int .u8 0) 1 Try.underlying28 hi hz0 hz1 .i64 .i64 L C n hl hc hL hC (by rw [hz2]; omega) (by unfold maxLen; omega) (Nat.zero_le _) ?_
  intro w' hown hgr
  refine h w' ⟨?_, ?_⟩ (⟨hgr.os, hgr.tape, hgr.output, hgr.size, fun k hk => hgr.block k hk (by simp)⟩ : Below w.heap.size w w')
  · have e : (madeCells (Value.int .u8 0).cells (n * 1)).toList = (List.replicate n (0 : Int)).map (Value.int .u8) := by
      simp [madeCells, Value.cells]
      apply List.ext_getElem?
      intro i
      by_cases hi : i < n
      · simp [hi, Nat.mod_one]
      · simp [hi]
    rw [e] at hown
    unfold zs0
    simpa using hown
  · intro z hz
    unfold zs0 at hz
    rw [(List.mem_replicate.1 hz).2]
    omega

/-- A disk of the call's own, all of whose blocks lie from B on. -/
def Sd (B : Nat) (w0 w : World) (p : Nat) (l : List Ab) (s : Ds) : Prop := ∃ fp, Dk w fp p l s ∧ Below B w0 w ∧ (∀ x ∈ fp, B ≤ x) ∧ B ≤ w.heap.size

section
variable {B : Nat} {w0 w : World} {p : Nat} {l : List Ab} {s : Ds}

theorem Outc.sd {w' : World} {fp : List Nat} {A : List Ab × Ds} (h : Outc w w' fp p A) (hb : Below B w0 w) (hf : ∀ x ∈ fp, B ≤ x) (hB : B ≤ w.heap.size) : Sd B w0 w' p A.1 A.2 := by
  obtain ⟨fp', d, k, n⟩ := h
  refine ⟨fp', d, hb.trans (k.below hB hf), fun x hx => ?_, Nat.le_trans hB k.size⟩
  rcases n x hx with h1 | h1
  · exact hf x h1
  · omega

theorem Sd.base (h : Sd B w0 w p l s) : B ≤ w.heap.size := by
  obtain ⟨fp, d, b, f, hB⟩ := h
  exact hB
theorem Sd.bel (h : Sd B w0 w p l s) : Below B w0 w := by
  obtain ⟨fp, d, b, f, hB⟩ := h
  exact b

theorem Sd.below {w' : World} (h : Sd B w0 w p l s) (hb : Below w.heap.size w w') : Sd B w0 w' p l s := by
  obtain ⟨fp, d, b, f, hB⟩ := h
  exact ⟨fp, d.below hb, b.trans (hb.mono hB), f, Nat.le_trans hB hb.size⟩

theorem Sd.new (room : Int) (hr : room ≤ 67108864) (w : World) (hb : Below B w0 w) (hB : B ≤ w.heap.size) : Calls Try.prog 13 #[.int .i64 room] w fun e w' => e = .returned (.pointer (some ⟨w.heap.size + 1, 0, none⟩)) ∧
    Sd B w0 w' (w.heap.size + 1) [] { room := max room 0, used := 0, ops := 0, down := false, left := 0, keep := [] } := by
  refine (new_dk room hr w).mono ?_
  rintro e w' ⟨rfl, fp, d, b, f⟩
  exact ⟨rfl, fp, d, hb.trans (b.mono hB), fun x hx => Nat.le_trans hB (f x hx), Nat.le_trans hB b.size⟩

theorem Sd.create (h : Sd B w0 w p l s) (hn : s.ops ≤ 1000000) (nm : ByteArray) (hnm : nm.size ≤ maxLen) {k : Int} {l' : List Ab} {s' : Ds} (hr : createA (beginA l s) nm.data.toList = (k, (l', s'))) :
    Calls Try.prog 16 #[.pointer (some ⟨p, 0, none⟩), .string nm] w fun e w' => e = .returned (.int .i64 k) ∧ Sd B w0 w' p l' s' := by
  obtain ⟨fp, d, b, f, hB⟩ := h
  refine (d.create hn nm hnm).mono ?_
  rintro e w' ⟨rfl, o⟩
  rw [hr] at o ⊢
  exact ⟨rfl, o.sd b f hB⟩

/-- Append, of bytes that came in. -/
theorem Sd.append (h : Sd B w0 w p l s) (hn : s.ops ≤ 1000000) (nm : ByteArray) (hnm : nm.size ≤ maxLen) (u : Value) (cs : List Int) (hu : IsB w u cs) (hcl : cs.length ≤ 1073741824) (hux : cs ≠ [] → ∀ x ∈ own u, x < B) {k : Int} {l' : List Ab} {s' : Ds} (hr : appendA (beginA l s) nm.data.toList cs = (k, (l', s'))) :
    Calls Try.prog 18 #[.pointer (some ⟨p, 0, none⟩), .string nm, u] w fun e w' => e = .returned (.int .i64 k) ∧ Sd B w0 w' p l' s' := by
  obtain ⟨fp, d, b, f, hB⟩ := h
  refine (d.append hn nm hnm u cs hu hcl (fun hne x hx e => by have := hux hne x hx; have := f x e; omega)).mono ?_
  rintro e w' ⟨rfl, o⟩
  rw [hr] at o ⊢
  exact ⟨rfl, o.sd b f hB⟩

/-- Append, of bytes that were made behind the disk's last operation. -/
theorem Sd.appendN {w1 : World} (h : Sd B w0 w p l s) (hn : s.ops ≤ 1000000) (nm : ByteArray) (hnm : nm.size ≤ maxLen) (u : Value) (cs : List Int) (hb : Below w.heap.size w w1) (hu : IsB w1 u cs) (hcl : cs.length ≤ 1073741824) (hux : ∀ x ∈ own u, w.heap.size ≤ x) {k : Int} {l' : List Ab} {s' : Ds} (hr : appendA (beginA l s) nm.data.toList cs = (k, (l', s'))) :
    Calls Try.prog 18 #[.pointer (some ⟨p, 0, none⟩), .string nm, u] w1 fun e w' => e = .returned (.int .i64 k) ∧ Sd B w0 w' p l' s' := by
  obtain ⟨fp, d, b, f, hB⟩ := h
  have hlt := d.lt
  refine ((d.below hb).append hn nm hnm u cs hu hcl (fun _ x hx e => by have := hux x hx; have := hlt x e; omega)).mono ?_
  rintro e w' ⟨rfl, o⟩
  rw [hr] at o ⊢
  exact ⟨rfl, o.sd (b.trans (hb.mono hB)) f (Nat.le_trans hB hb.size)⟩

theorem Sd.size (h : Sd B w0 w p l s) (hn : s.ops ≤ 1000000) (nm : ByteArray) (hnm : nm.size ≤ maxLen) {k m : Int} {l' : List Ab} {s' : Ds} (hr : beginA l s = (l', s')) (hm : sizeA (l', s') nm.data.toList = (m, k)) :
    Calls Try.prog 24 #[.pointer (some ⟨p, 0, none⟩), .string nm] w fun e w' => e = .returned (.tuple #[.int .i64 m, .int .i64 k]) ∧ Sd B w0 w' p l' s' := by
  obtain ⟨fp, d, b, f, hB⟩ := h
  refine (d.size hn nm hnm).mono ?_
  rintro e w' ⟨rfl, o⟩
  rw [hr] at o ⊢
  rw [hm]
  exact ⟨rfl, o.sd b f hB⟩

theorem Sd.crash (h : Sd B w0 w p l s) (hn : s.ops ≤ 1048576) (u : Value) (ks : List Bool) (hu : IsK w u ks) (hux : ks ≠ [] → ∀ x ∈ own u, x < B) (hkl : ks.length ≤ 1099511627776) {l' : List Ab} {s' : Ds} (hr : crashA ks l s = (l', s')) :
    Calls Try.prog 35 #[.pointer (some ⟨p, 0, none⟩), u] w fun e w' => e = .returned (.tuple #[]) ∧ Sd B w0 w' p l' s' := by
  obtain ⟨fp, d, b, f, hB⟩ := h
  refine (d.crash hn u ks hu (fun hne x hx e => by have := hux hne x hx; have := f x e; omega) hkl).mono ?_
  rintro e w' ⟨rfl, o⟩
  rw [hr] at o
  exact ⟨rfl, o.sd b f hB⟩

theorem Sd.arm (h : Sd B w0 w p l s) (n : Int) (hn : n ≤ 9223372036854775807) (u : Value) (ks : List Bool) (hu : IsK w u ks) (hux : ks ≠ [] → ∀ x ∈ own u, x < B) (hkl : ks.length ≤ 1099511627776) {l' : List Ab} {s' : Ds} (hr : armA l s n ks = (l', s')) :
    Calls Try.prog 38 #[.pointer (some ⟨p, 0, none⟩), .int .i64 n, u] w fun e w' => e = .returned (.tuple #[]) ∧ Sd B w0 w' p l' s' := by
  obtain ⟨fp, d, b, f, hB⟩ := h
  refine (d.arm n hn u ks hu (fun hne x hx e => by have := hux hne x hx; have := f x e; omega) hkl).mono ?_
  rintro e w' ⟨rfl, o⟩
  rw [hr] at o
  exact ⟨rfl, o.sd b f hB⟩

theorem Sd.restart (h : Sd B w0 w p l s) : Calls Try.prog 37 #[.pointer (some ⟨p, 0, none⟩)] w fun e w' => e = .returned (.tuple #[]) ∧ Sd B w0 w' p l { s with down := false } := by
  obtain ⟨fp, d, b, f, hB⟩ := h
  refine d.restart.mono ?_
  rintro e w' ⟨rfl, o⟩
  exact ⟨rfl, o.sd b f hB⟩

theorem Sd.down (h : Sd B w0 w p l s) : Calls Try.prog 40 #[.pointer (some ⟨p, 0, none⟩)] w fun e w' => e = .returned (.bool s.down) ∧ w' = w := by
  obtain ⟨fp, d, _⟩ := h
  exact d.down
theorem Sd.used (h : Sd B w0 w p l s) : Calls Try.prog 42 #[.pointer (some ⟨p, 0, none⟩)] w fun e w' => e = .returned (.int .i64 s.used) ∧ w' = w := by
  obtain ⟨fp, d, _⟩ := h
  exact d.used
theorem Sd.room (h : Sd B w0 w p l s) : Calls Try.prog 44 #[.pointer (some ⟨p, 0, none⟩)] w fun e w' => e = .returned (.int .i64 s.room) ∧ w' = w := by
  obtain ⟨fp, d, _⟩ := h
  exact d.room
theorem Sd.ops (h : Sd B w0 w p l s) : Calls Try.prog 41 #[.pointer (some ⟨p, 0, none⟩)] w fun e w' => e = .returned (.int .i64 s.ops) ∧ w' = w := by
  obtain ⟨fp, d, _⟩ := h
  exact d.ops
end

end Go.Proofs.Ytahhokhhgamelaa

namespace Go.Proofs.Ytahhokhhgamelaa
open Go.RowKit Go.Maps Go.Sort Go.Shelf

/-- The disk of shown, by what it has done. -/
def S10 (used ops : Int) (down : Bool) : Ds := { room := 10, used := used, ops := ops, down := down, left := 0, keep := [] }

theorem shown1 : createA (beginA [] (S10 0 0 false)) [97] = (0, ([([97], [], [])], S10 0 1 false)) := by kernel_rfl
theorem shown2 : appendA (beginA [([97], [], [])] (S10 0 1 false)) [97] (zs0 20) = (0, ([([97], zs0 20, [])], S10 2 2 false)) := by kernel_rfl
theorem shown3 : appendA (beginA [([97], zs0 20, [])] (S10 2 2 false)) [97] (zs0 200) = (6, ([([97], zs0 20, [])], S10 2 3 false)) := by kernel_rfl
theorem shown4 : crashA [] [([97], zs0 20, [])] (S10 2 4 false) = ([([97], [], [])], S10 0 4 true) := by kernel_rfl

theorem shown5 : beginA [([97], zs0 20, [])] (S10 2 3 false) = ([([97], zs0 20, [])], S10 2 4 false) := by kernel_rfl
theorem shown6 : sizeA ([([97], zs0 20, [])], S10 2 4 false) [97] = (20, 0) := by kernel_rfl
theorem shown7 : beginA [([97], [], [])] (S10 0 4 true) = ([([97], [], [])], S10 0 5 true) := by kernel_rfl
theorem shown8 : sizeA ([([97], [], [])], S10 0 5 true) [97] = (0, 7) := by kernel_rfl
theorem shown9 : beginA [([97], [], [])] (S10 0 5 false) = ([([97], [], [])], S10 0 6 false) := by kernel_rfl
theorem shown10 : sizeA ([([97], [], [])], S10 0 6 false) [97] = (0, 0) := by kernel_rfl

theorem str1 (b : UInt8) : (⟨#[b]⟩ : ByteArray).size ≤ maxLen := by
  show 1 ≤ maxLen
  unfold maxLen
  omega

section
variable {B : Nat} {w0 w w1 : World} {p : Nat}

theorem sd1 (h : Sd B w0 w p [] (S10 0 0 false)) : Calls Try.prog 16 #[.pointer (some ⟨p, 0, none⟩), .string ⟨#[97]⟩] w fun e w' => e = .returned (.int .i64 0) ∧ Sd B w0 w' p [([97], [], [])] (S10 0 1 false) :=
  h.create (by decide) ⟨#[97]⟩ (str1 97) shown1
theorem sd2 (h : Sd B w0 w p [([97], [], [])] (S10 0 1 false)) (u : Value) (hb : Below w.heap.size w w1) (hu : RowB w1 u (zs0 20)) (hux : ∀ x ∈ own u, w.heap.size ≤ x) : Calls Try.prog 18 #[.pointer (some ⟨p, 0, none⟩), .string ⟨#[97]⟩, u] w1 fun e w' => e = .returned (.int .i64 0) ∧ Sd B w0 w' p [([97], zs0 20, [])] (S10 2 2 false) :=
  h.appendN (by decide) ⟨#[97]⟩ (str1 97) u _ hb hu.isB (by rw [zs0_length]; omega) hux shown2
theorem sd3 (h : Sd B w0 w p [([97], zs0 20, [])] (S10 2 2 false)) (u : Value) (hb : Below w.heap.size w w1) (hu : RowB w1 u (zs0 200)) (hux : ∀ x ∈ own u, w.heap.size ≤ x) : Calls Try.prog 18 #[.pointer (some ⟨p, 0, none⟩), .string ⟨#[97]⟩, u] w1 fun e w' => e = .returned (.int .i64 6) ∧ Sd B w0 w' p [([97], zs0 20, [])] (S10 2 3 false) :=
  h.appendN (by decide) ⟨#[97]⟩ (str1 97) u _ hb hu.isB (by rw [zs0_length]; omega) hux shown3
theorem sd4 (h : Sd B w0 w p [([97], zs0 20, [])] (S10 2 3 false)) : Calls Try.prog 24 #[.pointer (some ⟨p, 0, none⟩), .string ⟨#[97]⟩] w fun e w' => e = .returned (.tuple #[.int .i64 20, .int .i64 0]) ∧ Sd B w0 w' p [([97], zs0 20, [])] (S10 2 4 false) :=
  h.size (by decide) ⟨#[97]⟩ (str1 97) shown5 shown6
theorem sd5 (h : Sd B w0 w p [([97], zs0 20, [])] (S10 2 4 false)) : Calls Try.prog 35 #[.pointer (some ⟨p, 0, none⟩), .slice none 0 0] w fun e w' => e = .returned (.tuple #[]) ∧ Sd B w0 w' p [([97], [], [])] (S10 0 4 true) :=
  h.crash (by decide) _ [] (IsK.nil _) (fun h => absurd rfl h) (Nat.zero_le _) shown4
theorem sd6 (h : Sd B w0 w p [([97], [], [])] (S10 0 4 true)) : Calls Try.prog 24 #[.pointer (some ⟨p, 0, none⟩), .string ⟨#[97]⟩] w fun e w' => e = .returned (.tuple #[.int .i64 0, .int .i64 7]) ∧ Sd B w0 w' p [([97], [], [])] (S10 0 5 true) :=
  h.size (by decide) ⟨#[97]⟩ (str1 97) shown7 shown8
theorem sd7 (h : Sd B w0 w p [([97], [], [])] (S10 0 5 true)) : Calls Try.prog 37 #[.pointer (some ⟨p, 0, none⟩)] w fun e w' => e = .returned (.tuple #[]) ∧ Sd B w0 w' p [([97], [], [])] (S10 0 5 false) := h.restart
theorem sd8 (h : Sd B w0 w p [([97], [], [])] (S10 0 5 false)) : Calls Try.prog 24 #[.pointer (some ⟨p, 0, none⟩), .string ⟨#[97]⟩] w fun e w' => e = .returned (.tuple #[.int .i64 0, .int .i64 0]) ∧ Sd B w0 w' p [([97], [], [])] (S10 0 6 false) :=
  h.size (by decide) ⟨#[97]⟩ (str1 97) shown9 shown10
theorem sd_used (h : Sd B w0 w p [([97], zs0 20, [])] (S10 2 4 false)) : Calls Try.prog 42 #[.pointer (some ⟨p, 0, none⟩)] w fun e w' => e = .returned (.int .i64 2) ∧ w' = w := h.used
theorem sd_ops (h : Sd B w0 w p [([97], [], [])] (S10 0 6 false)) : Calls Try.prog 41 #[.pointer (some ⟨p, 0, none⟩)] w fun e w' => e = .returned (.int .i64 6) ∧ w' = w := h.ops
theorem sd_room (h : Sd B w0 w p [([97], [], [])] (S10 0 6 false)) : Calls Try.prog 44 #[.pointer (some ⟨p, 0, none⟩)] w fun e w' => e = .returned (.int .i64 10) ∧ w' = w := h.room
theorem sd_down (h : Sd B w0 w p [([97], [], [])] (S10 0 6 false)) : Calls Try.prog 40 #[.pointer (some ⟨p, 0, none⟩)] w fun e w' => e = .returned (.bool false) ∧ w' = w := h.down
end

end Go.Proofs.Ytahhokhhgamelaa

namespace Go.Proofs.Ytahhokhhgamelaa
open Go.RowKit Go.Maps Go.Sort Go.Shelf

theorem own_new {n m : Nat} {w : World} : ∀ x ∈ own (.slice (some ⟨w.heap.size, 0, none⟩) n m), w.heap.size ≤ x := by
  intro x hx
  simp [own, Value.ownBlock] at hx
  omega

set_option maxRecDepth 100000 in
set_option maxHeartbeats 4000000 in
theorem shown_any (w : World) : Calls Try.prog 12 #[] w fun e w' => e = .returned (.bool true) ∧ Below w.heap.size w w' := by
  have NW := hide (Sd.new (B := w.heap.size) (w0 := w) 10 (by omega) w (Below.refl _ _) (Nat.le_refl _))
  go_enter Try.func12, Try.ntmps12
  go_wp2_with (go_at_call 13; refine NW.out.mono ?_; rintro e w1 ⟨rfl, d1⟩; have D1 : Hid (Sd w.heap.size w w1 (w.heap.size + 1) [] (S10 0 0 false)) := d1; clear d1)
  go_wp2_with (first | (go_at_call 16; refine (sd1 D1.out).mono ?_; rintro e w2 ⟨rfl, d2⟩; have D2 := hide d2; clear d2) | (at_make; refine wp_makeB _ rfl _ _ rfl 20 20 20 rfl rfl rfl rfl (by omega) ?_; intro w3 r3 b3; have R3 := hide r3; have B3 := hide b3; clear r3 b3))
  go_wp2_with (first | (go_at_call_of 18 (Value.slice (some ⟨w2.heap.size, 0, none⟩) 20 20); refine (sd2 D2.out _ B3.out R3.out own_new).mono ?_; rintro e w4 ⟨rfl, d4⟩; have D4 := hide d4; clear d4) | (at_make; refine wp_makeB _ rfl _ _ rfl 200 200 200 rfl rfl rfl rfl (by omega) ?_; intro w5 r5 b5; have R5 := hide r5; have B5 := hide b5; clear r5 b5))
  go_wp2_with (go_at_call 18; refine (sd3 D4.out _ B5.out R5.out own_new).mono ?_; rintro e w6 ⟨rfl, d6⟩; have D6 := hide d6; clear d6)
  go_wp2_with (go_at_call 24; refine (sd4 D6.out).mono ?_; rintro e w7 ⟨rfl, d7⟩; have D7 := hide d7; clear d7)
  go_wp2_with (go_at_call 42; refine (sd_used D7.out).mono ?_; rintro e w8 ⟨rfl, rfl⟩)
  go_wp2_with (go_at_call 35; refine (sd5 D7.out).mono ?_; rintro e w9 ⟨rfl, d9⟩; have D9 := hide d9; clear d9)
  go_wp2_with (go_at_call 24; refine (sd6 D9.out).mono ?_; rintro e w10 ⟨rfl, d10⟩; have D10 := hide d10; clear d10)
  go_wp2_with (go_at_call 37; refine (sd7 D10.out).mono ?_; rintro e w11 ⟨rfl, d11⟩; have D11 := hide d11; clear d11)
  go_wp2_with (go_at_call 24; refine (sd8 D11.out).mono ?_; rintro e w12 ⟨rfl, d12⟩; have D12 := hide d12; clear d12)
  go_wp2_with (first | (go_at_call 41; refine (sd_ops D12.out).mono ?_; rintro e w13 ⟨rfl, rfl⟩) | (go_at_call 44; refine (sd_room D12.out).mono ?_; rintro e w14 ⟨rfl, rfl⟩) | (go_at_call 40; refine (sd_down D12.out).mono ?_; rintro e w15 ⟨rfl, rfl⟩))
  go_ret
  exact ⟨rfl, D12.out.bel⟩

end Go.Proofs.Ytahhokhhgamelaa

namespace Go.Proofs.Ytahhokhhgamelaa
open Go.RowKit Go.Maps Go.Sort Go.Shelf

section
variable {w : World} {fp : List Nat} {p : Nat} {l : List Ab} {s : Ds}

set_option maxRecDepth 100000 in
set_option maxHeartbeats 2000000 in
theorem Dk.writeAt_err (h : Dk w fp p l s) (hn : s.ops ≤ 1000000) (nm : ByteArray) (hnm : nm.size ≤ maxLen) (at_ : Int) (a : Option Addr) (n c : Nat) {k : Int} (he : errA (beginA l s) nm.data.toList = some k) :
    Calls Try.prog 20 #[.pointer (some ⟨p, 0, none⟩), .string nm, .int .i64 at_, .slice a n c] w fun e w' => e = .returned (.int .i64 k) ∧ Outc w w' fp p (beginA l s) := by
  obtain ⟨bm, kv, fs, d, rfl, rfl, ho⟩ := h
  have hok := hide (beginA_ok ho)
  have FD := hide (find_err d ho hn nm hnm he)
  have hk := errA_ne he
  have hk0 : ¬ k = 0 := by omega
  clear d ho he hnm
  generalize beginA (fs.map Fl.ab) s = A at FD hok ⊢
  go_enter Try.func20, Try.ntmps20
  go_wp2_with (go_at_call 51; refine FD.out.mono ?_; rintro e w1 ⟨rfl, kv1, fs1, s1, L1⟩; have HL := hide L1; clear L1)
  go_ret
  exact ⟨rfl, HL.out.outc hok.out⟩

set_option maxRecDepth 100000 in
set_option maxHeartbeats 2000000 in
theorem Dk.readAt_err (h : Dk w fp p l s) (hn : s.ops ≤ 1000000) (nm : ByteArray) (hnm : nm.size ≤ maxLen) (at_ n : Int) {k : Int} (he : errA (beginA l s) nm.data.toList = some k) :
    Calls Try.prog 22 #[.pointer (some ⟨p, 0, none⟩), .string nm, .int .i64 at_, .int .i64 n] w fun e w' => e = .returned (.tuple #[.slice none 0 0, .int .i64 k]) ∧ Outc w w' fp p (beginA l s) := by
  obtain ⟨bm, kv, fs, d, rfl, rfl, ho⟩ := h
  have hok := hide (beginA_ok ho)
  have FD := hide (find_err d ho hn nm hnm he)
  have hk := errA_ne he
  have hk0 : ¬ k = 0 := by omega
  clear d ho he hnm
  generalize beginA (fs.map Fl.ab) s = A at FD hok ⊢
  go_enter Try.func22, Try.ntmps22
  go_wp2_with (go_at_call 51; refine FD.out.mono ?_; rintro e w1 ⟨rfl, kv1, fs1, s1, L1⟩; have HL := hide L1; clear L1)
  go_ret2
  exact ⟨rfl, HL.out.outc hok.out⟩

set_option maxRecDepth 100000 in
set_option maxHeartbeats 2000000 in
theorem Dk.sync_err (h : Dk w fp p l s) (hn : s.ops ≤ 1000000) (nm : ByteArray) (hnm : nm.size ≤ maxLen) {k : Int} (he : errA (beginA l s) nm.data.toList = some k) :
    Calls Try.prog 26 #[.pointer (some ⟨p, 0, none⟩), .string nm] w fun e w' => e = .returned (.int .i64 k) ∧ Outc w w' fp p (beginA l s) := by
  obtain ⟨bm, kv, fs, d, rfl, rfl, ho⟩ := h
  have hok := hide (beginA_ok ho)
  have FD := hide (find_err d ho hn nm hnm he)
  have hk := errA_ne he
  have hk0 : ¬ k = 0 := by omega
  clear d ho he hnm
  generalize beginA (fs.map Fl.ab) s = A at FD hok ⊢
  go_enter Try.func26, Try.ntmps26
  go_wp2_with (go_at_call 51; refine FD.out.mono ?_; rintro e w1 ⟨rfl, kv1, fs1, s1, L1⟩; have HL := hide L1; clear L1)
  go_ret
  exact ⟨rfl, HL.out.outc hok.out⟩

set_option maxRecDepth 100000 in
set_option maxHeartbeats 2000000 in
theorem Dk.rename_err (h : Dk w fp p l s) (hn : s.ops ≤ 1000000) (nm : ByteArray) (hnm : nm.size ≤ maxLen) (to : ByteArray) {k : Int} (he : errA (beginA l s) nm.data.toList = some k) :
    Calls Try.prog 28 #[.pointer (some ⟨p, 0, none⟩), .string nm, .string to] w fun e w' => e = .returned (.int .i64 k) ∧ Outc w w' fp p (beginA l s) := by
  obtain ⟨bm, kv, fs, d, rfl, rfl, ho⟩ := h
  have hok := hide (beginA_ok ho)
  have FD := hide (find_err d ho hn nm hnm he)
  have hk := errA_ne he
  have hk0 : ¬ k = 0 := by omega
  clear d ho he hnm
  generalize beginA (fs.map Fl.ab) s = A at FD hok ⊢
  go_enter Try.func28, Try.ntmps28
  go_wp2_with (go_at_call 51; refine FD.out.mono ?_; rintro e w1 ⟨rfl, kv1, fs1, s1, L1⟩; have HL := hide L1; clear L1)
  go_ret
  exact ⟨rfl, HL.out.outc hok.out⟩

set_option maxRecDepth 100000 in
set_option maxHeartbeats 2000000 in
theorem Dk.remove_err (h : Dk w fp p l s) (hn : s.ops ≤ 1000000) (nm : ByteArray) (hnm : nm.size ≤ maxLen) {k : Int} (he : errA (beginA l s) nm.data.toList = some k) :
    Calls Try.prog 30 #[.pointer (some ⟨p, 0, none⟩), .string nm] w fun e w' => e = .returned (.int .i64 k) ∧ Outc w w' fp p (beginA l s) := by
  obtain ⟨bm, kv, fs, d, rfl, rfl, ho⟩ := h
  have hok := hide (beginA_ok ho)
  have FD := hide (find_err d ho hn nm hnm he)
  have hk := errA_ne he
  have hk0 : ¬ k = 0 := by omega
  clear d ho he hnm
  generalize beginA (fs.map Fl.ab) s = A at FD hok ⊢
  go_enter Try.func30, Try.ntmps30
  go_wp2_with (go_at_call 51; refine FD.out.mono ?_; rintro e w1 ⟨rfl, kv1, fs1, s1, L1⟩; have HL := hide L1; clear L1)
  go_ret
  exact ⟨rfl, HL.out.outc hok.out⟩

set_option maxRecDepth 100000 in
set_option maxHeartbeats 2000000 in
/-- Rename, to a name that may not be. -/
theorem Dk.rename_arg (h : Dk w fp p l s) (hn : s.ops ≤ 1000000) (nm : ByteArray) (hnm : nm.size ≤ maxLen) (to : ByteArray) (hto : to.size ≤ maxLen) (hm : mayB to.data.toList = false) {x : Ab} (he : errA (beginA l s) nm.data.toList = none) (hx : lookA (beginA l s).1 nm.data.toList = some x) :
    Calls Try.prog 28 #[.pointer (some ⟨p, 0, none⟩), .string nm, .string to] w fun e w' => e = .returned (.int .i64 1) ∧ Outc w w' fp p (beginA l s) := by
  obtain ⟨bm, kv, fs, d, rfl, rfl, ho⟩ := h
  have hok := hide (beginA_ok ho)
  have FD := hide (find_ok d ho hn nm hnm he hx)
  have MB := mayBe_any to hto
  rw [hm] at MB
  have HMB := hide MB
  clear d ho he hnm hx MB hm
  generalize beginA (fs.map Fl.ab) s = A at FD hok ⊢
  go_enter Try.func28, Try.ntmps28
  go_wp2_with (first | (go_at_call 51; refine FD.out.mono ?_; rintro e w1 ⟨kv1, fs1, s1, f1, rfl, hl1, hf1, L1⟩; have HL := hide L1; clear L1 hf1 hl1) | (go_at_call 46; refine (HMB.out _).mono ?_; rintro e w2 ⟨rfl, rfl⟩))
  go_ret
  exact ⟨rfl, HL.out.outc hok.out⟩

end

end Go.Proofs.Ytahhokhhgamelaa

namespace Go.Proofs.Ytahhokhhgamelaa
open Go.RowKit Go.Maps Go.Sort Go.Shelf

theorem look_del {ds rs : List Fl} {f : Fl} (hs : (ds ++ f :: rs).Pairwise (fun f g => f.name < g.name)) (n : List UInt8) : look (ds ++ rs) n = if f.name = n then none else look (ds ++ f :: rs) n := by
  rw [List.pairwise_append, List.pairwise_cons] at hs
  unfold look
  rw [List.find?_append, List.find?_append, List.find?_cons]
  by_cases h : f.name = n
  · subst h
    rw [if_pos rfl]
    have e1 : ds.find? (fun g => g.name == f.name) = none := List.find?_eq_none.2 fun g hg => by simpa using lt_ne (hs.2.2 g hg f (by simp))
    have e2 : rs.find? (fun g => g.name == f.name) = none := List.find?_eq_none.2 fun g hg => by simpa using Ne.symm (lt_ne (hs.2.1.1 g hg))
    rw [e1, e2]
    rfl
  · have e : (f.name == n) = false := by simpa using h
    rw [e, if_neg h]

theorem MapIs.del {D : DataW Unit} {ds rs : List Fl} {f : Fl} (h : MapIs D (ds ++ f :: rs)) (ht : Tidy D) (hs : (ds ++ f :: rs).Pairwise (fun f g => f.name < g.name)) : MapIs (D.del (.string f.name)) (ds ++ rs) := by
  have hlk : look (ds ++ f :: rs) f.name = some f := look_of_mem hs (by simp)
  refine ⟨fun n => ?_, fun n => ?_, ?_⟩
  · rw [look_del hs n]
    by_cases e : f.name = n
    · subst e
      rw [atKey_del_same, if_pos rfl]
    · rw [atKey_del_other (by simpa using fun e2 => e e2.symm), h.at_ n, if_neg e]
  · rw [look_del hs n]
    by_cases e : f.name = n
    · subst e
      rw [has_del_same, if_pos rfl]
      rfl
    · rw [has_del_other (by simpa using fun e2 => e e2.symm), h.has n, if_neg e]
  · have e := size_del (k := .string f.name) ht
    rw [h.has, hlk, h.size] at e
    simp at e ⊢
    omega

theorem disk_drop {w w1 w2 : World} {p bm : Nat} {kv : Value} {ds rs : List Fl} {f : Fl} {s s' : Ds} (h : DiskAt w p bm kv (ds ++ f :: rs) s) (hk1 : Kept [p] w w1) (hc : w1.heap[p]? = some (.cells (diskCells bm kv s') 72 (0, 0))) (hs : s'.keep = s.keep)
    {D : DataW Unit} (hD : MapIs D (ds ++ f :: rs)) (ht : Tidy D) (hown : w2.ownsMap Try.prog 9 ptrE bm (ds ++ f :: rs).length (D.del (.string f.name))) (hk : Kept [bm] w1 w2) :
    DiskAt w2 p bm kv (ds ++ rs) s' ∧ Kept (feet p bm kv (ds ++ f :: rs)) w w2 ∧ Newly w (feet p bm kv (ds ++ f :: rs)) (feet p bm kv (ds ++ rs)) := by
  have h1 := h.put0 hk1 hc hs
  have hnd := h1.apart
  have hsub : ∀ x ∈ feet p bm kv (ds ++ rs), x ∈ feet p bm kv (ds ++ f :: rs) := fun x hx => (feet_perm p bm kv ds rs f).mem_iff.2 (List.mem_append.2 (.inr hx))
  have hnd2 := (feet_perm p bm kv ds rs f).nodup_iff.1 hnd
  rw [List.nodup_append] at hnd2
  have hnd3 := hnd2.2.1
  have hbm : ∀ x, x ∈ own kv ∨ x ∈ (ds ++ rs).flatMap foot → x ≠ bm := fun x hx e => by
    subst e
    unfold feet at hnd3
    rw [List.nodup_cons, List.nodup_cons] at hnd3
    exact hnd3.2.1 (List.mem_append.2 hx)
  have hpb : p ≠ bm := fun e => by
    subst e
    unfold feet at hnd3
    rw [List.nodup_cons] at hnd3
    exact hnd3.1 (by simp)
  have hmd := hD.del ht h.sorted
  have hsz : Maps.size (D.del (.string f.name)) = (ds ++ rs).length := hmd.size
  refine ⟨⟨?_, ⟨_, ?_, hmd⟩, ?_, ?_, hnd3, ?_⟩, ?_, Newly.of_sub hsub⟩
  · exact (hk.block p (h1.lt p (by simp [feet])) (by simpa using hpb)).trans h1.cells
  · obtain ⟨es, clock, hb, F, hle, hD2⟩ := hown
    refine ⟨es, clock, hb, F, ?_, hD2⟩
    rw [← hsz, hD2]
    simp [Maps.size, length_sorted]
  · intro g hg
    have hg2 : g ∈ ds ++ f :: rs := by
      rcases List.mem_append.1 hg with hg | hg
      · simp [hg]
      · simp [hg]
    exact (h1.files g hg2).kept hk (fun x hx => by simpa using hbm x (.inr (List.mem_flatMap.2 ⟨g, hg, hx⟩)))
  · exact h1.keep.kept hk (fun x hx => by simpa using hbm x (.inl hx))
  · have := h.sorted
    rw [List.pairwise_append, List.pairwise_cons] at this
    rw [List.pairwise_append]
    exact ⟨this.1, this.2.1.2, fun a ha b hb => this.2.2 a ha b (by simp [hb])⟩
  · exact (hk1.mono (fp' := feet p bm kv (ds ++ f :: rs)) (by simp [feet])).trans hk (Newly.of_sub (by simp [feet]))

set_option maxRecDepth 100000 in
set_option maxHeartbeats 4000000 in
/-- drop, of a file that there is. -/
theorem drop_go {w : World} {p bm : Nat} {kv : Value} {ds rs : List Fl} {f : Fl} {s : Ds} (h : DiskAt w p bm kv (ds ++ f :: rs) s) (nm : ByteArray) (hnm : nm.size ≤ maxLen) (hn : nm.data.toList = f.name) (hl : f.now.length ≤ 1073741824) (hs0 : 0 ≤ s.used ∧ s.used ≤ 67108864) :
    Calls Try.prog 54 #[.pointer (some ⟨p, 0, none⟩), .string nm] w fun e w' => e = .returned (.tuple #[]) ∧ DiskAt w' p bm kv (ds ++ rs) { s with used := s.used - sec f.now.length } ∧ Kept (feet p bm kv (ds ++ f :: rs)) w w' ∧ Newly w (feet p bm kv (ds ++ f :: rs)) (feet p bm kv (ds ++ rs)) := by
  have hf := h.files f (by simp)
  have hpf : p ≠ f.blk := fun e => by
    have hnd := (feet_perm p bm kv ds rs f).nodup_iff.1 h.apart
    rw [List.nodup_append] at hnd
    exact hnd.2.2 p (by simp [foot, e]) p (by simp [feet]) rfl
  have c0 := cell_of_heap hf.cells 0
  simp at c0
  obtain ⟨na, ncap, hvn, _⟩ := hf.rnow.isB.form
  rw [hvn] at c0
  obtain ⟨d0, _, d2, _, _, _, _, d7⟩ := h.cellAt
  have LK := h.look nm hnm
  have e1 : look (ds ++ f :: rs) nm.data.toList = some f := by rw [hn]; exact look_of_mem h.sorted (by simp)
  rw [e1] at LK
  unfold ptrOf at LK
  simp only [Option.map_some] at LK
  obtain ⟨D, hown, hD⟩ := h.map
  obtain ⟨L, hL⟩ : ∃ L, L = f.now.length := ⟨_, rfl⟩
  rw [← hL] at c0 hl ⊢
  have S1 := hide (fun W => sectors_any L (by omega) W)
  have b1 := sec_nonneg L
  have b2 : sec L ≤ 67108865 := by unfold sec; omega
  generalize sec L = X at S1 b1 b2 ⊢
  have hwr : IntKind.i64.wrap (s.used - X) = s.used - X := i64_small _ (by omega) (by omega)
  obtain ⟨q, hq⟩ : ∃ q, q = f.blk := ⟨_, rfl⟩
  rw [← hq] at c0 LK hpf
  have k1 : Kept [p] w (w.setCell ⟨p, 2, none⟩ (.int .i64 (s.used - X))) := (Kept.refl _ w).setCell (p := ⟨p, 2, none⟩) (.inl (by simp)) _
  have h1c : (w.setCell ⟨p, 2, none⟩ (.int .i64 (s.used - X))).heap[p]? = some (.cells (diskCells bm kv { s with used := s.used - X }) 72 (0, 0)) := by
    have e := heap_setCell h.cells 2 (.int .i64 (s.used - X))
    simpa [diskCells] using e
  have hpb : bm ≠ p := fun e => by
    have hnd := h.apart
    unfold feet at hnd
    rw [List.nodup_cons] at hnd
    exact hnd.1 (by simp [e])
  have ow1 : (w.setCell ⟨p, 2, none⟩ (.int .i64 (s.used - X))).ownsMap Try.prog 9 ptrE bm (ds ++ f :: rs).length D := ownsMap_kept hown k1 (by simpa using hpb)
  have OW := hide ow1
  have HH := hide h
  have HD := hide hD
  have HT := hide (hown.tidy strLaw)
  have HK1 := hide k1
  have HC := hide h1c
  have HN := hide hn
  have HNM := hide hnm
  clear h hD hown k1 h1c hn hf hvn e1 hL hq ow1 hnm
  go_enter Try.func54, Try.ntmps54
  go_wp2
  go_region_law (go_simp; go_at_call 59; refine (S1.out _).mono ?_; rintro e w5 ⟨rfl, rfl⟩)
  all_goals
    go_wp2_with (at_delete; refine wpList_delete_own _ rfl _ _ 65 9 rfl 75 strLaw Try.underlying65 ptrE bm (ds ++ f :: rs).length D rfl OW.out.drew _ (.string nm.data.toList) rfl (WideMaps.keyOf_string_mk Try.underlying9 HNM.out) ?_; intro w6 o6 t6; have O6 := hide o6; have T6 := hide t6; clear o6 t6)
    go_end0
    have o7 := O6.out
    rw [HN.out] at o7
    have q := disk_drop HH.out HK1.out.drew HC.out rfl HD.out HT.out o7 (⟨T6.out.grown.os, T6.out.grown.tape, T6.out.grown.output, T6.out.grown.size, fun k hk hne => T6.out.grown.block k hk (fun e => hne (by simpa using e))⟩ : Kept [bm] _ w6)
    exact ⟨rfl, q.1, q.2.1, q.2.2⟩

/-- All files but the one of a name. -/
def delA (l : List Ab) (n : List UInt8) : List Ab := l.filter (fun y => !(y.1 == n))

theorem delA_split {a b : List Ab} {x : Ab} (h : (a ++ x :: b).Pairwise (fun f g => f.1 < g.1)) : delA (a ++ x :: b) x.1 = a ++ b := by
  rw [List.pairwise_append, List.pairwise_cons] at h
  unfold delA
  rw [List.filter_append, List.filter_cons, if_neg (by simp)]
  have e1 : a.filter (fun y => !(y.1 == x.1)) = a := List.filter_eq_self.2 fun z hz => by simpa using lt_ne (h.2.2 z hz x (by simp))
  have e2 : b.filter (fun y => !(y.1 == x.1)) = b := List.filter_eq_self.2 fun z hz => by simpa using Ne.symm (lt_ne (h.2.1.1 z hz))
  rw [e1, e2]

/-- What Remove leaves. -/
def removeA (A : List Ab × Ds) (x : Ab) : List Ab × Ds := (delA A.1 x.1, { A.2 with used := A.2.used - sec x.2.1.length })

theorem removeA_ok {a b : List Ab} {x : Ab} {s : Ds} (h : okA (a ++ x :: b) s) : okA (a ++ b) { s with used := s.used - sec x.2.1.length } := by
  have h1 := h.used
  have h2 := h.len
  have h3 := h.fits
  have h4 := sec_nonneg x.2.1.length
  rw [usedB_append, usedB_cons] at h1
  have hm : ∀ y ∈ a ++ b, y ∈ a ++ x :: b := fun y hy => by
    rcases List.mem_append.1 hy with hy | hy
    · simp [hy]
    · simp [hy]
  refine ⟨fun y hy => h.ok y (hm y hy), ?_, ?_, h.room, h.ops, ?_, h.left, h.keep, fun y hy => h.names y (hm y hy)⟩
  · rw [usedB_append]
    simp only
    omega
  · simp only
    omega
  · simp only [List.length_append, List.length_cons] at h2 ⊢
    omega

set_option maxRecDepth 100000 in
set_option maxHeartbeats 2000000 in
theorem Dk.remove_ok {w : World} {fp : List Nat} {p : Nat} {l : List Ab} {s : Ds} (h : Dk w fp p l s) (hn : s.ops ≤ 1000000) (nm : ByteArray) (hnm : nm.size ≤ maxLen) {x : Ab} (he : errA (beginA l s) nm.data.toList = none) (hx : lookA (beginA l s).1 nm.data.toList = some x) :
    Calls Try.prog 30 #[.pointer (some ⟨p, 0, none⟩), .string nm] w fun e w' => e = .returned (.int .i64 0) ∧ Outc w w' fp p (removeA (beginA l s) x) := by
  obtain ⟨bm, kv, fs, d, rfl, rfl, ho⟩ := h
  have hok := hide (beginA_ok ho)
  have FD := hide (find_ok d ho hn nm hnm he hx)
  have DR := hide (fun (w1 : World) (kv1 : Value) (fs1 : List Fl) (s1 : Ds) (f1 : Fl) (hl1 : look fs1 nm.data.toList = some f1) (hf1 : f1.ab = x) (L1 : Left w w1 p bm kv fs kv1 fs1 s1 (beginA (fs.map Fl.ab) s)) => by
    have hok1 : okA (fs1.map Fl.ab) s1 := by
      have e := L1.2.1
      have e1 := congrArg (fun y => y.1) e
      have e2 := congrArg (fun y => y.2) e
      simp only at e1 e2
      rw [e1, e2]
      exact hok.out
    obtain ⟨ds, rs, hsp⟩ := List.append_of_mem (look_name hl1).1
    have hL := file_len hok1 (look_name hl1).1
    have hu := hok1.used
    have hft := hok1.fits
    have hrm := hok1.room
    have hnn := usedB_nonneg (fs1.map Fl.ab)
    subst hsp
    have q := drop_go L1.1 nm hnm (look_name hl1).2.symm hL.1 ⟨by omega, by omega⟩
    refine (q.mono (R' := fun e w' => e = .returned (.tuple #[]) ∧ Outc w w' (feet p bm kv fs) p (removeA (beginA (fs.map Fl.ab) s) x)) ?_)
    rintro e w' ⟨rfl, d2, k2, n2⟩
    refine ⟨rfl, ?_⟩
    have e := L1.2.1
    have eA : removeA (beginA (fs.map Fl.ab) s) x = ((ds ++ rs).map Fl.ab, { s1 with used := s1.used - sec f1.now.length }) := by
      rw [← e, ← hf1]
      unfold removeA
      have e3 := delA_split (a := ds.map Fl.ab) (b := rs.map Fl.ab) (x := f1.ab) (by have := sortedA L1.1.sorted; simpa using this)
      simp only [List.map_append, List.map_cons]
      rw [e3]
      rfl
    have L2 : Left w1 w' p bm kv1 (ds ++ f1 :: rs) kv1 (ds ++ rs) { s1 with used := s1.used - sec f1.now.length } (removeA (beginA (fs.map Fl.ab) s) x) := ⟨d2, eA.symm, k2, n2⟩
    refine (Left.trans L1 L2).outc ?_
    rw [eA]
    have h9 := removeA_ok (a := ds.map Fl.ab) (b := rs.map Fl.ab) (x := f1.ab) (s := s1) (by simpa using hok1)
    simpa [Fl.ab] using h9)
  clear d ho he hx
  generalize beginA (fs.map Fl.ab) s = A at FD hok DR ⊢
  go_enter Try.func30, Try.ntmps30
  go_wp2_with (first | (go_at_call 51; refine FD.out.mono ?_; rintro e w1 ⟨kv1, fs1, s1, f1, rfl, hl1, hf1, L1⟩; have D1 := hide (DR.out w1 kv1 fs1 s1 f1 hl1 hf1 L1); clear L1 hf1 hl1) | (go_at_call 54; refine D1.out.mono ?_; rintro e w2 ⟨rfl, o2⟩; have O2 := hide o2; clear o2))
  go_ret
  exact ⟨rfl, O2.out⟩

end Go.Proofs.Ytahhokhhgamelaa

namespace Go.Proofs.Ytahhokhhgamelaa
open Go.RowKit Go.Maps Go.Sort Go.Shelf

theorem read_list (now : List Int) (a m : Nat) (h : a + m ≤ now.length) : (zs0 m).take 0 ++ ((now.drop a).take ((zs0 m).length - 0) ++ (zs0 m).drop (0 + (now.drop a).length)) = (now.drop a).take m := by
  have e : (zs0 m).drop (0 + (now.drop a).length) = [] := List.drop_of_length_le (by rw [zs0_length]; simp; omega)
  rw [e, zs0_length]
  simp

set_option maxRecDepth 100000 in
set_option maxHeartbeats 4000000 in
/-- ReadAt: bytes of a file that there is. -/
theorem Dk.read {w : World} {fp : List Nat} {p : Nat} {l : List Ab} {s : Ds} (h : Dk w fp p l s) (hn : s.ops ≤ 1000000) (nm : ByteArray) (hnm : nm.size ≤ maxLen) {x : Ab} (he : errA (beginA l s) nm.data.toList = none) (hx : lookA (beginA l s).1 nm.data.toList = some x) (a m : Nat) (ham : a + m ≤ x.2.1.length) :
    Calls Try.prog 22 #[.pointer (some ⟨p, 0, none⟩), .string nm, .int .i64 (a : Int), .int .i64 (m : Int)] w fun e w' => ∃ v, e = .returned (.tuple #[v, .int .i64 0]) ∧ RowB w' v ((x.2.1.drop a).take m) ∧
      ∃ fp', Dk w' fp' p (beginA l s).1 (beginA l s).2 ∧ Kept fp w w' ∧ Newly w fp fp' ∧ ∀ y ∈ own v, w.heap.size ≤ y ∧ y ∉ fp' := by
  obtain ⟨bm, kv, fs, d, rfl, rfl, ho⟩ := h
  have hok := beginA_ok ho
  have HOK := hide hok
  have FD := hide (find_ok d ho hn nm hnm he hx)
  have hxl : x.2.1.length ≤ 1073741824 := by
    have h1 := usedB_mem (lookA_mem hx).1
    have h2 := hok.used
    have h3 := hok.fits
    have h4 := hok.room
    have h5 := sec_le _ _ (Int.le_trans h1 (by omega : usedB (beginA (fs.map Fl.ab) s).1 ≤ 67108864))
    omega
  obtain ⟨L, hL⟩ : ∃ L, L = x.2.1.length := ⟨_, rfl⟩
  have HL := hide hL
  have HRL := hide (read_list x.2.1 a m ham)
  have hi1 : (m : Int) ≤ (L : Int) - (a : Int) := by omega
  have hi2 : ¬ (L : Int) - (a : Int) < (m : Int) := by omega
  have haL : a ≤ L := by omega
  have hmL : m ≤ 1099511627776 := by omega
  have hL2 : L ≤ 1073741824 := by omega
  clear d ho he hnm hx hL hok
  generalize beginA (fs.map Fl.ab) s = A at FD HOK ⊢
  go_enter Try.func22, Try.ntmps22
  go_wp2_with (first
    | (go_at_call 51; refine FD.out.mono ?_; rintro e w1 ⟨kv1, fs1, s1, f1, rfl, hl1, hf1, L1⟩; have FA := L1.1.files f1 (look_name hl1).1; have c0 := cell_of_heap FA.cells 0; simp at c0; obtain ⟨va, vc, hvn, hvc⟩ := FA.rnow.isB.form; rw [hvn] at c0; have e3 : f1.now = x.2.1 := (by rw [← hf1]; rfl); rw [e3, ← HL.out] at c0 hvc; have RN := FA.rnow; rw [hvn, e3, ← HL.out] at RN; have HRN := hide RN; have hfl := FA.lt f1.blk (by simp [foot]); have sl1 := slice_from va L vc a haL; obtain ⟨dp, hdp⟩ : ∃ dp, dp = (if vc = a then va else va.map (·.add a)) := ⟨_, rfl⟩; have HSB : Hid (IsB w1 (.slice dp (L - a) (vc - a)) (x.2.1.drop a)) := (by rw [hdp]; exact RN.isB.from a haL); rw [← hdp] at sl1; have HLT := hide L1.1.lt; have HL1 := hide L1; clear L1 FA hvn hf1 hl1 e3 RN hdp)
    | (at_make; refine wp_makeB _ rfl _ _ rfl m (m : Int) (m : Int) rfl rfl rfl rfl hmL ?_; intro w2 r2 b2; have R2 := hide r2; have B2 := hide b2; clear r2 b2; have c2 := (B2.out.cell (p := ⟨f1.blk, 0, none⟩) hfl).trans c0)
    | (refine wp_copyM _ rfl _ _ rfl (.slice (some ⟨w1.heap.size, 0, none⟩) m m) (zs0 m) R2.out 0 (Nat.zero_le _) (.slice dp (L - a) (vc - a)) (x.2.1.drop a) (HSB.out.below B2.out) (some ⟨w1.heap.size, 0, none⟩) m m rfl (by rw [zs0_length]; rfl) (by intro _ g hg; simp [Value.ownBlock] at hg; rw [hg]) rfl (min (x.2.1.drop a).length ((zs0 m).length - 0)) rfl ((x.2.1.drop a).take m) HRL.out.symm ?_; intro w3 r3 k3; have R3 := hide r3; have K3 := hide k3; clear r3 k3))
  go_ret2
  obtain ⟨q1, q2, q3, q4⟩ := HL1.out
  have hnw : ∀ y ∈ own (.slice (some ⟨w1.heap.size, 0, none⟩) m m), y = w1.heap.size := fun y hy => by simp [own, Value.ownBlock] at hy; omega
  have k13 : Kept [] w1 w3 := (Kept.of_below (fp := []) B2.out).trans K3.out (fun y hy => .inr (by rw [hnw y hy]; exact Nat.le_refl _))
  refine ⟨_, rfl, R3.out, feet p bm kv1 fs1, ⟨bm, kv1, fs1, ?_, ?_, rfl, HOK.out⟩, q3.trans k13 (Newly.of_sub (by simp)), q4, fun y hy => ?_⟩
  · have e2 := congrArg (fun z => z.2) q2
    simp only at e2
    rw [← e2]
    exact q1.kept k13 (by simp)
  · exact congrArg (fun z => z.1) q2
  · rw [hnw y hy]
    refine ⟨q3.size, fun e => ?_⟩
    have := HLT.out _ e
    omega

end Go.Proofs.Ytahhokhhgamelaa

namespace Go.Proofs.Ytahhokhhgamelaa
open Go.RowKit Go.Maps Go.Sort Go.Shelf

theorem addr_add0 (a : Addr) : a.add 0 = a := by simp [Addr.add]

/-- A slice's beginning, of no bytes. -/
theorem slice_zero (na : Option Addr) (L cap : Nat) (W : World) :
    (Instr.slice 28 (.slice na L cap) none (some (.int .i64 0)) none).run Try.prog W = .ok (.slice na 0 cap) W := by
  obtain ⟨i0, hi, hz0, hz1, hz2⟩ := info_parts Try.infoU8
  have e : (na.map fun x => x.add 0) = na := by cases na <;> simp [addr_add0]
  simp [Instr.slice, Instr.sliceBounds, Instr.sliceBound, asIntOf, run_underlying Try.underlying28, sizeOf, typeInfo, hi]
  first | done | (intro _; exact e.symm) | (intro _; exact e)

theorem RowB.front {w : World} {na : Option Addr} {L cap : Nat} {bs : List Int} (h : RowB w (.slice na L cap) bs) : RowB w (.slice na 0 cap) [] := by
  obtain ⟨⟨h1, h2⟩, h3⟩ := h
  refine ⟨⟨by simp, ?_⟩, by simp⟩
  rcases h2 with ⟨e, _⟩ | ⟨g, c, cur, e, r1, r2, r3, r4, r5, r6⟩
  · simp only [Value.slice.injEq] at e
    obtain ⟨rfl, rfl, rfl⟩ := e
    exact .inl ⟨rfl, rfl⟩
  · simp only [Value.slice.injEq] at e
    obtain ⟨rfl, rfl, rfl⟩ := e
    exact .inr ⟨g, cap, cur, rfl, r1, r2, Nat.zero_le _, r4, r5, by simp⟩

theorem syncA_ok {a b : List Ab} {x : Ab} {s : Ds} (h : okA (a ++ x :: b) s) : okA (a ++ (x.1, x.2.1, x.2.1) :: b) s :=
  okA_set h rfl (Nat.le_refl _) (by simp only; omega) h.fits rfl rfl rfl rfl

set_option maxRecDepth 100000 in
set_option maxHeartbeats 4000000 in
theorem Dk.sync_ok {w : World} {fp : List Nat} {p : Nat} {l : List Ab} {s : Ds} (h : Dk w fp p l s) (hn : s.ops ≤ 1000000) (nm : ByteArray) (hnm : nm.size ≤ maxLen) {x : Ab} (he : errA (beginA l s) nm.data.toList = none) (hx : lookA (beginA l s).1 nm.data.toList = some x) :
    Calls Try.prog 26 #[.pointer (some ⟨p, 0, none⟩), .string nm] w fun e w' => e = .returned (.int .i64 0) ∧ Outc w w' fp p (setA (beginA l s).1 (x.1, x.2.1, x.2.1), (beginA l s).2) := by
  obtain ⟨bm, kv, fs, d, rfl, rfl, ho⟩ := h
  have hok := beginA_ok ho
  have HOK := hide hok
  have FD := hide (find_ok d ho hn nm hnm he hx)
  have hxl : x.2.1.length ≤ 1073741824 := by
    have h1 := usedB_mem (lookA_mem hx).1
    have h2 := hok.used
    have h3 := hok.fits
    have h4 := hok.room
    have h5 := sec_le _ _ (Int.le_trans h1 (by omega : usedB (beginA (fs.map Fl.ab) s).1 ≤ 67108864))
    omega
  have hlen : ([] : List Int).length + x.2.1.length ≤ 1099511627776 := by simp; omega
  have HLEN := hide hlen
  clear d ho he hnm hx hok hlen
  generalize beginA (fs.map Fl.ab) s = A at FD HOK ⊢
  go_enter Try.func26, Try.ntmps26
  go_wp2_with (go_at_call 51; refine FD.out.mono ?_; rintro e w1 ⟨kv1, fs1, s1, f1, rfl, hl1, hf1, L1⟩; have FA := L1.1.files f1 (look_name hl1).1; have c0 := cell_of_heap FA.cells 0; have c1 := cell_of_heap FA.cells 1; have c2 := frozen_of_heap FA.cells; simp at c0 c1; obtain ⟨na, nc, hvn, _⟩ := FA.rnow.isB.form; obtain ⟨sa, sc, hvs, _⟩ := FA.rsyn.isB.form; rw [hvn] at c0; rw [hvs] at c1; have e3 : f1.now = x.2.1 := (by rw [← hf1]; rfl); have RN := FA.rnow; have RS := FA.rsyn; rw [hvn, e3] at RN; rw [hvs] at RS; rw [e3] at c0; have HRN := hide RN; have HRS := hide RS.front; have sl1 := slice_zero sa f1.syn.length sc; have HVN := hide hvn; have HVS := hide hvs; have HFA := hide FA; have HLK := hide hl1; have HF1 := hide hf1; have HL1 := hide L1; have HE3 := hide e3; obtain ⟨q, hq⟩ : ∃ q, q = f1.blk := ⟨_, rfl⟩; rw [← hq] at c0 c1 c2; have HQ := hide hq; have hq2 : f1.blk = q := hq.symm; clear L1 FA hvn hvs hf1 hl1 e3 RN RS hq)
  have hvo : ∀ y ∈ own (.slice sa 0 sc), y ∈ own f1.vs := fun y hy => by
    rw [HVS.out]
    cases sa with
    | none => simp [own, Value.ownBlock] at hy
    | some sa => simpa [own, Value.ownBlock] using hy
  have hap := HFA.out.apart
  unfold foot at hap
  rw [List.nodup_cons, List.nodup_append] at hap
  have HQN : Hid (q ∉ own (.slice sa 0 sc)) := fun e => hap.1 (List.mem_append.2 (.inr (by rw [hq2]; exact hvo q e)))
  have HQL : Hid (q < w1.heap.size) := by show q < _; rw [HQ.out]; exact HFA.out.lt _ (by simp [foot])
  have HQC : Hid (w1.heap[q]? = some (.cells #[f1.vn, f1.vs] 77 (0, 0))) := by
    show _ = _
    rw [HQ.out]
    exact HFA.out.cells
  have HAP := hide hap
  have HVO := hide hvo
  clear hap hvo hq2
  go_region_law (refine step_appendR _ ?_ (.tmp 21) (.tmp 25) ?_ (.slice sa 0 sc) (.slice na x.2.1.length nc) [] x.2.1 ?_ ?_ ?_ ?_ ?_ ?_; rfl; rfl; rfl; exact HRS.out; rfl; exact HRN.out.isB; exact HLEN.out; intro v3 w3 r3 k3 n3; rw [List.nil_append] at r3; obtain ⟨va, vc, rfl, hvc⟩ := r3.isB.form; have R3 := hide r3; have N3 := hide n3; have K3 : Hid (Kept (own (.slice sa 0 sc)) w1 w3) := (⟨k3.os, k3.tape, k3.output, k3.size, k3.block⟩ : Kept _ w1 w3); clear r3 k3 n3; have hq3 := (K3.out.block q HQL.out HQN.out).trans HQC.out; have e1 := K3.out.cell c1 HQN.out; have z3 := frozen_of_heap hq3; have HQ3 := hide hq3; clear hq3)
  all_goals
    go_wp2
    go_ret
    refine ⟨rfl, ?_⟩
    have hap := HAP.out
    have k4 : Kept (foot f1) w1 (w3.setCell ⟨q, 1, none⟩ (.slice va x.2.1.length vc)) := (K3.out.mono (fp' := foot f1) (fun y hy => by
      simp only [foot, List.mem_cons, List.mem_append]
      exact .inr (.inr (HVO.out y hy)))).setCell (p := ⟨q, 1, none⟩) (.inl (by simp [foot, HQ.out])) _
    have hnap : ∀ y ∈ own (.slice va x.2.1.length vc), y ∈ own f1.vs ∨ w1.heap.size ≤ y := fun y hy => by
      rcases N3.out y hy with h1 | h1
      · exact .inl (HVO.out y h1)
      · exact .inr h1
    have hqv : q ∉ own (.slice va x.2.1.length vc) := fun e => by
      rcases hnap q e with h1 | h1
      · exact hap.1 (List.mem_append.2 (.inr (by rw [← HQ.out]; exact h1)))
      · have := HQL.out
        omega
    have hqn : q ∉ own f1.vn := fun e => hap.1 (List.mem_append.2 (.inl (by rw [← HQ.out]; exact e)))
    have kq : Kept [q] w3 (w3.setCell ⟨q, 1, none⟩ (.slice va x.2.1.length vc)) := (Kept.refl _ w3).setCell (p := ⟨q, 1, none⟩) (.inl (by simp)) _
    have fileN : FileAt (w3.setCell ⟨q, 1, none⟩ (.slice va x.2.1.length vc)) { f1 with vs := .slice va x.2.1.length vc, syn := x.2.1 } := by
      refine ⟨?_, ?_, R3.out.kept kq (fun y hy => by simp; rintro rfl; exact hqv hy), ?_⟩
      · have e := heap_setCell HQ3.out 1 (.slice va x.2.1.length vc)
        simp only
        rw [← HQ.out]
        simpa using e
      · exact (HFA.out.rnow.kept K3.out (fun y hy e => hap.2.2.2 y hy y (HVO.out y e) rfl)).kept kq (fun y hy => by simp; rintro rfl; exact hqn hy)
      · show (f1.blk :: (own f1.vn ++ own (.slice va x.2.1.length vc))).Nodup
        rw [List.nodup_cons, List.nodup_append]
        refine ⟨fun e => ?_, hap.2.1, by cases va <;> simp [own, Value.ownBlock], fun y hy z hz e => ?_⟩
        · rcases List.mem_append.1 e with e | e
          · exact hqn (by rw [HQ.out]; exact e)
          · exact hqv (by rw [HQ.out]; exact e)
        · subst e
          rcases hnap y hz with h1 | h1
          · exact hap.2.2.2 y hy y h1 rfl
          · have := HFA.out.rnow.lt y hy
            omega
    have newN : Newly w1 (foot f1) (foot { f1 with vs := .slice va x.2.1.length vc, syn := x.2.1 }) := fun y hy => by
      simp only [foot, List.mem_cons, List.mem_append] at hy ⊢
      rcases hy with hy | hy | hy
      · exact .inl (.inl hy)
      · exact .inl (.inr (.inl hy))
      · rcases hnap y hy with h1 | h1
        · exact .inl (.inr (.inr h1))
        · exact .inr h1
    obtain ⟨ds, rs, hsp⟩ := List.append_of_mem (look_name HLK.out).1
    obtain ⟨q1, q2, q3, q4⟩ := HL1.out
    subst hsp
    have dN := q1.file (f' := { f1 with vs := .slice va x.2.1.length vc, syn := x.2.1 }) rfl rfl k4 (fun y hy => .inl hy) fileN newN
    have eA1 := congrArg (fun z => z.1) q2
    have eA2 := congrArg (fun z => z.2) q2
    simp only at eA1 eA2
    have hset : setA A.1 (x.1, x.2.1, x.2.1) = (ds ++ { f1 with vs := .slice va x.2.1.length vc, syn := x.2.1 } :: rs).map Fl.ab := by
      rw [← eA1, List.map_append, List.map_cons, ← HF1.out]
      rw [setA_split (a := ds.map Fl.ab) (b := rs.map Fl.ab) (x := f1.ab) (y := (f1.ab.1, f1.ab.2.1, f1.ab.2.1)) (by have := sortedA q1.sorted; simpa using this) rfl]
      simp [Fl.ab]
    have hk5 : Kept (feet p bm kv1 (ds ++ f1 :: rs)) w1 (w3.setCell ⟨q, 1, none⟩ (.slice va x.2.1.length vc)) := k4.mono (fun y hy => (feet_perm p bm kv1 ds rs f1).mem_iff.2 (List.mem_append.2 (.inl hy)))
    refine ⟨feet p bm kv1 (ds ++ { f1 with vs := .slice va x.2.1.length vc, syn := x.2.1 } :: rs), ⟨bm, kv1, _, ?_, hset.symm, rfl, ?_⟩, ?_, q4.trans (feet_file newN rfl) q3.size⟩
    · simp only
      rw [← eA2]
      first | exact dN | exact dN.kept ((Kept.refl [] _).drew) (by simp)
    · simp only
      rw [hset, ← eA2]
      have h9 := syncA_ok (a := ds.map Fl.ab) (b := rs.map Fl.ab) (x := f1.ab) (s := s1) (by have := HOK.out; rw [← eA1, ← eA2] at this; simpa using this)
      have e9 : x.2.1 = f1.now := HE3.out.symm
      simpa [Fl.ab, e9] using h9
    · first | exact q3.trans hk5 q4 | exact q3.trans hk5.drew q4

end Go.Proofs.Ytahhokhhgamelaa

namespace Go.Proofs.Ytahhokhhgamelaa
open Go.RowKit Go.Maps Go.Sort Go.Shelf

section
variable {w : World} {fp : List Nat} {p : Nat} {l : List Ab} {s : Ds}

set_option maxRecDepth 100000 in
set_option maxHeartbeats 2000000 in
theorem Dk.writeAt (h : Dk w fp p l s) (hn : s.ops ≤ 1000000) (nm : ByteArray) (hnm : nm.size ≤ maxLen) (at_ : Int) (h64 : -9223372036854775808 ≤ at_ ∧ at_ ≤ 9223372036854775807) (u : Value) (cs : List Int) (hu : IsB w u cs) (hcl : cs.length ≤ 1073741824) (hux : cs ≠ [] → ∀ x ∈ own u, x ∉ fp) :
    Calls Try.prog 20 #[.pointer (some ⟨p, 0, none⟩), .string nm, .int .i64 at_, u] w fun e w' => e = .returned (.int .i64 (writeAtA (beginA l s) nm.data.toList at_ cs).1) ∧ Outc w w' fp p (writeAtA (beginA l s) nm.data.toList at_ cs).2 := by
  obtain ⟨bm, kv, fs, d, rfl, rfl, ho⟩ := h
  have hok := beginA_ok ho
  unfold writeAtA
  cases he : errA (beginA (fs.map Fl.ab) s) nm.data.toList with
  | some k =>
    have FD := hide (find_err d ho hn nm hnm he)
    have hk := errA_ne he
    have hk0 : ¬ k = 0 := by omega
    have HOK := hide hok
    obtain ⟨ua, uc, rfl, _⟩ := hu.form
    clear d ho he hnm hu hok hux
    simp only
    generalize beginA (fs.map Fl.ab) s = A at FD HOK ⊢
    go_enter Try.func20, Try.ntmps20
    go_wp2_with (go_at_call 51; refine FD.out.mono ?_; rintro e w1 ⟨rfl, kv1, fs1, s1, L1⟩; have HL := hide L1; clear L1)
    go_ret
    exact ⟨rfl, HL.out.outc HOK.out⟩
  | none =>
    obtain ⟨x, hx⟩ := errA_none he
    have FD := hide (find_ok d ho hn nm hnm he hx)
    rw [hx]
    simp only
    have WR := hide (fun (w1 : World) (kv1 : Value) (fs1 : List Fl) (s1 : Ds) (f1 : Fl) (hl1 : look fs1 nm.data.toList = some f1) (hf1 : f1.ab = x) (L1 : Left w w1 p bm kv fs kv1 fs1 s1 (beginA (fs.map Fl.ab) s)) =>
      write_any L1.1 (by have := L1.2.1; rw [← this] at hok; exact hok) hl1 at_ h64 u cs (hu.kept L1.2.2.1 hux) hcl (fun hne y hy e => by
          rcases L1.2.2.2 y e with h1 | h1
          · exact hux hne y hy h1
          · have := hu.lt hne y hy
            omega))
    have WOK : Hid (∀ (w1 : World) (kv1 : Value) (fs1 : List Fl) (s1 : Ds), Left w w1 p bm kv fs kv1 fs1 s1 (beginA (fs.map Fl.ab) s) → okA (writeA (beginA (fs.map Fl.ab) s).1 (beginA (fs.map Fl.ab) s).2 x at_ cs).2.1 (writeA (beginA (fs.map Fl.ab) s).1 (beginA (fs.map Fl.ab) s).2 x at_ cs).2.2) := fun w1 kv1 fs1 s1 L1 =>
      writeA_ok hok (by rw [← L1.2.1]; exact sortedA L1.1.sorted) hx _ _
    obtain ⟨ua, uc, rfl, _⟩ := hu.form
    clear d ho he hnm hu hok hux hx
    go_enter Try.func20, Try.ntmps20
    go_wp2_with (first
      | (go_at_call 51; refine FD.out.mono ?_; rintro e w1 ⟨kv1, fs1, s1, f1, rfl, hl1, hf1, L1⟩; have FA := L1.1.files f1 (look_name hl1).1; have c0 := cell_of_heap FA.cells 0; simp at c0; obtain ⟨va, vc, hvn, _⟩ := FA.rnow.isB.form; rw [hvn] at c0; have e3 : f1.now.length = x.2.1.length := (by rw [← hf1]; rfl); rw [e3] at c0; have W1 := hide (WR.out w1 kv1 fs1 s1 f1 hl1 hf1 L1); rw [hf1] at W1; have E1 : Hid ((fs1.map Fl.ab, s1) = beginA (fs.map Fl.ab) s) := L1.2.1; have e8 : fs1.map Fl.ab = (beginA (fs.map Fl.ab) s).1 := (congrArg (fun x => x.1) E1.out); have e9 : s1 = (beginA (fs.map Fl.ab) s).2 := (congrArg (fun x => x.2) E1.out); rw [e8, e9] at W1; have HL := hide L1; clear L1 FA hvn hf1 hl1 e3 e8 e9)
      | (go_at_call 52; refine W1.out.mono ?_; rintro e w2 ⟨rfl, fs2, s2, L2⟩; have HL2 := hide L2; clear L2))
    go_ret
    refine ⟨rfl, (Left.trans HL.out HL2.out).outc (WOK.out w1 kv1 fs1 s1 HL.out)⟩
set_option maxRecDepth 100000 in
set_option maxHeartbeats 2000000 in
/-- List, of a disk that is up. -/
theorem Dk.list (h : Dk w fp p l s) (hn : s.ops ≤ 1000000) (hd : (beginA l s).2.down = false) : Calls Try.prog 32 #[.pointer (some ⟨p, 0, none⟩)] w fun e w' =>
    ∃ v, e = .returned (.tuple #[v, .int .i64 0]) ∧ w'.ownsRow w.heap.size 9 1 v (beginA l s).1.length ((beginA l s).1.map fun x => encStr x.1) ∧
      ∃ fp', Dk w' fp' p (beginA l s).1 (beginA l s).2 ∧ Kept fp w w' ∧ Newly w fp fp' ∧ ∀ y ∈ own v, y ∉ fp' := by
  obtain ⟨bm, kv, fs, d, rfl, rfl, ho⟩ := h
  have hok := hide (beginA_ok ho)
  have BG := begin_any d ho hn
  have hfl : (beginA (fs.map Fl.ab) s).1.length ≤ 1000000 := by rw [beginA_len]; have := ho.len; omega
  generalize beginA (fs.map Fl.ab) s = A at BG hok hfl hd ⊢
  rw [hd] at BG
  have HB := hide BG
  have HFL := hide hfl
  have NM := hide (fun (w1 : World) (kv1 : Value) (fs1 : List Fl) (s1 : Ds) (L1 : Left w w1 p bm kv fs kv1 fs1 s1 A) => names_any L1.1 (by
    have := congrArg (fun y => y.1.length) L1.2.1
    simp only [List.length_map] at this
    have := HFL.out
    omega))
  clear d ho BG hfl hd
  go_enter Try.func32, Try.ntmps32
  go_wp2_with (first | (go_at_call 45; refine HB.out.mono ?_; rintro e w1 ⟨rfl, kv1, fs1, s1, L1⟩; have N1 := hide (NM.out w1 kv1 fs1 s1 L1); have HL := hide L1; clear L1) | (go_at_call 56; refine N1.out.mono ?_; rintro e w2 ⟨v, rfl, r2, b2⟩; have R2 := hide r2; have B2 := hide b2; clear r2 b2))
  go_ret2
  obtain ⟨q1, q2, q3, q4⟩ := HL.out
  have e1 : fs1.map Fl.ab = A.1 := congrArg (fun z => z.1) q2
  have e2 : s1 = A.2 := congrArg (fun z => z.2) q2
  have hlt := q1.lt
  refine ⟨v, rfl, ?_, feet p bm kv1 fs1, ⟨bm, kv1, fs1, ?_, e1, rfl, hok.out⟩, q3.trans (Kept.of_below (fp := []) B2.out) (Newly.of_sub (by simp)), q4, fun y hy e => ?_⟩
  · have r := ownsRow_base_a R2.out q3.size
    rw [← e1, List.length_map, List.map_map]
    exact r
  · rw [← e2]
    exact q1.below B2.out
  · have h1 := World.ownsRow.lt R2.out y (by simpa [own] using hy)
    have h2 := hlt y e
    omega

end

end Go.Proofs.Ytahhokhhgamelaa

namespace Go.Proofs.Ytahhokhhgamelaa
open Go.RowKit Go.Maps Go.Sort Go.Shelf

/-- A file that lies beside the disk is laid into it. -/
theorem disk_insert {w w1 : World} {p bm : Nat} {kv : Value} {fs : List Fl} {s : Ds} (h : DiskAt w p bm kv fs s) (f : Fl) (hf : FileAt w f) (hdis : ∀ x ∈ foot f, x ∉ feet p bm kv fs) (hno : look fs f.name = none) {D : DataW Unit} (hD : MapIs D fs) (ht : Tidy D)
    (hown : w1.ownsMap Try.prog 9 ptrE bm (fs.length + 1) (D.put (.string f.name) (.lit (.int .i64 f.blk)))) (hk : Kept [bm] w w1) : DiskAt w1 p bm kv (insF fs f) s := by
  have hnd := h.apart
  have hlt := h.lt
  have hbm : ∀ x, x ∈ own kv ∨ x ∈ fs.flatMap foot → x ≠ bm := fun x hx e => by
    subst e
    unfold feet at hnd
    rw [List.nodup_cons, List.nodup_cons] at hnd
    exact hnd.2.1 (List.mem_append.2 hx)
  have hpb : p ≠ bm := fun e => by
    subst e
    unfold feet at hnd
    rw [List.nodup_cons] at hnd
    exact hnd.1 (by simp)
  refine ⟨?_, ⟨_, ?_, hD.ins ht hno⟩, ?_, ?_, ?_, insF_sorted h.sorted (look_none hno)⟩
  · exact (hk.block p (hlt p (by simp [feet])) (by simpa using hpb)).trans h.cells
  · rw [(insF_perm fs f).length_eq]
    exact hown
  · intro g hg
    rcases List.mem_cons.1 ((insF_perm fs f).mem_iff.1 hg) with rfl | hg
    · exact hf.kept hk (fun x hx => by simp; rintro rfl; exact hdis x hx (by simp [feet]))
    · exact (h.files g hg).kept hk (fun x hx => by simpa using hbm x (.inr (List.mem_flatMap.2 ⟨g, hg, hx⟩)))
  · exact h.keep.kept hk (fun x hx => by simpa using hbm x (.inl hx))
  · refine (feet_ins p bm kv fs f).nodup_iff.2 ?_
    rw [List.nodup_append]
    exact ⟨hf.apart, hnd, fun x hx y hy e => hdis x hx (by rw [e]; exact hy)⟩

theorem usedB_perm {l m : List Ab} (h : l.Perm m) : usedB l = usedB m := by
  induction h with
  | nil => rfl
  | cons x _ ih => rw [usedB_cons, usedB_cons, ih]
  | swap x y l =>
    rw [usedB_cons, usedB_cons, usedB_cons, usedB_cons]
    omega
  | trans _ _ a b => rw [a, b]

/-- What Rename leaves, over a file that there is. -/
def renameA (A : List Ab × Ds) (x y : Ab) : List Ab × Ds := (insA (delA (delA A.1 x.1) y.1) (y.1, x.2.1, x.2.2), { A.2 with used := A.2.used - sec y.2.1.length })

theorem renameA_ok {l m : List Ab} {x y : Ab} {s : Ds} (hp : l.Perm (x :: y :: m)) (h : okA l s) : okA (insA m (y.1, x.2.1, x.2.2)) { s with used := s.used - sec y.2.1.length } := by
  have hq := insA_perm m (y.1, x.2.1, x.2.2)
  have hu : usedB l = sec x.2.1.length + (sec y.2.1.length + usedB m) := by
    rw [usedB_perm hp, usedB_cons, usedB_cons]
  have h1 := h.used
  have h2 := h.len
  have h3 := h.fits
  have h4 := sec_nonneg y.2.1.length
  have hm : ∀ z ∈ m, z ∈ l := fun z hz => hp.mem_iff.2 (by simp [hz])
  refine ⟨fun z hz => ?_, ?_, ?_, h.room, h.ops, ?_, h.left, h.keep, fun z hz => ?_⟩
  · rcases List.mem_cons.1 (hq.mem_iff.1 hz) with rfl | hz
    · exact h.ok x (hp.mem_iff.2 (by simp))
    · exact h.ok z (hm z hz)
  · rw [usedB_ins]
    simp only
    omega
  · simp only
    omega
  · have e := hp.length_eq
    simp only [hq.length_eq, List.length_cons] at e ⊢
    omega
  · rcases List.mem_cons.1 (hq.mem_iff.1 hz) with rfl | hz
    · exact h.names y (hp.mem_iff.2 (by simp))
    · exact h.names z (hm z hz)

set_option maxRecDepth 100000 in
set_option maxHeartbeats 4000000 in
/-- Rename, over another file that there is. -/
theorem Dk.rename_over {w : World} {fp : List Nat} {p : Nat} {l : List Ab} {s : Ds} (h : Dk w fp p l s) (hn : s.ops ≤ 1000000) (nm : ByteArray) (hnm : nm.size ≤ maxLen) (to : ByteArray) (hto : to.size ≤ maxLen) (hm : mayB to.data.toList = true) {x y : Ab} (he : errA (beginA l s) nm.data.toList = none)
    (hx : lookA (beginA l s).1 nm.data.toList = some x) (hne : nm.data.toList ≠ to.data.toList) (hy : lookA (beginA l s).1 to.data.toList = some y) :
    Calls Try.prog 28 #[.pointer (some ⟨p, 0, none⟩), .string nm, .string to] w fun e w' => e = .returned (.int .i64 0) ∧ Outc w w' fp p (renameA (beginA l s) x y) := by
  obtain ⟨bm, kv, fs, d, rfl, rfl, ho⟩ := h
  have hok := hide (beginA_ok ho)
  have FD := hide (find_ok d ho hn nm hnm he hx)
  have MB := mayBe_any to hto
  rw [hm] at MB
  have HMB := hide MB
  have HNM := hide hnm
  have HTO := hide hto
  have HY := hide hy
  have HX := hide hx
  have HNE := hide hne
  have hfl : (beginA (fs.map Fl.ab) s).1.length ≤ 1000000 := by rw [beginA_len]; have := ho.len; omega
  have HFL := hide hfl
  clear d ho he hnm hx MB hm hto hy hne hfl
  generalize beginA (fs.map Fl.ab) s = A at FD hok HY HX HFL ⊢
  go_enter Try.func28, Try.ntmps28
  go_wp2_with (first
    | (go_at_call 51; refine FD.out.mono ?_; rintro e w1 ⟨kv1, fs1, s1, f1, rfl, hl1, hf1, L1⟩; have c0 := L1.1.cellAt.1; obtain ⟨D, hown, hD⟩ := L1.1.map; have HOW := hide hown; have HD := hide hD; have HF1 := hide hf1; have HL1 := hide hl1; have HL := hide L1; clear L1 hf1 hl1 hown hD)
    | (go_at_call 46; refine (HMB.out _).mono ?_; rintro e w2 ⟨rfl, rfl⟩)
    | (at_delete; refine wpList_delete_own _ rfl _ _ 65 9 rfl 75 strLaw Try.underlying65 ptrE bm fs1.length D rfl HOW.out _ (.string nm.data.toList) rfl (WideMaps.keyOf_string_mk Try.underlying9 HNM.out) ?_; intro w3 o3 t3; have O3 := hide o3; have T3 := hide t3; clear o3 t3))
  have e1 : fs1.map Fl.ab = A.1 := congrArg (fun z => z.1) HL.out.2.1
  have e2 : s1 = A.2 := congrArg (fun z => z.2) HL.out.2.1
  have ok1 : okA (fs1.map Fl.ab) s1 := by rw [e1, e2]; exact hok.out
  have fn := (look_name HL1.out).2
  obtain ⟨ds, rs, hsp⟩ := List.append_of_mem (look_name HL1.out).1
  subst hsp
  have k3 : Kept [bm] w2 w3 := ⟨T3.out.grown.os, T3.out.grown.tape, T3.out.grown.output, T3.out.grown.size, fun k hk hne => T3.out.grown.block k hk (fun e => hne (by simpa using e))⟩
  have o3 := O3.out
  rw [← fn] at o3
  have d2 := HL.out.1
  obtain ⟨d3, kk3, nn3⟩ := disk_drop d2 (Kept.refl [p] w2) d2.cells rfl HD.out (HOW.out.tidy strLaw) o3 k3
  have hnd := (feet_perm p bm kv1 ds rs f1).nodup_iff.1 d2.apart
  rw [List.nodup_append] at hnd
  have hdis : ∀ z ∈ foot f1, z ∉ feet p bm kv1 (ds ++ rs) := fun z hz e => hnd.2.2 z hz z e rfl
  have F3 : FileAt w3 f1 := (d2.files f1 (by simp)).kept k3 (fun z hz => by simp; rintro rfl; exact hdis z hz (by simp [feet]))
  obtain ⟨g, hg, hgy⟩ : ∃ g, look (ds ++ rs) to.data.toList = some g ∧ g.ab = y := by
    have h1 := HY.out
    rw [← e1, look_ab] at h1
    obtain ⟨g, hg, hgy⟩ := Option.map_eq_some_iff.1 h1
    refine ⟨g, ?_, hgy⟩
    rw [look_del d2.sorted, if_neg (by rw [fn]; exact HNE.out)]
    exact hg
  obtain ⟨ds2, rs2, hsp2⟩ := List.append_of_mem (look_name hg).1
  have gn := (look_name hg).2
  have hgl := (file_len ok1 (f := g) (by
    have h1 : g ∈ ds ++ rs := (look_name hg).1
    rcases List.mem_append.1 h1 with h1 | h1
    · simp [h1]
    · simp [h1])).1
  have hus : 0 ≤ s1.used ∧ s1.used ≤ 67108864 := by
    have q1 := ok1.used
    have q2 := ok1.fits
    have q3 := ok1.room
    have q4 := usedB_nonneg ((ds ++ f1 :: rs).map Fl.ab)
    omega
  have hlen2 : (ds ++ f1 :: rs).length ≤ 1000000 := by
    have q1 := HFL.out
    rw [← e1, List.length_map] at q1
    exact q1
  rw [hsp2] at d3 hdis
  have HSP := hide hsp2
  refine (drop_go d3 to HTO.out gn.symm hgl hus).mono ?_
  rintro e w4 ⟨rfl, d4, k4, n4⟩
  have F4 : FileAt w4 f1 := F3.kept k4 hdis
  obtain ⟨D4, own4, hD4⟩ := d4.map
  have c4 := d4.cellAt.1
  have hlen4 : (ds2 ++ rs2).length < maxLen := by
    have q1 := congrArg List.length HSP.out
    simp only [List.length_append, List.length_cons] at q1 hlen2 ⊢
    unfold maxLen
    omega
  have HD4 := hide d4
  have HF4 := hide F4
  have HK4 := hide k4
  have HN4 := hide n4
  have HO4 := hide own4
  have HM4 := hide hD4
  have HLN := hide hlen4
  have HDI := hide hdis
  have HK3 := hide k3
  have HNN3 := hide nn3
  have HE1 := hide e1
  have HE2 := hide e2
  have HFN := hide fn
  have HGN := hide gn
  have HGY := hide hgy
  have HOK1 := hide ok1
  have HD2 := hide d2
  have HD3 := hide d3
  clear d4 F4 k4 n4 own4 hD4 hlen4 hdis k3 nn3 kk3 e1 e2 fn gn hgy ok1 d2 d3 hsp2 hlen2 hus hgl hg F3 hnd o3
  go_wp2_with (at_mapUpdate; refine wpList_mapUpdate_own _ rfl _ _ _ 65 rfl 9 75 strLaw Try.underlying65 ptrE bm (ds2 ++ rs2).length D4 rfl HO4.out HLN.out _ _ (.string to.data.toList) rfl rfl (WideMaps.keyOf_string_mk Try.underlying9 HTO.out) _ [] (ptrE_some _) ?_; intro w5 o5 g5; have O5 := hide o5; have G5 := hide g5; clear o5 g5)
  go_ret
  refine ⟨rfl, ?_⟩
  have hsort2 : (ds2 ++ g :: rs2).Pairwise (fun f g => f.name < g.name) := HD3.out.sorted
  have hno : look (ds2 ++ rs2) to.data.toList = none := by rw [look_del hsort2, if_pos HGN.out]
  have hsub : ∀ z ∈ feet p bm kv1 (ds2 ++ rs2), z ∈ feet p bm kv1 (ds2 ++ g :: rs2) := fun z hz => (feet_perm p bm kv1 ds2 rs2 g).mem_iff.2 (List.mem_append.2 (.inr hz))
  have hsub2 : ∀ z ∈ feet p bm kv1 (ds2 ++ g :: rs2), z ∈ feet p bm kv1 (ds ++ f1 :: rs) := fun z hz => by
    rw [← HSP.out] at hz
    exact (feet_perm p bm kv1 ds rs f1).mem_iff.2 (List.mem_append.2 (.inr hz))
  have k5 : Kept [bm] w4 w5 := Kept.of_grown G5.out
  have ins := disk_insert HD4.out { f1 with name := to.data.toList } ⟨HF4.out.cells, HF4.out.rnow, HF4.out.rsyn, HF4.out.apart⟩ (fun z hz e => HDI.out z hz (hsub z e)) hno HM4.out (HO4.out.tidy strLaw) O5.out k5
  have hd1 : delA A.1 x.1 = (ds ++ rs).map Fl.ab := by
    rw [← HE1.out, ← HF1.out, List.map_append, List.map_cons, delA_split (a := ds.map Fl.ab) (b := rs.map Fl.ab) (x := f1.ab) (by have := sortedA HD2.out.sorted; simpa using this), List.map_append]
  have hd2 : delA (delA A.1 x.1) y.1 = (ds2 ++ rs2).map Fl.ab := by
    rw [hd1, HSP.out, ← HGY.out, List.map_append, List.map_cons, delA_split (a := ds2.map Fl.ab) (b := rs2.map Fl.ab) (x := g.ab) (by have := sortedA hsort2; simpa using this), List.map_append]
  have hyn : y.1 = to.data.toList := by rw [← HGY.out]; exact HGN.out
  have eA : renameA A x y = ((insF (ds2 ++ rs2) { f1 with name := to.data.toList }).map Fl.ab, { s1 with used := s1.used - sec g.now.length }) := by
    unfold renameA
    rw [hd2, insF_ab, hyn, ← HE2.out, ← HF1.out, ← HGY.out]
    rfl
  have hp : A.1.Perm (x :: y :: (ds2 ++ rs2).map Fl.ab) := by
    rw [← HE1.out, ← HF1.out, ← HGY.out]
    have p1 : ((ds ++ f1 :: rs).map Fl.ab).Perm (f1.ab :: (ds ++ rs).map Fl.ab) := (List.perm_middle (l₁ := ds) (l₂ := rs) (a := f1)).map Fl.ab
    have p2 : ((ds ++ rs).map Fl.ab).Perm (g.ab :: (ds2 ++ rs2).map Fl.ab) := by
      rw [HSP.out]
      exact (List.perm_middle (l₁ := ds2) (l₂ := rs2) (a := g)).map Fl.ab
    exact p1.trans (p2.cons _)
  have okN := renameA_ok hp hok.out
  have e9 : insA (List.map Fl.ab (ds2 ++ rs2)) (y.1, x.2.1, x.2.2) = (insF (ds2 ++ rs2) { f1 with name := to.data.toList }).map Fl.ab := by
    rw [insF_ab, hyn, ← HF1.out]
    rfl
  have e10 : ({ A.2 with used := A.2.used - sec y.2.1.length } : Ds) = { s1 with used := s1.used - sec g.now.length } := by
    rw [← HE2.out, ← HGY.out]
    rfl
  rw [e9, e10] at okN
  have L2 : Left w2 w5 p bm kv1 (ds ++ f1 :: rs) kv1 (insF (ds2 ++ rs2) { f1 with name := to.data.toList }) { s1 with used := s1.used - sec g.now.length } (renameA A x y) := by
    refine ⟨ins, eA.symm, ?_, fun z hz => ?_⟩
    · exact ((HK3.out.mono (fp' := feet p bm kv1 (ds ++ f1 :: rs)) (by simp [feet])).trans HK4.out (Newly.of_sub hsub2)).trans k5 (Newly.of_sub (by simp [feet]))
    · rcases List.mem_append.1 ((feet_ins p bm kv1 _ _).mem_iff.1 hz) with h1 | h1
      · exact .inl ((feet_perm p bm kv1 ds rs f1).mem_iff.2 (List.mem_append.2 (.inl h1)))
      · exact .inl (hsub2 z (hsub z h1))
  refine (Left.trans HL.out L2).outc ?_
  rw [eA]
  exact okN

end Go.Proofs.Ytahhokhhgamelaa

namespace Go.Proofs.Ytahhokhhgamelaa
open Go.RowKit Go.Maps Go.Sort Go.Shelf

set_option maxRecDepth 100000 in
set_option maxHeartbeats 2000000 in
/-- drop, of a name that no file has. -/
theorem drop_none {w : World} {p bm : Nat} {kv : Value} {fs : List Fl} {s : Ds} (h : DiskAt w p bm kv fs s) (nm : ByteArray) (hnm : nm.size ≤ maxLen) (hno : look fs nm.data.toList = none) :
    Calls Try.prog 54 #[.pointer (some ⟨p, 0, none⟩), .string nm] w fun e w' => e = .returned (.tuple #[]) ∧ w' = w := by
  have c0 := h.cellAt.1
  have LK := h.look nm hnm
  rw [hno] at LK
  unfold ptrOf at LK
  simp only [Option.map_none] at LK
  clear h hnm hno
  go_enter Try.func54, Try.ntmps54
  go_wp2
  go_end0
  exact ⟨rfl, rfl⟩

/-- What Rename leaves, to a name that no other file has. -/
def renameN (A : List Ab × Ds) (x : Ab) (to : List UInt8) : List Ab × Ds := (insA (delA A.1 x.1) (to, x.2.1, x.2.2), A.2)

theorem renameN_ok {l m : List Ab} {x : Ab} {s : Ds} (hp : l.Perm (x :: m)) (h : okA l s) (to : List UInt8) (hm : mayB to = true) : okA (insA m (to, x.2.1, x.2.2)) s := by
  have hq := insA_perm m (to, x.2.1, x.2.2)
  have hu : usedB l = sec x.2.1.length + usedB m := by rw [usedB_perm hp, usedB_cons]
  have h1 := h.used
  have h2 := h.len
  have hmm : ∀ z ∈ m, z ∈ l := fun z hz => hp.mem_iff.2 (by simp [hz])
  refine ⟨fun z hz => ?_, ?_, h.fits, h.room, h.ops, ?_, h.left, h.keep, fun z hz => ?_⟩
  · rcases List.mem_cons.1 (hq.mem_iff.1 hz) with rfl | hz
    · exact h.ok x (hp.mem_iff.2 (by simp))
    · exact h.ok z (hmm z hz)
  · rw [usedB_ins]
    simp only
    omega
  · have e := hp.length_eq
    simp only [hq.length_eq, List.length_cons] at e ⊢
    omega
  · rcases List.mem_cons.1 (hq.mem_iff.1 hz) with rfl | hz
    · exact hm
    · exact h.names z (hmm z hz)

set_option maxRecDepth 100000 in
set_option maxHeartbeats 4000000 in
/-- Rename, to a name that no other file has. -/
theorem Dk.rename_new {w : World} {fp : List Nat} {p : Nat} {l : List Ab} {s : Ds} (h : Dk w fp p l s) (hn : s.ops ≤ 1000000) (nm : ByteArray) (hnm : nm.size ≤ maxLen) (to : ByteArray) (hto : to.size ≤ maxLen) (hm : mayB to.data.toList = true) {x : Ab} (he : errA (beginA l s) nm.data.toList = none)
    (hx : lookA (beginA l s).1 nm.data.toList = some x) (hy : nm.data.toList = to.data.toList ∨ lookA (beginA l s).1 to.data.toList = none) :
    Calls Try.prog 28 #[.pointer (some ⟨p, 0, none⟩), .string nm, .string to] w fun e w' => e = .returned (.int .i64 0) ∧ Outc w w' fp p (renameN (beginA l s) x to.data.toList) := by
  obtain ⟨bm, kv, fs, d, rfl, rfl, ho⟩ := h
  have hok := hide (beginA_ok ho)
  have FD := hide (find_ok d ho hn nm hnm he hx)
  have MB := mayBe_any to hto
  rw [hm] at MB
  have HMB := hide MB
  have HNM := hide hnm
  have HTO := hide hto
  have HMY := hide hm
  have HY := hide hy
  have HX := hide hx
  have hfl : (beginA (fs.map Fl.ab) s).1.length ≤ 1000000 := by rw [beginA_len]; have := ho.len; omega
  have HFL := hide hfl
  clear d ho he hnm hx MB hm hto hy hfl
  generalize beginA (fs.map Fl.ab) s = A at FD hok HY HX HFL ⊢
  go_enter Try.func28, Try.ntmps28
  go_wp2_with (first
    | (go_at_call 51; refine FD.out.mono ?_; rintro e w1 ⟨kv1, fs1, s1, f1, rfl, hl1, hf1, L1⟩; have c0 := L1.1.cellAt.1; obtain ⟨D, hown, hD⟩ := L1.1.map; have HOW := hide hown; have HD := hide hD; have HF1 := hide hf1; have HL1 := hide hl1; have HL := hide L1; clear L1 hf1 hl1 hown hD)
    | (go_at_call 46; refine (HMB.out _).mono ?_; rintro e w2 ⟨rfl, rfl⟩)
    | (at_delete; refine wpList_delete_own _ rfl _ _ 65 9 rfl 75 strLaw Try.underlying65 ptrE bm fs1.length D rfl HOW.out _ (.string nm.data.toList) rfl (WideMaps.keyOf_string_mk Try.underlying9 HNM.out) ?_; intro w3 o3 t3; have O3 := hide o3; have T3 := hide t3; clear o3 t3))
  have e1 : fs1.map Fl.ab = A.1 := congrArg (fun z => z.1) HL.out.2.1
  have e2 : s1 = A.2 := congrArg (fun z => z.2) HL.out.2.1
  have ok1 : okA (fs1.map Fl.ab) s1 := by rw [e1, e2]; exact hok.out
  have fn := (look_name HL1.out).2
  obtain ⟨ds, rs, hsp⟩ := List.append_of_mem (look_name HL1.out).1
  subst hsp
  have k3 : Kept [bm] w2 w3 := ⟨T3.out.grown.os, T3.out.grown.tape, T3.out.grown.output, T3.out.grown.size, fun k hk hne => T3.out.grown.block k hk (fun e => hne (by simpa using e))⟩
  have o3 := O3.out
  rw [← fn] at o3
  have d2 := HL.out.1
  obtain ⟨d3, kk3, nn3⟩ := disk_drop d2 (Kept.refl [p] w2) d2.cells rfl HD.out (HOW.out.tidy strLaw) o3 k3
  have hnd := (feet_perm p bm kv1 ds rs f1).nodup_iff.1 d2.apart
  rw [List.nodup_append] at hnd
  have hdis : ∀ z ∈ foot f1, z ∉ feet p bm kv1 (ds ++ rs) := fun z hz e => hnd.2.2 z hz z e rfl
  have F3 : FileAt w3 f1 := (d2.files f1 (by simp)).kept k3 (fun z hz => by simp; rintro rfl; exact hdis z hz (by simp [feet]))
  have hno : look (ds ++ rs) to.data.toList = none := by
    rw [look_del d2.sorted]
    split
    · rfl
    · rename_i hne
      rw [fn] at hne
      rcases HY.out with h1 | h1
      · exact absurd h1 hne
      · rw [← e1, look_ab] at h1
        exact Option.map_eq_none_iff.1 h1
  have hlen2 : (ds ++ f1 :: rs).length ≤ 1000000 := by
    have q1 := HFL.out
    rw [← e1, List.length_map] at q1
    exact q1
  refine (drop_none d3 to HTO.out hno).mono ?_
  rintro e w4 ⟨rfl, rfl⟩
  obtain ⟨D4, own4, hD4⟩ := d3.map
  have c4 := d3.cellAt.1
  have hlen4 : (ds ++ rs).length < maxLen := by
    simp only [List.length_append, List.length_cons] at hlen2 ⊢
    unfold maxLen
    omega
  have HF4 := hide F3
  have HO4 := hide own4
  have HM4 := hide hD4
  have HLN := hide hlen4
  have HDI := hide hdis
  have HK3 := hide k3
  have HE1 := hide e1
  have HE2 := hide e2
  have HFN := hide fn
  have HOK1 := hide ok1
  have HD2 := hide d2
  have HD3 := hide d3
  have HNO := hide hno
  clear own4 hD4 hlen4 hdis k3 nn3 kk3 e1 e2 fn ok1 d2 d3 hlen2 F3 hnd o3 hno
  go_wp2_with (at_mapUpdate; refine wpList_mapUpdate_own _ rfl _ _ _ 65 rfl 9 75 strLaw Try.underlying65 ptrE bm (ds ++ rs).length D4 rfl HO4.out HLN.out _ _ (.string to.data.toList) rfl rfl (WideMaps.keyOf_string_mk Try.underlying9 HTO.out) _ [] (ptrE_some _) ?_; intro w5 o5 g5; have O5 := hide o5; have G5 := hide g5; clear o5 g5)
  go_ret
  refine ⟨rfl, ?_⟩
  have hsub : ∀ z ∈ feet p bm kv1 (ds ++ rs), z ∈ feet p bm kv1 (ds ++ f1 :: rs) := fun z hz => (feet_perm p bm kv1 ds rs f1).mem_iff.2 (List.mem_append.2 (.inr hz))
  have k5 : Kept [bm] w4 w5 := Kept.of_grown G5.out
  have ins := disk_insert HD3.out { f1 with name := to.data.toList } ⟨HF4.out.cells, HF4.out.rnow, HF4.out.rsyn, HF4.out.apart⟩ HDI.out HNO.out HM4.out (HO4.out.tidy strLaw) O5.out k5
  have hd1 : delA A.1 x.1 = (ds ++ rs).map Fl.ab := by
    rw [← HE1.out, ← HF1.out, List.map_append, List.map_cons, delA_split (a := ds.map Fl.ab) (b := rs.map Fl.ab) (x := f1.ab) (by have := sortedA HD2.out.sorted; simpa using this), List.map_append]
  have eA : renameN A x to.data.toList = ((insF (ds ++ rs) { f1 with name := to.data.toList }).map Fl.ab, s1) := by
    unfold renameN
    rw [hd1, insF_ab, ← HE2.out, ← HF1.out]
    rfl
  have hp : A.1.Perm (x :: (ds ++ rs).map Fl.ab) := by
    rw [← HE1.out, ← HF1.out]
    exact (List.perm_middle (l₁ := ds) (l₂ := rs) (a := f1)).map Fl.ab
  have okN := renameN_ok hp hok.out to.data.toList HMY.out
  have e9 : insA (List.map Fl.ab (ds ++ rs)) (to.data.toList, x.2.1, x.2.2) = (insF (ds ++ rs) { f1 with name := to.data.toList }).map Fl.ab := by
    rw [insF_ab, ← HF1.out]
    rfl
  rw [e9, ← HE2.out] at okN
  have L2 : Left w2 w5 p bm kv1 (ds ++ f1 :: rs) kv1 (insF (ds ++ rs) { f1 with name := to.data.toList }) s1 (renameN A x to.data.toList) := by
    refine ⟨ins, eA.symm, ?_, fun z hz => ?_⟩
    · exact (HK3.out.mono (fp' := feet p bm kv1 (ds ++ f1 :: rs)) (by simp [feet])).trans k5 (Newly.of_sub (by simp [feet]))
    · rcases List.mem_append.1 ((feet_ins p bm kv1 _ _).mem_iff.1 hz) with h1 | h1
      · exact .inl ((feet_perm p bm kv1 ds rs f1).mem_iff.2 (List.mem_append.2 (.inl h1)))
      · exact .inl (hsub z h1)
  refine (Left.trans HL.out L2).outc ?_
  rw [eA]
  exact okN

section
variable {w : World} {fp : List Nat} {p : Nat} {l : List Ab} {s : Ds}

set_option maxRecDepth 100000 in
set_option maxHeartbeats 2000000 in
/-- List, of a disk that is down. -/
theorem Dk.list_down (h : Dk w fp p l s) (hn : s.ops ≤ 1000000) (hd : (beginA l s).2.down = true) : Calls Try.prog 32 #[.pointer (some ⟨p, 0, none⟩)] w fun e w' =>
    e = .returned (.tuple #[.slice none 0 0, .int .i64 7]) ∧ Outc w w' fp p (beginA l s) := by
  obtain ⟨bm, kv, fs, d, rfl, rfl, ho⟩ := h
  have hok := hide (beginA_ok ho)
  have BG := begin_any d ho hn
  generalize beginA (fs.map Fl.ab) s = A at BG hok hd ⊢
  rw [hd] at BG
  have HB := hide BG
  clear d ho BG hd
  go_enter Try.func32, Try.ntmps32
  go_wp2_with (go_at_call 45; refine HB.out.mono ?_; rintro e w1 ⟨rfl, kv1, fs1, s1, L1⟩; have HL := hide L1; clear L1)
  go_ret2
  exact ⟨rfl, HL.out.outc hok.out⟩

set_option maxRecDepth 100000 in
set_option maxHeartbeats 2000000 in
/-- ReadAt, of a place, or a number of bytes, that is none. -/
theorem Dk.read_arg (h : Dk w fp p l s) (hn : s.ops ≤ 1000000) (nm : ByteArray) (hnm : nm.size ≤ maxLen) {x : Ab} (he : errA (beginA l s) nm.data.toList = none) (hx : lookA (beginA l s).1 nm.data.toList = some x) (a m : Int) (ha : -9223372036854775808 ≤ a ∧ a ≤ 9223372036854775807) (hm : -9223372036854775808 ≤ m ∧ m ≤ 9223372036854775807) (hno : a < 0 ∨ m < 0 ∨ (x.2.1.length : Int) - a < m) :
    Calls Try.prog 22 #[.pointer (some ⟨p, 0, none⟩), .string nm, .int .i64 a, .int .i64 m] w fun e w' => e = .returned (.tuple #[.slice none 0 0, .int .i64 1]) ∧ Outc w w' fp p (beginA l s) := by
  obtain ⟨bm, kv, fs, d, rfl, rfl, ho⟩ := h
  have hok := beginA_ok ho
  have HOK := hide hok
  have FD := hide (find_ok d ho hn nm hnm he hx)
  have hxl : x.2.1.length ≤ 1073741824 := by
    have h1 := usedB_mem (lookA_mem hx).1
    have h2 := hok.used
    have h3 := hok.fits
    have h4 := hok.room
    have h5 := sec_le _ _ (Int.le_trans h1 (by omega : usedB (beginA (fs.map Fl.ab) s).1 ≤ 67108864))
    omega
  obtain ⟨L, hL⟩ : ∃ L, L = x.2.1.length := ⟨_, rfl⟩
  have HL := hide hL
  have hL2 : L ≤ 1073741824 := by omega
  rw [← hL] at hno
  clear d ho he hnm hx hL hok hxl
  generalize beginA (fs.map Fl.ab) s = A at FD HOK ⊢
  by_cases h1 : a < 0
  · clear hno
    go_enter Try.func22, Try.ntmps22
    go_wp2_with (go_at_call 51; refine FD.out.mono ?_; rintro e w1 ⟨kv1, fs1, s1, f1, rfl, hl1, hf1, L1⟩; have HL1 := hide L1; clear L1 hf1 hl1)
    go_ret2
    exact ⟨rfl, HL1.out.outc HOK.out⟩
  · by_cases h2 : m < 0
    · clear hno
      go_enter Try.func22, Try.ntmps22
      go_wp2_with (go_at_call 51; refine FD.out.mono ?_; rintro e w1 ⟨kv1, fs1, s1, f1, rfl, hl1, hf1, L1⟩; have HL1 := hide L1; clear L1 hf1 hl1)
      go_ret2
      exact ⟨rfl, HL1.out.outc HOK.out⟩
    · have h3 : (L : Int) - a < m := by omega
      clear hno
      go_enter Try.func22, Try.ntmps22
      go_wp2_with (go_at_call 51; refine FD.out.mono ?_; rintro e w1 ⟨kv1, fs1, s1, f1, rfl, hl1, hf1, L1⟩; have FA := L1.1.files f1 (look_name hl1).1; have c0 := cell_of_heap FA.cells 0; simp at c0; obtain ⟨va, vc, hvn, hvc⟩ := FA.rnow.isB.form; rw [hvn] at c0; have e3 : f1.now = x.2.1 := (by rw [← hf1]; rfl); rw [e3, ← HL.out] at c0; have HL1 := hide L1; clear L1 hf1 hl1 FA hvn hvc e3)
      go_ret2
      exact ⟨rfl, HL1.out.outc HOK.out⟩
end

end Go.Proofs.Ytahhokhhgamelaa
