/-
  Size, Append, WriteAt, and what crashes a disk, by what is told of it. A lemma file: no statement of the seat is proved here.
-/
import Derived.Test.YtbhjdcoehgajcaaDOps
namespace Go.Proofs.Ytbhjdcoehgajcaa
open Go.RowKit Go.Maps Go.Sort Go.Shelf

/-- What Size answers. -/
def sizeA (A : List Ab × Ds) (n : List UInt8) : Int × Int := match errA A n with | some k => (0, k) | none => match lookA A.1 n with | some x => (x.2.1.length, 0) | none => (0, 0)

/-- What Append answers, and leaves. -/
def appendA (A : List Ab × Ds) (n : List UInt8) (cs : List Int) : Int × (List Ab × Ds) := match errA A n with | some k => (k, A) | none => match lookA A.1 n with | some x => writeA A.1 A.2 x x.2.1.length cs | none => (0, A)

/-- What WriteAt answers, and leaves. -/
def writeAtA (A : List Ab × Ds) (n : List UInt8) (at_ : Int) (cs : List Int) : Int × (List Ab × Ds) := match errA A n with | some k => (k, A) | none => match lookA A.1 n with | some x => writeA A.1 A.2 x at_ cs | none => (0, A)

section
variable {w : World} {fp : List Nat} {p : Nat} {l : List Ab} {s : Ds}

theorem Dk.below {w' : World} (h : Dk w fp p l s) (hb : Below w.heap.size w w') : Dk w' fp p l s := by
  obtain ⟨bm, kv, fs, d, h1, h2, h3⟩ := h
  exact ⟨bm, kv, fs, d.below hb, h1, h2, h3⟩

theorem Dk.kept {w' : World} {fp' : List Nat} (h : Dk w fp p l s) (hk : Kept fp' w w') (hf : ∀ x ∈ fp, x ∉ fp') : Dk w' fp p l s := by
  obtain ⟨bm, kv, fs, d, h1, rfl, h3⟩ := h
  exact ⟨bm, kv, fs, d.kept hk hf, h1, rfl, h3⟩

theorem Dk.lt (h : Dk w fp p l s) : ∀ x ∈ fp, x < w.heap.size := by
  obtain ⟨bm, kv, fs, d, h1, rfl, h3⟩ := h
  exact d.lt

theorem Dk.ok (h : Dk w fp p l s) : okA l s := by
  obtain ⟨bm, kv, fs, d, h1, h2, h3⟩ := h
  exact h3

theorem Dk.sorted (h : Dk w fp p l s) : l.Pairwise (fun f g => f.1 < g.1) := by
  obtain ⟨bm, kv, fs, d, rfl, h2, h3⟩ := h
  exact sortedA d.sorted

theorem Outc.trans {w1 w2 : World} {A B : List Ab × Ds} (h : Outc w w1 fp p A) (k : ∀ fp1, Dk w1 fp1 p A.1 A.2 → Kept fp w w1 → Newly w fp fp1 → Outc w1 w2 fp1 p B) : Outc w w2 fp p B := by
  obtain ⟨fp1, d1, k1, n1⟩ := h
  obtain ⟨fp2, d2, k2, n2⟩ := k fp1 d1 k1 n1
  exact ⟨fp2, d2, k1.trans k2 n1, n1.trans n2 k1.size⟩

set_option maxRecDepth 100000 in
set_option maxHeartbeats 2000000 in
theorem Dk.size (h : Dk w fp p l s) (hn : s.ops ≤ 1000000) (nm : ByteArray) (hnm : nm.size ≤ maxLen) : Calls Try.prog 45 #[.pointer (some ⟨p, 0, none⟩), .string nm] w fun e w' =>
    e = .returned (.tuple #[.int .i64 (sizeA (beginA l s) nm.data.toList).1, .int .i64 (sizeA (beginA l s) nm.data.toList).2]) ∧ Outc w w' fp p (beginA l s) := by
  obtain ⟨bm, kv, fs, d, rfl, rfl, ho⟩ := h
  have hok := hide (beginA_ok ho)
  unfold sizeA
  cases he : errA (beginA (fs.map Fl.ab) s) nm.data.toList with
  | some k =>
    have FD := hide (find_err d ho hn nm hnm he)
    have hk := errA_ne he
    have hk0 : ¬ k = 0 := by omega
    clear d ho he hnm
    simp only
    generalize beginA (fs.map Fl.ab) s = A at FD hok ⊢
    go_enter Try.func45, Try.ntmps45
    go_wp2_with (go_at_call 34; refine FD.out.mono ?_; rintro e w1 ⟨rfl, kv1, fs1, s1, L1⟩; have HL := hide L1; clear L1)
    go_ret2
    exact ⟨rfl, HL.out.outc hok.out⟩
  | none =>
    obtain ⟨x, hx⟩ := errA_none he
    have FD := hide (find_ok d ho hn nm hnm he hx)
    clear d ho he hnm
    rw [hx]
    simp only
    clear hx
    generalize beginA (fs.map Fl.ab) s = A at FD hok ⊢
    go_enter Try.func45, Try.ntmps45
    go_wp2_with (go_at_call 34; refine FD.out.mono ?_; rintro e w1 ⟨kv1, fs1, s1, f1, rfl, hl1, hf1, L1⟩; have FA := L1.1.files f1 (look_name hl1).1; have c0 := cell_of_heap FA.cells 0; simp at c0; obtain ⟨va, vc, hvn, _⟩ := FA.rnow.isB.form; rw [hvn] at c0; have e3 : f1.now.length = x.2.1.length := (by rw [← hf1]; rfl); rw [e3] at c0; have HL := hide L1; clear L1 FA hvn hf1 hl1 e3)
    go_ret2
    exact ⟨rfl, HL.out.outc hok.out⟩

set_option maxRecDepth 100000 in
set_option maxHeartbeats 2000000 in
theorem Dk.append (h : Dk w fp p l s) (hn : s.ops ≤ 1000000) (nm : ByteArray) (hnm : nm.size ≤ maxLen) (u : Value) (cs : List Int) (hu : IsB w u cs) (hcl : cs.length ≤ 1073741824) (hux : cs ≠ [] → ∀ x ∈ own u, x ∉ fp) :
    Calls Try.prog 26 #[.pointer (some ⟨p, 0, none⟩), .string nm, u] w fun e w' => e = .returned (.int .i64 (appendA (beginA l s) nm.data.toList cs).1) ∧ Outc w w' fp p (appendA (beginA l s) nm.data.toList cs).2 := by
  obtain ⟨bm, kv, fs, d, rfl, rfl, ho⟩ := h
  have hok := beginA_ok ho
  unfold appendA
  cases he : errA (beginA (fs.map Fl.ab) s) nm.data.toList with
  | some k =>
    have FD := hide (find_err d ho hn nm hnm he)
    have hk := errA_ne he
    have hk0 : ¬ k = 0 := by omega
    have HOK := hide hok
    obtain ⟨ua, uc, rfl, _⟩ := hu.form
    clear d ho he hnm hu hok hux
    simp only
    generalize beginA (fs.map Fl.ab) s = A at FD HOK ⊢
    go_enter Try.func26, Try.ntmps26
    go_wp2_with (go_at_call 34; refine FD.out.mono ?_; rintro e w1 ⟨rfl, kv1, fs1, s1, L1⟩; have HL := hide L1; clear L1)
    go_ret
    exact ⟨rfl, HL.out.outc HOK.out⟩
  | none =>
    obtain ⟨x, hx⟩ := errA_none he
    have FD := hide (find_ok d ho hn nm hnm he hx)
    rw [hx]
    simp only
    have WR := hide (fun (w1 : World) (kv1 : Value) (fs1 : List Fl) (s1 : Ds) (f1 : Fl) (hl1 : look fs1 nm.data.toList = some f1) (hf1 : f1.ab = x) (L1 : Left w w1 p bm kv fs kv1 fs1 s1 (beginA (fs.map Fl.ab) s)) =>
      write_any L1.1 (by have := L1.2.1; rw [← this] at hok; exact hok) hl1 (x.2.1.length : Int) (by
        have e3 : f1.now.length = x.2.1.length := by rw [← hf1]; rfl
        have := (file_len (s := s1) (fs := fs1) (by have := L1.2.1; rw [← this] at hok; exact hok) (look_name hl1).1).1
        omega) u cs (hu.kept L1.2.2.1 hux) hcl (fun hne y hy e => by
          rcases L1.2.2.2 y e with h1 | h1
          · exact hux hne y hy h1
          · have := hu.lt hne y hy
            omega))
    have WOK : Hid (∀ (w1 : World) (kv1 : Value) (fs1 : List Fl) (s1 : Ds), Left w w1 p bm kv fs kv1 fs1 s1 (beginA (fs.map Fl.ab) s) → okA (writeA (beginA (fs.map Fl.ab) s).1 (beginA (fs.map Fl.ab) s).2 x x.2.1.length cs).2.1 (writeA (beginA (fs.map Fl.ab) s).1 (beginA (fs.map Fl.ab) s).2 x x.2.1.length cs).2.2) := fun w1 kv1 fs1 s1 L1 =>
      writeA_ok hok (by rw [← L1.2.1]; exact sortedA L1.1.sorted) hx _ _
    obtain ⟨ua, uc, rfl, _⟩ := hu.form
    clear d ho he hnm hu hok hux hx
    go_enter Try.func26, Try.ntmps26
    go_wp2_with (first
      | (go_at_call 34; refine FD.out.mono ?_; rintro e w1 ⟨kv1, fs1, s1, f1, rfl, hl1, hf1, L1⟩; have FA := L1.1.files f1 (look_name hl1).1; have c0 := cell_of_heap FA.cells 0; simp at c0; obtain ⟨va, vc, hvn, _⟩ := FA.rnow.isB.form; rw [hvn] at c0; have e3 : f1.now.length = x.2.1.length := (by rw [← hf1]; rfl); rw [e3] at c0; have W1 := hide (WR.out w1 kv1 fs1 s1 f1 hl1 hf1 L1); rw [hf1] at W1; have E1 : Hid ((fs1.map Fl.ab, s1) = beginA (fs.map Fl.ab) s) := L1.2.1; have e8 : fs1.map Fl.ab = (beginA (fs.map Fl.ab) s).1 := (congrArg (fun x => x.1) E1.out); have e9 : s1 = (beginA (fs.map Fl.ab) s).2 := (congrArg (fun x => x.2) E1.out); rw [e8, e9] at W1; have HL := hide L1; clear L1 FA hvn hf1 hl1 e3 e8 e9)
      | (go_at_call 44; refine W1.out.mono ?_; rintro e w2 ⟨rfl, fs2, s2, L2⟩; have HL2 := hide L2; clear L2))
    go_ret
    refine ⟨rfl, (Left.trans HL.out HL2.out).outc (WOK.out w1 kv1 fs1 s1 HL.out)⟩
end

end Go.Proofs.Ytbhjdcoehgajcaa
