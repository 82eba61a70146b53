/-
  WriteAt, of a file that there is; List. A lemma file: no statement of the seat is proved here.
-/
import Derived.Test.YtbhjdcoehgajcaaDSync
namespace Go.Proofs.Ytbhjdcoehgajcaa
open Go.RowKit Go.Maps Go.Sort Go.Shelf

section
variable {w : World} {fp : List Nat} {p : Nat} {l : List Ab} {s : Ds}

set_option maxRecDepth 100000 in
set_option maxHeartbeats 2000000 in
theorem Dk.writeAt (h : Dk w fp p l s) (hn : s.ops ≤ 1000000) (nm : ByteArray) (hnm : nm.size ≤ maxLen) (at_ : Int) (h64 : -9223372036854775808 ≤ at_ ∧ at_ ≤ 9223372036854775807) (u : Value) (cs : List Int) (hu : IsB w u cs) (hcl : cs.length ≤ 1073741824) (hux : cs ≠ [] → ∀ x ∈ own u, x ∉ fp) :
    Calls Try.prog 48 #[.pointer (some ⟨p, 0, none⟩), .string nm, .int .i64 at_, u] w fun e w' => e = .returned (.int .i64 (writeAtA (beginA l s) nm.data.toList at_ cs).1) ∧ Outc w w' fp p (writeAtA (beginA l s) nm.data.toList at_ cs).2 := by
  obtain ⟨bm, kv, fs, d, rfl, rfl, ho⟩ := h
  have hok := beginA_ok ho
  unfold writeAtA
  cases he : errA (beginA (fs.map Fl.ab) s) nm.data.toList with
  | some k =>
    have FD := hide (find_err d ho hn nm hnm he)
    have hk := errA_ne he
    have hk0 : ¬ k = 0 := by omega
    have HOK := hide hok
    obtain ⟨ua, uc, rfl, _⟩ := hu.form
    clear d ho he hnm hu hok hux
    simp only
    generalize beginA (fs.map Fl.ab) s = A at FD HOK ⊢
    go_enter Try.func48, Try.ntmps48
    go_wp2_with (go_at_call 34; refine FD.out.mono ?_; rintro e w1 ⟨rfl, kv1, fs1, s1, L1⟩; have HL := hide L1; clear L1)
    go_ret
    exact ⟨rfl, HL.out.outc HOK.out⟩
  | none =>
    obtain ⟨x, hx⟩ := errA_none he
    have FD := hide (find_ok d ho hn nm hnm he hx)
    rw [hx]
    simp only
    have WR := hide (fun (w1 : World) (kv1 : Value) (fs1 : List Fl) (s1 : Ds) (f1 : Fl) (hl1 : look fs1 nm.data.toList = some f1) (hf1 : f1.ab = x) (L1 : Left w w1 p bm kv fs kv1 fs1 s1 (beginA (fs.map Fl.ab) s)) =>
      write_any L1.1 (by have := L1.2.1; rw [← this] at hok; exact hok) hl1 at_ h64 u cs (hu.kept L1.2.2.1 hux) hcl (fun hne y hy e => by
          rcases L1.2.2.2 y e with h1 | h1
          · exact hux hne y hy h1
          · have := hu.lt hne y hy
            omega))
    have WOK : Hid (∀ (w1 : World) (kv1 : Value) (fs1 : List Fl) (s1 : Ds), Left w w1 p bm kv fs kv1 fs1 s1 (beginA (fs.map Fl.ab) s) → okA (writeA (beginA (fs.map Fl.ab) s).1 (beginA (fs.map Fl.ab) s).2 x at_ cs).2.1 (writeA (beginA (fs.map Fl.ab) s).1 (beginA (fs.map Fl.ab) s).2 x at_ cs).2.2) := fun w1 kv1 fs1 s1 L1 =>
      writeA_ok hok (by rw [← L1.2.1]; exact sortedA L1.1.sorted) hx _ _
    obtain ⟨ua, uc, rfl, _⟩ := hu.form
    clear d ho he hnm hu hok hux hx
    go_enter Try.func48, Try.ntmps48
    go_wp2_with (first
      | (go_at_call 34; refine FD.out.mono ?_; rintro e w1 ⟨kv1, fs1, s1, f1, rfl, hl1, hf1, L1⟩; have FA := L1.1.files f1 (look_name hl1).1; have c0 := cell_of_heap FA.cells 0; simp at c0; obtain ⟨va, vc, hvn, _⟩ := FA.rnow.isB.form; rw [hvn] at c0; have e3 : f1.now.length = x.2.1.length := (by rw [← hf1]; rfl); rw [e3] at c0; have W1 := hide (WR.out w1 kv1 fs1 s1 f1 hl1 hf1 L1); rw [hf1] at W1; have E1 : Hid ((fs1.map Fl.ab, s1) = beginA (fs.map Fl.ab) s) := L1.2.1; have e8 : fs1.map Fl.ab = (beginA (fs.map Fl.ab) s).1 := (congrArg (fun x => x.1) E1.out); have e9 : s1 = (beginA (fs.map Fl.ab) s).2 := (congrArg (fun x => x.2) E1.out); rw [e8, e9] at W1; have HL := hide L1; clear L1 FA hvn hf1 hl1 e3 e8 e9)
      | (go_at_call 44; refine W1.out.mono ?_; rintro e w2 ⟨rfl, fs2, s2, L2⟩; have HL2 := hide L2; clear L2))
    go_ret
    refine ⟨rfl, (Left.trans HL.out HL2.out).outc (WOK.out w1 kv1 fs1 s1 HL.out)⟩
end

end Go.Proofs.Ytbhjdcoehgajcaa
