/-
  The file of a name. A lemma file: no statement of the seat is proved here.
-/
import Derived.Test.YtbhjdcoehgajcaaDBegin
namespace Go.Proofs.Ytbhjdcoehgajcaa
open Go.RowKit Go.Maps Go.Sort Go.Shelf

theorem look_runB {w : World} {bm n : Nat} {D : DataW Unit} {fs : List Fl} (hown : w.ownsMap Try.prog 9 ptrE bm n D) (hD : MapIs D fs) (nm : ByteArray) (hn : nm.size ≤ maxLen) :
    (Instr.lookup 72 (.map (some bm)) (.string nm) false).run Try.prog w = .ok (ptrOf (look fs nm.data.toList)) w := by
  have e := look_run hown hD nm.data.toList (by rw [Array.length_toList]; exact hn)
  exact e

theorem DiskAt.look {w : World} {p bm : Nat} {kv : Value} {fs : List Fl} {s : Ds} (h : DiskAt w p bm kv fs s) (nm : ByteArray) (hn : nm.size ≤ maxLen) :
    (Instr.lookup 72 (.map (some bm)) (.string nm) false).run Try.prog w = .ok (ptrOf (look fs nm.data.toList)) w := by
  obtain ⟨D, ho, hD⟩ := h.map
  exact look_runB ho hD nm hn

/-- What find answers. -/
def findV (s : Ds) (o : Option Fl) : Value := if s.down then .tuple #[.pointer none, .int .i64 7] else match o with | none => .tuple #[.pointer none, .int .i64 4] | some f => .tuple #[.pointer (some ⟨f.blk, 0, none⟩), .int .i64 0]

set_option maxRecDepth 100000 in
set_option maxHeartbeats 4000000 in
theorem find_any {w : World} {p bm : Nat} {kv : Value} {fs : List Fl} {s : Ds} (h : DiskAt w p bm kv fs s) (ho : okA (fs.map Fl.ab) s) (hn : s.ops ≤ 1000000) (nm : ByteArray) (hnm : nm.size ≤ maxLen) :
    Calls Try.prog 34 #[.pointer (some ⟨p, 0, none⟩), .string nm] w fun e w' => ∃ kv' fs' s', e = .returned (findV s' (look fs' nm.data.toList)) ∧ Left w w' p bm kv fs kv' fs' s' (beginA (fs.map Fl.ab) s) := by
  have BG := hide (begin_any h ho hn)
  generalize beginA (fs.map Fl.ab) s = A at BG ⊢
  have HNM := hide hnm
  clear h ho hnm
  by_cases hd : A.2.down = true
  · rw [hd] at BG
    go_enter Try.func34, Try.ntmps34
    go_wp2_with (go_at_call 42; refine BG.out.mono ?_; rintro e w1 ⟨rfl, kv1, fs1, s1, L1⟩; have HL1 := hide L1; clear L1)
    go_ret2
    have e2 : s1.down = true := by
      have := congrArg (fun x => x.2.down) HL1.out.2.1
      simp only at this
      rw [this, hd]
    exact ⟨kv1, fs1, s1, by simp [findV, e2], HL1.out⟩
  · have hd2 : A.2.down = false := by simpa using hd
    rw [hd2] at BG
    clear hd
    go_enter Try.func34, Try.ntmps34
    go_wp2_with (go_at_call 42; refine BG.out.mono ?_; rintro e w1 ⟨rfl, kv1, fs1, s1, L1⟩; have c0 := L1.1.cellAt.1; have LK := L1.1.look nm HNM.out; unfold ptrOf at LK; obtain ⟨o, hoo⟩ : ∃ o, o = look fs1 nm.data.toList := ⟨_, rfl⟩; rw [← hoo] at LK; have HOO := hide hoo; have HL1 := hide L1; clear L1 hoo)
    all_goals
      have e2 : s1.down = false := by
        have := congrArg (fun x => x.2.down) HL1.out.2.1
        simp only at this
        rw [this, hd2]
      go_ret2
      refine ⟨kv1, fs1, s1, ?_, HL1.out⟩
      rw [← HOO.out]
      cases o <;> simp_all [findV]

end Go.Proofs.Ytbhjdcoehgajcaa
