/-
  What Sync does, to a file that there is. A lemma file: no statement of the seat is proved here.
-/
import Derived.Test.YtbhjdcoehgajcaaDRead
namespace Go.Proofs.Ytbhjdcoehgajcaa
open Go.RowKit Go.Maps Go.Sort Go.Shelf

theorem addr_add0 (a : Addr) : a.add 0 = a := by simp [Addr.add]

/-- A slice's beginning, of no bytes. -/
theorem slice_zero (na : Option Addr) (L cap : Nat) (W : World) :
    (Instr.slice 28 (.slice na L cap) none (some (.int .i64 0)) none).run Try.prog W = .ok (.slice na 0 cap) W := by
  obtain ⟨i0, hi, hz0, hz1, hz2⟩ := info_parts Try.infoU8
  have e : (na.map fun x => x.add 0) = na := by cases na <;> simp [addr_add0]
  simp [Instr.slice, Instr.sliceBounds, Instr.sliceBound, asIntOf, run_underlying Try.underlying28, sizeOf, typeInfo, hi]
  first | done | (intro _; exact e.symm) | (intro _; exact e)

theorem RowB.front {w : World} {na : Option Addr} {L cap : Nat} {bs : List Int} (h : RowB w (.slice na L cap) bs) : RowB w (.slice na 0 cap) [] := by
  obtain ⟨⟨h1, h2⟩, h3⟩ := h
  refine ⟨⟨by simp, ?_⟩, by simp⟩
  rcases h2 with ⟨e, _⟩ | ⟨g, c, cur, e, r1, r2, r3, r4, r5, r6⟩
  · simp only [Value.slice.injEq] at e
    obtain ⟨rfl, rfl, rfl⟩ := e
    exact .inl ⟨rfl, rfl⟩
  · simp only [Value.slice.injEq] at e
    obtain ⟨rfl, rfl, rfl⟩ := e
    exact .inr ⟨g, cap, cur, rfl, r1, r2, Nat.zero_le _, r4, r5, by simp⟩

theorem syncA_ok {a b : List Ab} {x : Ab} {s : Ds} (h : okA (a ++ x :: b) s) : okA (a ++ (x.1, x.2.1, x.2.1) :: b) s :=
  okA_set h rfl (Nat.le_refl _) (by simp only; omega) h.fits rfl rfl rfl rfl

set_option maxRecDepth 100000 in
set_option maxHeartbeats 4000000 in
theorem Dk.sync_ok {w : World} {fp : List Nat} {p : Nat} {l : List Ab} {s : Ds} (h : Dk w fp p l s) (hn : s.ops ≤ 1000000) (nm : ByteArray) (hnm : nm.size ≤ maxLen) {x : Ab} (he : errA (beginA l s) nm.data.toList = none) (hx : lookA (beginA l s).1 nm.data.toList = some x) :
    Calls Try.prog 21 #[.pointer (some ⟨p, 0, none⟩), .string nm] w fun e w' => e = .returned (.int .i64 0) ∧ Outc w w' fp p (setA (beginA l s).1 (x.1, x.2.1, x.2.1), (beginA l s).2) := by
  obtain ⟨bm, kv, fs, d, rfl, rfl, ho⟩ := h
  have hok := beginA_ok ho
  have HOK := hide hok
  have FD := hide (find_ok d ho hn nm hnm he hx)
  have hxl : x.2.1.length ≤ 1073741824 := by
    have h1 := usedB_mem (lookA_mem hx).1
    have h2 := hok.used
    have h3 := hok.fits
    have h4 := hok.room
    have h5 := sec_le _ _ (Int.le_trans h1 (by omega : usedB (beginA (fs.map Fl.ab) s).1 ≤ 67108864))
    omega
  have hlen : ([] : List Int).length + x.2.1.length ≤ 1099511627776 := by simp; omega
  have HLEN := hide hlen
  clear d ho he hnm hx hok hlen
  generalize beginA (fs.map Fl.ab) s = A at FD HOK ⊢
  go_enter Try.func21, Try.ntmps21
  go_wp2_with (go_at_call 34; refine FD.out.mono ?_; rintro e w1 ⟨kv1, fs1, s1, f1, rfl, hl1, hf1, L1⟩; have FA := L1.1.files f1 (look_name hl1).1; have c0 := cell_of_heap FA.cells 0; have c1 := cell_of_heap FA.cells 1; have c2 := frozen_of_heap FA.cells; simp at c0 c1; obtain ⟨na, nc, hvn, _⟩ := FA.rnow.isB.form; obtain ⟨sa, sc, hvs, _⟩ := FA.rsyn.isB.form; rw [hvn] at c0; rw [hvs] at c1; have e3 : f1.now = x.2.1 := (by rw [← hf1]; rfl); have RN := FA.rnow; have RS := FA.rsyn; rw [hvn, e3] at RN; rw [hvs] at RS; rw [e3] at c0; have HRN := hide RN; have HRS := hide RS.front; have sl1 := slice_zero sa f1.syn.length sc; have HVN := hide hvn; have HVS := hide hvs; have HFA := hide FA; have HLK := hide hl1; have HF1 := hide hf1; have HL1 := hide L1; have HE3 := hide e3; obtain ⟨q, hq⟩ : ∃ q, q = f1.blk := ⟨_, rfl⟩; rw [← hq] at c0 c1 c2; have HQ := hide hq; have hq2 : f1.blk = q := hq.symm; clear L1 FA hvn hvs hf1 hl1 e3 RN RS hq)
  have hvo : ∀ y ∈ own (.slice sa 0 sc), y ∈ own f1.vs := fun y hy => by
    rw [HVS.out]
    cases sa with
    | none => simp [own, Value.ownBlock] at hy
    | some sa => simpa [own, Value.ownBlock] using hy
  have hap := HFA.out.apart
  unfold foot at hap
  rw [List.nodup_cons, List.nodup_append] at hap
  have HQN : Hid (q ∉ own (.slice sa 0 sc)) := fun e => hap.1 (List.mem_append.2 (.inr (by rw [hq2]; exact hvo q e)))
  have HQL : Hid (q < w1.heap.size) := by show q < _; rw [HQ.out]; exact HFA.out.lt _ (by simp [foot])
  have HQC : Hid (w1.heap[q]? = some (.cells #[f1.vn, f1.vs] 71 (0, 0))) := by
    show _ = _
    rw [HQ.out]
    exact HFA.out.cells
  have HAP := hide hap
  have HVO := hide hvo
  clear hap hvo hq2
  go_region_law (refine step_appendR _ ?_ (.tmp 21) (.tmp 25) ?_ (.slice sa 0 sc) (.slice na x.2.1.length nc) [] x.2.1 ?_ ?_ ?_ ?_ ?_ ?_; rfl; rfl; rfl; exact HRS.out; rfl; exact HRN.out.isB; exact HLEN.out; intro v3 w3 r3 k3 n3; rw [List.nil_append] at r3; obtain ⟨va, vc, rfl, hvc⟩ := r3.isB.form; have R3 := hide r3; have N3 := hide n3; have K3 : Hid (Kept (own (.slice sa 0 sc)) w1 w3) := (⟨k3.os, k3.tape, k3.output, k3.size, k3.block⟩ : Kept _ w1 w3); clear r3 k3 n3; have hq3 := (K3.out.block q HQL.out HQN.out).trans HQC.out; have e1 := K3.out.cell c1 HQN.out; have z3 := frozen_of_heap hq3; have HQ3 := hide hq3; clear hq3)
  all_goals
    go_wp2
    go_ret
    refine ⟨rfl, ?_⟩
    have hap := HAP.out
    have k4 : Kept (foot f1) w1 (w3.setCell ⟨q, 1, none⟩ (.slice va x.2.1.length vc)) := (K3.out.mono (fp' := foot f1) (fun y hy => by
      simp only [foot, List.mem_cons, List.mem_append]
      exact .inr (.inr (HVO.out y hy)))).setCell (p := ⟨q, 1, none⟩) (.inl (by simp [foot, HQ.out])) _
    have hnap : ∀ y ∈ own (.slice va x.2.1.length vc), y ∈ own f1.vs ∨ w1.heap.size ≤ y := fun y hy => by
      rcases N3.out y hy with h1 | h1
      · exact .inl (HVO.out y h1)
      · exact .inr h1
    have hqv : q ∉ own (.slice va x.2.1.length vc) := fun e => by
      rcases hnap q e with h1 | h1
      · exact hap.1 (List.mem_append.2 (.inr (by rw [← HQ.out]; exact h1)))
      · have := HQL.out
        omega
    have hqn : q ∉ own f1.vn := fun e => hap.1 (List.mem_append.2 (.inl (by rw [← HQ.out]; exact e)))
    have kq : Kept [q] w3 (w3.setCell ⟨q, 1, none⟩ (.slice va x.2.1.length vc)) := (Kept.refl _ w3).setCell (p := ⟨q, 1, none⟩) (.inl (by simp)) _
    have fileN : FileAt (w3.setCell ⟨q, 1, none⟩ (.slice va x.2.1.length vc)) { f1 with vs := .slice va x.2.1.length vc, syn := x.2.1 } := by
      refine ⟨?_, ?_, R3.out.kept kq (fun y hy => by simp; rintro rfl; exact hqv hy), ?_⟩
      · have e := heap_setCell HQ3.out 1 (.slice va x.2.1.length vc)
        simp only
        rw [← HQ.out]
        simpa using e
      · exact (HFA.out.rnow.kept K3.out (fun y hy e => hap.2.2.2 y hy y (HVO.out y e) rfl)).kept kq (fun y hy => by simp; rintro rfl; exact hqn hy)
      · show (f1.blk :: (own f1.vn ++ own (.slice va x.2.1.length vc))).Nodup
        rw [List.nodup_cons, List.nodup_append]
        refine ⟨fun e => ?_, hap.2.1, by cases va <;> simp [own, Value.ownBlock], fun y hy z hz e => ?_⟩
        · rcases List.mem_append.1 e with e | e
          · exact hqn (by rw [HQ.out]; exact e)
          · exact hqv (by rw [HQ.out]; exact e)
        · subst e
          rcases hnap y hz with h1 | h1
          · exact hap.2.2.2 y hy y h1 rfl
          · have := HFA.out.rnow.lt y hy
            omega
    have newN : Newly w1 (foot f1) (foot { f1 with vs := .slice va x.2.1.length vc, syn := x.2.1 }) := fun y hy => by
      simp only [foot, List.mem_cons, List.mem_append] at hy ⊢
      rcases hy with hy | hy | hy
      · exact .inl (.inl hy)
      · exact .inl (.inr (.inl hy))
      · rcases hnap y hy with h1 | h1
        · exact .inl (.inr (.inr h1))
        · exact .inr h1
    obtain ⟨ds, rs, hsp⟩ := List.append_of_mem (look_name HLK.out).1
    obtain ⟨q1, q2, q3, q4⟩ := HL1.out
    subst hsp
    have dN := q1.file (f' := { f1 with vs := .slice va x.2.1.length vc, syn := x.2.1 }) rfl rfl k4 (fun y hy => .inl hy) fileN newN
    have eA1 := congrArg (fun z => z.1) q2
    have eA2 := congrArg (fun z => z.2) q2
    simp only at eA1 eA2
    have hset : setA A.1 (x.1, x.2.1, x.2.1) = (ds ++ { f1 with vs := .slice va x.2.1.length vc, syn := x.2.1 } :: rs).map Fl.ab := by
      rw [← eA1, List.map_append, List.map_cons, ← HF1.out]
      rw [setA_split (a := ds.map Fl.ab) (b := rs.map Fl.ab) (x := f1.ab) (y := (f1.ab.1, f1.ab.2.1, f1.ab.2.1)) (by have := sortedA q1.sorted; simpa using this) rfl]
      simp [Fl.ab]
    have hk5 : Kept (feet p bm kv1 (ds ++ f1 :: rs)) w1 (w3.setCell ⟨q, 1, none⟩ (.slice va x.2.1.length vc)) := k4.mono (fun y hy => (feet_perm p bm kv1 ds rs f1).mem_iff.2 (List.mem_append.2 (.inl hy)))
    refine ⟨feet p bm kv1 (ds ++ { f1 with vs := .slice va x.2.1.length vc, syn := x.2.1 } :: rs), ⟨bm, kv1, _, ?_, hset.symm, rfl, ?_⟩, ?_, q4.trans (feet_file newN rfl) q3.size⟩
    · simp only
      rw [← eA2]
      first | exact dN | exact dN.kept ((Kept.refl [] _).drew) (by simp)
    · simp only
      rw [hset, ← eA2]
      have h9 := syncA_ok (a := ds.map Fl.ab) (b := rs.map Fl.ab) (x := f1.ab) (s := s1) (by have := HOK.out; rw [← eA1, ← eA2] at this; simpa using this)
      have e9 : x.2.1 = f1.now := HE3.out.symm
      simpa [Fl.ab, e9] using h9
    · first | exact q3.trans hk5 q4 | exact q3.trans hk5.drew q4

end Go.Proofs.Ytbhjdcoehgajcaa
