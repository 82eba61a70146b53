/-
  What write does to a file. A lemma file: no statement of the seat is proved here.
-/
import Derived.Test.YtbhjdcoehgajcaaDFind
namespace Go.Proofs.Ytbhjdcoehgajcaa
open Go.RowKit Go.Maps Go.Sort Go.Shelf

/-- A slice from a place on. -/
theorem slice_from (na : Option Addr) (L cap a : Nat) (ha : a ≤ L) (W : World) :
    (Instr.slice 28 (.slice na L cap) (some (.int .i64 (a : Int))) none none).run Try.prog W = .ok (.slice (if cap = a then na else na.map (·.add a)) (L - a) (cap - a)) W := by
  obtain ⟨i0, hi, hz0, hz1, hz2⟩ := info_parts Try.infoU8
  simp [Instr.slice, Instr.sliceBounds, Instr.sliceBound, asIntOf, run_underlying Try.underlying28, sizeOf, typeInfo, hi, hz1, ha]

theorem IsB.from {w : World} {na : Option Addr} {L cap : Nat} {bs : List Int} (h : IsB w (.slice na L cap) bs) (a : Nat) (ha : a ≤ L) : IsB w (.slice (if cap = a then na else na.map (·.add a)) (L - a) (cap - a)) (bs.drop a) := by
  obtain ⟨x, c, he, h1, h2, h3, h4⟩ := h
  simp only [Value.slice.injEq] at he
  obtain ⟨rfl, rfl, rfl⟩ := he
  refine ⟨(if cap = a then na else na.map (·.add a)), cap - a, by rw [List.length_drop], by rw [List.length_drop]; omega, fun e => ?_, fun y hy j hj => ?_, fun z hz => h4 z (List.mem_of_mem_drop hz)⟩
  · cases na with
    | none =>
      obtain ⟨rfl, rfl⟩ := h2 rfl
      simp
    | some na => split at e <;> simp at e
  · simp at hj
    cases na with
    | none => rw [(h2 rfl).1] at hj; simp at hj
    | some na =>
      rw [if_neg (by omega)] at hy
      simp only [Option.map_some, Option.some.injEq] at hy
      subst hy
      have := h3 na rfl (a + j) (by omega)
      rw [List.getElem?_drop, ← this, Addr.add_add]

/-- cs laid over now from a on. -/
def putA (now : List Int) (a : Nat) (cs : List Int) : List Int := now.take a ++ (cs ++ now.drop (a + cs.length))

theorem putA_length (now : List Int) (a : Nat) (cs : List Int) (h : a ≤ now.length) : (putA now a cs).length = max now.length (a + cs.length) := by
  simp [putA]
  omega

theorem putA_eq (now : List Int) (a : Nat) (cs : List Int) (h : a ≤ now.length) : now.take a ++ (cs.take (now.length - a) ++ now.drop (a + cs.length)) ++ cs.drop (min cs.length (now.length - a)) = putA now a cs := by
  unfold putA
  by_cases hc : cs.length ≤ now.length - a
  · have e : min cs.length (now.length - a) = cs.length := by omega
    rw [e, List.drop_length, List.append_nil, List.take_of_length_le hc]
  · have e : min cs.length (now.length - a) = now.length - a := by omega
    have e2 : now.drop (a + cs.length) = [] := List.drop_of_length_le (by omega)
    rw [e, e2, List.append_nil, List.append_nil, List.append_assoc, List.take_append_drop]

section
variable {ops : Array Oper} {rest : List Oper} {o : Oper} {a : Act} {Q : Exit → Act → World → Prop}

theorem wp_copyM (w : World) (hgd : o.guard = none) (d s : Operand) (ho : o.op = .call { callee := .builtin .copy, args := #[d, s], argTypes := #[28, 28] })
    (v : Value) (bs : List Int) (hrow : RowB w v bs) (n : Nat) (hn : n ≤ bs.length) (u : Value) (cs : List Int) (hu : IsB w u cs) (dp : Option Addr) (dl dc : Nat) (hd : a.eval d = .slice dp dl dc) (hdl : dl = bs.length - n)
    (hdp : n < bs.length → ∀ g, v.ownBlock = some g → dp = some ⟨g, n, none⟩) (hs : a.eval s = u) (m : Nat) (hm : m = min cs.length (bs.length - n)) (R : List Int) (hR : R = bs.take n ++ (cs.take (bs.length - n) ++ bs.drop (n + cs.length)))
    (h : ∀ w', RowB w' v R → Kept (own v) w w' → wpList Try.prog ops Q rest (a.put o.dst (.int .i64 (m : Int))) w') :
    wpList Try.prog ops Q (o :: rest) a w := by
  subst hm
  subst hR
  exact wp_copyR w hgd d s ho v bs hrow n hn u cs hu dp dl dc hd hdl hdp hs h
end

/-- How many sectors more. -/
def moreA (now : List Int) (a : Nat) (cs : List Int) : Int := sec (max now.length (a + cs.length)) - sec now.length

section
variable {w : World} {p bm : Nat} {kv : Value} {ds rs : List Fl} {f : Fl} {s : Ds}

set_option maxRecDepth 100000 in
set_option maxHeartbeats 2000000 in
/-- A place that is none. -/
theorem write_arg (hf : FileAt w f) (at_ : Int) (h64 : -9223372036854775808 ≤ at_ ∧ at_ ≤ 9223372036854775807) (hat : at_ < 0 ∨ (f.now.length : Int) < at_) (u : Value) :
    Calls Try.prog 44 #[.pointer (some ⟨p, 0, none⟩), .pointer (some ⟨f.blk, 0, none⟩), .int .i64 at_, u] w fun e w' => e = .returned (.int .i64 1) ∧ w' = w := by
  have c0 := cell_of_heap hf.cells 0
  simp at c0
  obtain ⟨na, ncap, hvn, _⟩ := hf.rnow.isB.form
  rw [hvn] at c0
  clear hf hvn
  generalize f.blk = q at c0 ⊢
  generalize f.now.length = L at c0 hat
  by_cases h0 : at_ < 0
  · go_enter Try.func44, Try.ntmps44
    go_wp2
    go_ret
    exact ⟨rfl, rfl⟩
  · have h1 : (L : Int) < at_ := by omega
    clear hat
    go_enter Try.func44, Try.ntmps44
    go_wp2
    go_ret
    exact ⟨rfl, rfl⟩

set_option maxRecDepth 100000 in
set_option maxHeartbeats 4000000 in
/-- No room. -/
theorem write_no (h : DiskAt w p bm kv (ds ++ f :: rs) s) (hl : f.now.length ≤ 1073741824) (a : Nat) (ha : a ≤ f.now.length) (u : Value) (cs : List Int) (hu : IsB w u cs) (hcl : cs.length ≤ 1073741824)
    (hs0 : 0 ≤ s.used ∧ s.used ≤ s.room ∧ s.room ≤ 67108864) (hno : s.room - s.used < moreA f.now a cs) :
    Calls Try.prog 44 #[.pointer (some ⟨p, 0, none⟩), .pointer (some ⟨f.blk, 0, none⟩), .int .i64 (a : Int), u] w fun e w' => e = .returned (.int .i64 6) ∧ Below w.heap.size w w' := by
  have hf := h.files f (by simp)
  have c0 := cell_of_heap hf.cells 0
  simp at c0
  obtain ⟨na, ncap, hvn, _⟩ := hf.rnow.isB.form
  rw [hvn] at c0
  obtain ⟨ua, uc, rfl, _⟩ := hu.form
  obtain ⟨_, d1, d2, _⟩ := h.cellAt
  unfold moreA at hno
  obtain ⟨L, hL⟩ : ∃ L, L = f.now.length := ⟨_, rfl⟩
  obtain ⟨M, hM⟩ : ∃ M, M = max L (a + cs.length) := ⟨_, rfl⟩
  rw [← hL] at c0 hl ha hno
  rw [← hM] at hno
  have hmax : ∀ (ts : Array TypeId) (t : TypeId) (W : World), (Builtin.max_ ts t #[.int .i64 (L : Int), .int .i64 ((a : Int) + (cs.length : Int))]).run Try.prog W = .ok (.int .i64 (M : Int)) W := by
    intro ts t W
    rw [run_max_int2]
    congr 2
    split <;> omega
  have S1 := hide (fun W => sectors_any M (by omega) W)
  have S2 := hide (fun W => sectors_any L (by omega) W)
  have b1 := sec_nonneg M
  have b2 := sec_nonneg L
  have b3 : sec M ≤ 1073741824 := by unfold sec; omega
  have b4 : sec L ≤ 1073741824 := by unfold sec; omega
  generalize sec M = X at S1 hno b1 b3
  generalize sec L = Y at S2 hno b2 b4
  have hlt : (a : Int) ≤ (L : Int) := by omega
  generalize f.blk = q at c0 ⊢
  clear h hf hvn hu hL hM
  go_enter Try.func44, Try.ntmps44
  go_wp2
  go_quiet ((go_at_call 40; first | exact Calls.quiet_of_same (S1.out _) | exact Calls.quiet_of_same (S2.out _)))
  go_wp2
  go_quiet (fail)
  go_wp2
  go_ret
  exact ⟨rfl, rfl, rfl, rfl, Nat.le_refl _, fun _ _ => rfl⟩

set_option maxRecDepth 100000 in
set_option maxHeartbeats 8000000 in
/-- There is room. -/
theorem write_go (h : DiskAt w p bm kv (ds ++ f :: rs) s) (hl : f.now.length ≤ 1073741824) (a : Nat) (ha : a ≤ f.now.length) (u : Value) (cs : List Int) (hu : IsB w u cs) (hcl : cs.length ≤ 1073741824) (hux : cs ≠ [] → ∀ x ∈ own u, x ∉ foot f)
    (hs0 : 0 ≤ s.used ∧ s.used ≤ s.room ∧ s.room ≤ 67108864) (hgo : moreA f.now a cs ≤ s.room - s.used) :
    Calls Try.prog 44 #[.pointer (some ⟨p, 0, none⟩), .pointer (some ⟨f.blk, 0, none⟩), .int .i64 (a : Int), u] w fun e w' => e = .returned (.int .i64 0) ∧ ∃ vn, DiskAt w' p bm kv (ds ++ { f with vn := vn, now := putA f.now a cs } :: rs) { s with used := s.used + moreA f.now a cs } ∧
      Kept (feet p bm kv (ds ++ f :: rs)) w w' ∧ Newly w (foot f) (foot { f with vn := vn, now := putA f.now a cs }) := by
  have hf := h.files f (by simp)
  have hmem : ∀ x ∈ foot f, x ∈ feet p bm kv (ds ++ f :: rs) := fun x hx => (feet_perm p bm kv ds rs f).mem_iff.2 (List.mem_append.2 (.inl hx))
  have hpf : p ∉ foot f := fun e => by
    have hnd := (feet_perm p bm kv ds rs f).nodup_iff.1 h.apart
    rw [List.nodup_append] at hnd
    exact hnd.2.2 p e p (by simp [feet]) rfl
  have hap := hf.apart
  have c0 := cell_of_heap hf.cells 0
  simp at c0
  have hRN := hf.rnow
  obtain ⟨na, ncap, hvn, hnc⟩ := hf.rnow.isB.form
  rw [hvn] at c0 hRN
  have hISN := hRN.isB
  obtain ⟨ua, uc, rfl, hucl⟩ := hu.form
  obtain ⟨_, d1, d2, _⟩ := h.cellAt
  obtain ⟨MR, hMR⟩ : ∃ MR, MR = moreA f.now a cs := ⟨_, rfl⟩
  have hMR2 := hMR
  unfold moreA at hMR2
  obtain ⟨L, hL⟩ : ∃ L, L = f.now.length := ⟨_, rfl⟩
  obtain ⟨M, hM⟩ : ∃ M, M = max L (a + cs.length) := ⟨_, rfl⟩
  rw [← hL] at c0 hl ha hMR2 hnc hRN hISN
  rw [← hM] at hMR2
  rw [← hMR] at hgo ⊢
  have hmax : ∀ (ts : Array TypeId) (t : TypeId) (W : World), (Builtin.max_ ts t #[.int .i64 (L : Int), .int .i64 ((a : Int) + (cs.length : Int))]).run Try.prog W = .ok (.int .i64 (M : Int)) W := by
    intro ts t W
    rw [run_max_int2]
    congr 2
    split <;> omega
  have S1 := hide (fun W => sectors_any M (by omega) W)
  have S2 := hide (fun W => sectors_any L (by omega) W)
  have b1 := sec_nonneg M
  have b2 := sec_nonneg L
  have b3 : sec M ≤ 1073741824 := by unfold sec; omega
  have b4 : sec L ≤ 1073741824 := by unfold sec; omega
  have b5 : sec L ≤ sec M := sec_mono (by omega)
  generalize sec M = X at S1 hMR2 b1 b3 b5
  generalize sec L = Y at S2 hMR2 b2 b4 b5
  have hMR3 : X - Y = MR := hMR2.symm
  have hMR0 : 0 ≤ MR := by omega
  have hMR4 : MR ≤ 67108864 := by omega
  have hsum : IntKind.i64.wrap (s.used + MR) = s.used + MR := i64_small _ (by omega) (by omega)
  have hgo2 : ¬ s.room - s.used < MR := by omega
  have hwr : IntKind.i64.wrap (s.room - s.used) = s.room - s.used := i64_small _ (by omega) (by omega)
  have hlt : (a : Int) ≤ (L : Int) := by omega
  -- the slices that are cut
  obtain ⟨dp, hdp⟩ : ∃ dp, dp = (if ncap = a then na else na.map (·.add a)) := ⟨_, rfl⟩
  have sl1 := slice_from na L ncap a ha
  rw [← hdp] at sl1
  obtain ⟨ov, hov⟩ : ∃ ov, ov = min cs.length (L - a) := ⟨_, rfl⟩
  obtain ⟨bp, hbp⟩ : ∃ bp, bp = (if uc = ov then ua else ua.map (·.add ov)) := ⟨_, rfl⟩
  have sl2 := slice_from ua cs.length uc ov (by omega)
  rw [← hbp] at sl2
  have hub : IsB w (.slice bp (cs.length - ov) (uc - ov)) (cs.drop ov) := by rw [hbp]; exact hu.from ov (by omega)
  have hdp2 : a < f.now.length → ∀ g, (Value.slice na L ncap).ownBlock = some g → dp = some ⟨g, a, none⟩ := by
    intro h1 g hg
    rw [← hL] at h1
    rcases hf.rnow.form with ⟨e1, e2⟩ | ⟨g2, cp2, e1, _⟩
    · rw [hL, e2] at h1
      simp at h1
    · rw [hvn] at e1
      simp only [Value.slice.injEq] at e1
      rw [hdp, if_neg (by omega), e1.1]
      rw [e1.1] at hg
      simp [Value.ownBlock] at hg
      simp [Addr.add_lit, hg]
  obtain ⟨PN, hPN⟩ : ∃ PN, PN = putA f.now a cs := ⟨_, rfl⟩
  obtain ⟨NB, hNB⟩ : ∃ NB, NB = f.now.take a ++ (cs.take (f.now.length - a) ++ f.now.drop (a + cs.length)) := ⟨_, rfl⟩
  have hNBl : NB.length = L := by rw [hNB, hL]; simp; omega
  have hcat : NB ++ cs.drop ov = PN := by rw [hNB, hPN, hov, hL]; exact putA_eq f.now a cs (by omega)
  obtain ⟨q, hq⟩ : ∃ q, q = f.blk := ⟨_, rfl⟩
  have hqp : ¬ q = p := fun e => hpf (by rw [← e, hq]; simp [foot])
  have hqn : q ∉ own (.slice na L ncap) := by
    rw [hq, hL, ← hvn]
    unfold foot at hap
    rw [List.nodup_cons] at hap
    exact fun e => hap.1 (List.mem_append.2 (.inl e))
  have hun : cs.drop ov ≠ [] → ∀ x ∈ own (.slice bp (cs.length - ov) (uc - ov)), x ∉ own (.slice na L ncap) := fun hne x hx e => by
    refine hux (fun e0 => hne (by rw [e0]; simp)) x ?_ (by rw [hL, ← hvn] at e; simp only [foot, List.mem_cons, List.mem_append]; exact .inr (.inl e))
    rw [hbp] at hx
    cases ua with
    | none => split at hx <;> simp [own, Value.ownBlock] at hx
    | some ua =>
      split at hx
      · simpa [own, Value.ownBlock] using hx
      · simp [own, Value.ownBlock, Addr.add] at hx ⊢
        split at hx <;> exact hx
  have hlen2 : NB.length + (cs.drop ov).length ≤ 1099511627776 := by rw [hNBl]; simp; omega
  have hq2 : f.blk = q := hq.symm
  have hpn : p ∉ own (.slice na L ncap) := fun e => hpf (by rw [hL, ← hvn] at e; simp only [foot, List.mem_cons, List.mem_append]; exact .inr (.inl e))
  have HPNN := hide hpn
  have HQL : Hid (q < w.heap.size) := by show q < _; rw [hq]; exact hf.lt _ (by simp [foot])
  have HPL : Hid (p < w.heap.size) := h.lt p (by simp [feet])
  have HQC : Hid (w.heap[q]? = some (.cells #[.slice na L ncap, f.vs] 71 (0, 0))) := by
    show _ = _
    rw [hq, hL, ← hvn]
    exact hf.cells
  have HPC := hide h.cells
  have HF := hide hf
  have HH := hide h
  have HRN := hide hRN
  have HU := hide hu
  have HUB := hide hub
  have HDP2 := hide hdp2
  have HQN := hide hqn
  have HUN := hide hun
  have HVN := hide hvn
  have HPN := hide hPN
  have HNB := hide hNB
  have HCAT := hide hcat
  have HQ := hide hq
  have HL := hide hL
  have HOV := hide hov
  have HLEN := hide hlen2
  have HMEM := hide hmem
  have HNBL := hide hNBl
  have hpl := h.lt p (by simp [feet])
  have haL : a ≤ f.now.length := by omega
  have HAL := hide haL
  rw [hq2] at c0 ⊢
  clear h hf hRN hISN hu hub hdp2 hqn hun hvn hPN hNB hcat hq hL hov hlen2 hmem hNBl hq2 hMR2 hMR hM hdp hbp hap hpf hux haL hpn
  go_enter Try.func44, Try.ntmps44
  go_wp2
  go_quiet ((go_at_call 40; first | exact Calls.quiet_of_same (S1.out _) | exact Calls.quiet_of_same (S2.out _)))
  go_wp2
  go_quiet (fail)
  go_wp2_with (first | (refine wp_copyM _ rfl _ _ rfl (.slice na L ncap) f.now HRN.out a HAL.out (.slice ua cs.length uc) cs HU.out dp (L - a) (ncap - a) rfl (by rw [HL.out]) HDP2.out rfl ov (by rw [← HL.out]; exact HOV.out) NB HNB.out ?_; intro w2 r2 k2; have R2 := hide r2; have K2 : Hid (Kept (own (.slice na L ncap)) w w2) := (⟨k2.os, k2.tape, k2.output, k2.size, k2.block⟩ : Kept _ w w2); clear r2 k2; have e0 := K2.out.cell c0 HQN.out) | go_in)
  go_wp2
  go_region_law (refine step_appendR _ ?_ (.tmp 63) (.tmp 66) ?_ (.slice na L ncap) (.slice bp (cs.length - ov) (uc - ov)) NB (cs.drop ov) ?_ ?_ ?_ ?_ ?_ ?_; rfl; rfl; rfl; exact R2.out; rfl; exact HUB.out.kept K2.out.drew HUN.out; exact HLEN.out; intro v3 w3 r3 k3 n3; rw [HCAT.out] at r3; obtain ⟨va, vc, rfl, hvc⟩ := r3.isB.form; have R3 := hide r3; have N3 := hide n3; have K3 : Hid (Kept (own (.slice na L ncap)) w2 w3) := (⟨k3.os, k3.tape, k3.output, k3.size, k3.block⟩ : Kept _ w2 w3); clear r3 k3 n3; have hq3 := (K3.out.block q (Nat.lt_of_lt_of_le HQL.out K2.out.size) HQN.out).trans ((K2.out.block q HQL.out HQN.out).trans HQC.out); have hp3 := (K3.out.block p (Nat.lt_of_lt_of_le HPL.out K2.out.size) HPNN.out).trans ((K2.out.block p HPL.out HPNN.out).trans HPC.out); have e1 := K3.out.cell e0 HQN.out; have z3 := frozen_of_heap hq3; have z4 := frozen_of_heap hp3; have e2 := K3.out.cell (K2.out.cell d2 HPNN.out) HPNN.out; have HQ3 := hide hq3; have HP3 := hide hp3; clear hq3 hp3)
  all_goals
    have e5 : (w3.setCell ⟨q, 0, none⟩ (.slice va PN.length vc)).cell? ⟨p, 2, none⟩ = some (.int .i64 s.used) := (World.cell?_of_block (Below.heap_setCell w3 _ _ p (fun e => hqp e.symm))).trans e2
    have z5 : (w3.setCell ⟨q, 0, none⟩ (.slice va PN.length vc)).frozen? ⟨p, 2, none⟩ = false := (World.frozen?_of_block (Below.heap_setCell w3 _ _ p (fun e => hqp e.symm))).trans (z4 2)
    go_wp2
    go_ret
    have k23 : Kept (own (.slice na L ncap)) w w3 := K2.out.trans K3.out (Newly.refl _ _)
    have hvo : ∀ x ∈ own (.slice na L ncap), x ∈ foot f := fun x hx => by
      rw [HL.out, ← HVN.out] at hx
      simp only [foot, List.mem_cons, List.mem_append]
      exact .inr (.inl hx)
    have hnap : ∀ x ∈ own (.slice va PN.length vc), x ∈ own (.slice na L ncap) ∨ w.heap.size ≤ x := fun x hx => by
      rcases N3.out x hx with h1 | h1
      · exact .inl h1
      · exact .inr (Nat.le_trans K2.out.size h1)
    have k4 : Kept (foot f) w (w3.setCell ⟨q, 0, none⟩ (.slice va PN.length vc)) := (k23.mono hvo).setCell (p := ⟨q, 0, none⟩) (.inl (by simp [foot, HQ.out])) _
    have hap := HF.out.apart
    unfold foot at hap
    rw [List.nodup_cons, List.nodup_append] at hap
    have hqs : q ∉ own f.vs := fun e => hap.1 (List.mem_append.2 (.inr (by rw [← HQ.out]; exact e)))
    have hqv : q ∉ own (.slice va PN.length vc) := fun e => by
      rcases hnap q e with h1 | h1
      · exact HQN.out h1
      · have := HQL.out
        omega
    have fileN : FileAt (w3.setCell ⟨q, 0, none⟩ (.slice va PN.length vc)) { f with vn := .slice va PN.length vc, now := PN } := by
      have kq : Kept [q] w3 (w3.setCell ⟨q, 0, none⟩ (.slice va PN.length vc)) := (Kept.refl _ w3).setCell (p := ⟨q, 0, none⟩) (.inl (by simp)) _
      refine ⟨?_, R3.out.kept kq (fun x hx => by simp; rintro rfl; exact hqv hx), ?_, ?_⟩
      · have e := heap_setCell HQ3.out 0 (.slice va PN.length vc)
        simp only
        rw [← HQ.out]
        simpa using e
      · exact (HF.out.rsyn.kept k23 (fun x hx e => by
          rw [HL.out, ← HVN.out] at e
          exact hap.2.2.2 x e x hx rfl)).kept kq (fun x hx => by simp; rintro rfl; exact hqs hx)
      · show (f.blk :: (own (.slice va PN.length vc) ++ own f.vs)).Nodup
        rw [List.nodup_cons, List.nodup_append]
        refine ⟨fun e => ?_, by cases va <;> simp [own, Value.ownBlock], hap.2.2.1, fun x hx y hy e => ?_⟩
        · rcases List.mem_append.1 e with e | e
          · exact hqv (by rw [HQ.out]; exact e)
          · exact hqs (by rw [HQ.out]; exact e)
        · subst e
          rcases hnap x hx with h1 | h1
          · rw [HL.out, ← HVN.out] at h1
            exact hap.2.2.2 x h1 x hy rfl
          · have := HF.out.rsyn.lt x hy
            omega
    have newN : Newly w (foot f) (foot { f with vn := .slice va PN.length vc, now := PN }) := fun x hx => by
      simp only [foot, List.mem_cons, List.mem_append] at hx ⊢
      rcases hx with hx | hx | hx
      · exact .inl (.inl hx)
      · rcases hnap x hx with h1 | h1
        · rw [HL.out, ← HVN.out] at h1
          exact .inl (.inr (.inl h1))
        · exact .inr h1
      · exact .inl (.inr (.inr hx))
    have dN := HH.out.file (f' := { f with vn := .slice va PN.length vc, now := PN }) rfl rfl k4 (fun x hx => .inl hx) fileN newN
    rw [← HQ.out] at dN newN
    rw [← HPN.out]
    refine ⟨rfl, .slice va PN.length vc, dN.put0 (w' := _) ?_ ?_ rfl, ?_, newN⟩
    · exact (Kept.refl [p] (w3.setCell ⟨q, 0, none⟩ (.slice va PN.length vc))).setCell (p := ⟨p, 2, none⟩) (.inl (by simp)) _
    · have e := heap_setCell dN.cells 2 (.int .i64 (s.used + MR))
      simp [diskCells] at e
      exact e
    · exact (k4.mono HMEM.out).setCell (p := ⟨p, 2, none⟩) (.inl (by simp [feet])) _

end

end Go.Proofs.Ytbhjdcoehgajcaa
