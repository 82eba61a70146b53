/-
  Lemma texts, one behind the other: DWrite, DOps, DMeth, DCreate, DMeth2. No statement of the seat is proved here.
-/
import Derived.Test.YtgpbanjammipiaaGreatDoorGAE
namespace Go.Proofs.YtgpbanjammipiaaGreatDoor
open Go.RowKit Go.Maps Go.Sort Go.Shelf

/-- A slice from a place on. -/
theorem slice_from (na : Option Addr) (L cap a : Nat) (ha : a ≤ L) (W : World) :
    (Instr.slice 46 (.slice na L cap) (some (.int .i64 (a : Int))) none none).run Tryz.prog W = .ok (.slice (if cap = a then na else na.map (·.add a)) (L - a) (cap - a)) W := by
  obtain ⟨i0, hi, hz0, hz1, hz2⟩ := info_parts Tryz.infoU8
  simp [Instr.slice, Instr.sliceBounds, Instr.sliceBound, asIntOf, run_underlying Tryz.underlying46, sizeOf, typeInfo, hi, hz1, ha]

theorem IsB.from {w : World} {na : Option Addr} {L cap : Nat} {bs : List Int} (h : IsB w (.slice na L cap) bs) (a : Nat) (ha : a ≤ L) : IsB w (.slice (if cap = a then na else na.map (·.add a)) (L - a) (cap - a)) (bs.drop a) := by
  obtain ⟨x, c, he, h1, h2, h3, h4⟩ := h
  simp only [Value.slice.injEq] at he
  obtain ⟨rfl, rfl, rfl⟩ := he
  refine ⟨(if cap = a then na else na.map (·.add a)), cap - a, by rw [List.length_drop], by rw [List.length_drop]; omega, fun e => ?_, fun y hy j hj => ?_, fun z hz => h4 z (List.mem_of_mem_drop hz)⟩
  · cases na with
    | none =>
      obtain ⟨rfl, rfl⟩ := h2 rfl
      simp
    | some na => split at e <;> simp at e
  · simp at hj
    cases na with
    | none => rw [(h2 rfl).1] at hj; simp at hj
    | some na =>
      rw [if_neg (by omega)] at hy
      simp only [Option.map_some, Option.some.injEq] at hy
      subst hy
      have := h3 na rfl (a + j) (by omega)
      rw [List.getElem?_drop, ← this, Addr.add_add]

/-- cs laid over now from a on. -/
def putA (now : List Int) (a : Nat) (cs : List Int) : List Int := now.take a ++ (cs ++ now.drop (a + cs.length))

theorem putA_length (now : List Int) (a : Nat) (cs : List Int) (h : a ≤ now.length) : (putA now a cs).length = max now.length (a + cs.length) := by
  simp [putA]
  omega

theorem putA_eq (now : List Int) (a : Nat) (cs : List Int) (h : a ≤ now.length) : now.take a ++ (cs.take (now.length - a) ++ now.drop (a + cs.length)) ++ cs.drop (min cs.length (now.length - a)) = putA now a cs := by
  unfold putA
  by_cases hc : cs.length ≤ now.length - a
  · have e : min cs.length (now.length - a) = cs.length := by omega
    rw [e, List.drop_length, List.append_nil, List.take_of_length_le hc]
  · have e : min cs.length (now.length - a) = now.length - a := by omega
    have e2 : now.drop (a + cs.length) = [] := List.drop_of_length_le (by omega)
    rw [e, e2, List.append_nil, List.append_nil, List.append_assoc, List.take_append_drop]

section
variable {ops : Array Oper} {rest : List Oper} {o : Oper} {a : Act} {Q : Exit → Act → World → Prop}

theorem wp_copyM (w : World) (hgd : o.guard = none) (d s : Operand) (ho : o.op = .call { callee := .builtin .copy, args := #[d, s], argTypes := #[46, 46] })
    (v : Value) (bs : List Int) (hrow : RowB w v bs) (n : Nat) (hn : n ≤ bs.length) (u : Value) (cs : List Int) (hu : IsB w u cs) (dp : Option Addr) (dl dc : Nat) (hd : a.eval d = .slice dp dl dc) (hdl : dl = bs.length - n)
    (hdp : n < bs.length → ∀ g, v.ownBlock = some g → dp = some ⟨g, n, none⟩) (hs : a.eval s = u) (m : Nat) (hm : m = min cs.length (bs.length - n)) (R : List Int) (hR : R = bs.take n ++ (cs.take (bs.length - n) ++ bs.drop (n + cs.length)))
    (h : ∀ w', RowB w' v R → Kept (own v) w w' → wpList Tryz.prog ops Q rest (a.put o.dst (.int .i64 (m : Int))) w') :
    wpList Tryz.prog ops Q (o :: rest) a w := by
  subst hm
  subst hR
  exact wp_copyR w hgd d s ho v bs hrow n hn u cs hu dp dl dc hd hdl hdp hs h
end

/-- How many sectors more. -/
def moreA (now : List Int) (a : Nat) (cs : List Int) : Int := sec (max now.length (a + cs.length)) - sec now.length

section
variable {w : World} {p bm : Nat} {kv : Value} {ds rs : List Fl} {f : Fl} {s : Ds}

set_option maxRecDepth 100000 in
set_option maxHeartbeats 2000000 in
/-- A place that is none. -/
theorem write_arg (hf : FileAt w f) (at_ : Int) (h64 : -9223372036854775808 ≤ at_ ∧ at_ ≤ 9223372036854775807) (hat : at_ < 0 ∨ (f.now.length : Int) < at_) (u : Value) :
    Calls Tryz.prog 43 #[.pointer (some ⟨p, 0, none⟩), .pointer (some ⟨f.blk, 0, none⟩), .int .i64 at_, u] w fun e w' => e = .returned (.int .i64 1) ∧ w' = w := by
  have c0 := cell_of_heap hf.cells 0
  simp at c0
  obtain ⟨na, ncap, hvn, _⟩ := hf.rnow.isB.form
  rw [hvn] at c0
  clear hf hvn
  generalize f.blk = q at c0 ⊢
  generalize f.now.length = L at c0 hat
  by_cases h0 : at_ < 0
  · go_enter Tryz.func43, Tryz.ntmps43
    go_wp2
    go_ret
    exact ⟨rfl, rfl⟩
  · have h1 : (L : Int) < at_ := by omega
    clear hat
    go_enter Tryz.func43, Tryz.ntmps43
    go_wp2
    go_ret
    exact ⟨rfl, rfl⟩

set_option maxRecDepth 100000 in
set_option maxHeartbeats 4000000 in
/-- No room. -/
theorem write_no (h : DiskAt w p bm kv (ds ++ f :: rs) s) (hl : f.now.length ≤ 1073741824) (a : Nat) (ha : a ≤ f.now.length) (u : Value) (cs : List Int) (hu : IsB w u cs) (hcl : cs.length ≤ 1073741824)
    (hs0 : 0 ≤ s.used ∧ s.used ≤ s.room ∧ s.room ≤ 67108864) (hno : s.room - s.used < moreA f.now a cs) :
    Calls Tryz.prog 43 #[.pointer (some ⟨p, 0, none⟩), .pointer (some ⟨f.blk, 0, none⟩), .int .i64 (a : Int), u] w fun e w' => e = .returned (.int .i64 6) ∧ Below w.heap.size w w' := by
  have hf := h.files f (by simp)
  have c0 := cell_of_heap hf.cells 0
  simp at c0
  obtain ⟨na, ncap, hvn, _⟩ := hf.rnow.isB.form
  rw [hvn] at c0
  obtain ⟨ua, uc, rfl, _⟩ := hu.form
  obtain ⟨_, d1, d2, _⟩ := h.cellAt
  unfold moreA at hno
  obtain ⟨L, hL⟩ : ∃ L, L = f.now.length := ⟨_, rfl⟩
  obtain ⟨M, hM⟩ : ∃ M, M = max L (a + cs.length) := ⟨_, rfl⟩
  rw [← hL] at c0 hl ha hno
  rw [← hM] at hno
  have hmax : ∀ (ts : Array TypeId) (t : TypeId) (W : World), (Builtin.max_ ts t #[.int .i64 (L : Int), .int .i64 ((a : Int) + (cs.length : Int))]).run Tryz.prog W = .ok (.int .i64 (M : Int)) W := by
    intro ts t W
    rw [run_max_int2]
    congr 2
    split <;> omega
  have S1 := hide (fun W => sectors_any M (by omega) W)
  have S2 := hide (fun W => sectors_any L (by omega) W)
  have b1 := sec_nonneg M
  have b2 := sec_nonneg L
  have b3 : sec M ≤ 1073741824 := by unfold sec; omega
  have b4 : sec L ≤ 1073741824 := by unfold sec; omega
  generalize sec M = X at S1 hno b1 b3
  generalize sec L = Y at S2 hno b2 b4
  have hlt : (a : Int) ≤ (L : Int) := by omega
  generalize f.blk = q at c0 ⊢
  clear h hf hvn hu hL hM
  go_enter Tryz.func43, Tryz.ntmps43
  go_wp2
  go_quiet ((go_at_call 69; first | exact Calls.quiet_of_same (S1.out _) | exact Calls.quiet_of_same (S2.out _)))
  go_wp2
  go_quiet (fail)
  go_wp2
  go_ret
  exact ⟨rfl, rfl, rfl, rfl, Nat.le_refl _, fun _ _ => rfl⟩

set_option maxRecDepth 100000 in
set_option maxHeartbeats 8000000 in
/-- There is room. -/
theorem write_go (h : DiskAt w p bm kv (ds ++ f :: rs) s) (hl : f.now.length ≤ 1073741824) (a : Nat) (ha : a ≤ f.now.length) (u : Value) (cs : List Int) (hu : IsB w u cs) (hcl : cs.length ≤ 1073741824) (hux : cs ≠ [] → ∀ x ∈ own u, x ∉ foot f)
    (hs0 : 0 ≤ s.used ∧ s.used ≤ s.room ∧ s.room ≤ 67108864) (hgo : moreA f.now a cs ≤ s.room - s.used) :
    Calls Tryz.prog 43 #[.pointer (some ⟨p, 0, none⟩), .pointer (some ⟨f.blk, 0, none⟩), .int .i64 (a : Int), u] w fun e w' => e = .returned (.int .i64 0) ∧ ∃ vn, DiskAt w' p bm kv (ds ++ { f with vn := vn, now := putA f.now a cs } :: rs) { s with used := s.used + moreA f.now a cs } ∧
      Kept (feet p bm kv (ds ++ f :: rs)) w w' ∧ Newly w (foot f) (foot { f with vn := vn, now := putA f.now a cs }) := by
  have hf := h.files f (by simp)
  have hmem : ∀ x ∈ foot f, x ∈ feet p bm kv (ds ++ f :: rs) := fun x hx => (feet_perm p bm kv ds rs f).mem_iff.2 (List.mem_append.2 (.inl hx))
  have hpf : p ∉ foot f := fun e => by
    have hnd := (feet_perm p bm kv ds rs f).nodup_iff.1 h.apart
    rw [List.nodup_append] at hnd
    exact hnd.2.2 p e p (by simp [feet]) rfl
  have hap := hf.apart
  have c0 := cell_of_heap hf.cells 0
  simp at c0
  have hRN := hf.rnow
  obtain ⟨na, ncap, hvn, hnc⟩ := hf.rnow.isB.form
  rw [hvn] at c0 hRN
  have hISN := hRN.isB
  obtain ⟨ua, uc, rfl, hucl⟩ := hu.form
  obtain ⟨_, d1, d2, _⟩ := h.cellAt
  obtain ⟨MR, hMR⟩ : ∃ MR, MR = moreA f.now a cs := ⟨_, rfl⟩
  have hMR2 := hMR
  unfold moreA at hMR2
  obtain ⟨L, hL⟩ : ∃ L, L = f.now.length := ⟨_, rfl⟩
  obtain ⟨M, hM⟩ : ∃ M, M = max L (a + cs.length) := ⟨_, rfl⟩
  rw [← hL] at c0 hl ha hMR2 hnc hRN hISN
  rw [← hM] at hMR2
  rw [← hMR] at hgo ⊢
  have hmax : ∀ (ts : Array TypeId) (t : TypeId) (W : World), (Builtin.max_ ts t #[.int .i64 (L : Int), .int .i64 ((a : Int) + (cs.length : Int))]).run Tryz.prog W = .ok (.int .i64 (M : Int)) W := by
    intro ts t W
    rw [run_max_int2]
    congr 2
    split <;> omega
  have S1 := hide (fun W => sectors_any M (by omega) W)
  have S2 := hide (fun W => sectors_any L (by omega) W)
  have b1 := sec_nonneg M
  have b2 := sec_nonneg L
  have b3 : sec M ≤ 1073741824 := by unfold sec; omega
  have b4 : sec L ≤ 1073741824 := by unfold sec; omega
  have b5 : sec L ≤ sec M := sec_mono (by omega)
  generalize sec M = X at S1 hMR2 b1 b3 b5
  generalize sec L = Y at S2 hMR2 b2 b4 b5
  have hMR3 : X - Y = MR := hMR2.symm
  have hMR0 : 0 ≤ MR := by omega
  have hMR4 : MR ≤ 67108864 := by omega
  have hsum : IntKind.i64.wrap (s.used + MR) = s.used + MR := i64_small _ (by omega) (by omega)
  have hgo2 : ¬ s.room - s.used < MR := by omega
  have hwr : IntKind.i64.wrap (s.room - s.used) = s.room - s.used := i64_small _ (by omega) (by omega)
  have hlt : (a : Int) ≤ (L : Int) := by omega
  -- the slices that are cut
  obtain ⟨dp, hdp⟩ : ∃ dp, dp = (if ncap = a then na else na.map (·.add a)) := ⟨_, rfl⟩
  have sl1 := slice_from na L ncap a ha
  rw [← hdp] at sl1
  obtain ⟨ov, hov⟩ : ∃ ov, ov = min cs.length (L - a) := ⟨_, rfl⟩
  obtain ⟨bp, hbp⟩ : ∃ bp, bp = (if uc = ov then ua else ua.map (·.add ov)) := ⟨_, rfl⟩
  have sl2 := slice_from ua cs.length uc ov (by omega)
  rw [← hbp] at sl2
  have hub : IsB w (.slice bp (cs.length - ov) (uc - ov)) (cs.drop ov) := by rw [hbp]; exact hu.from ov (by omega)
  have hdp2 : a < f.now.length → ∀ g, (Value.slice na L ncap).ownBlock = some g → dp = some ⟨g, a, none⟩ := by
    intro h1 g hg
    rw [← hL] at h1
    rcases hf.rnow.form with ⟨e1, e2⟩ | ⟨g2, cp2, e1, _⟩
    · rw [hL, e2] at h1
      simp at h1
    · rw [hvn] at e1
      simp only [Value.slice.injEq] at e1
      rw [hdp, if_neg (by omega), e1.1]
      rw [e1.1] at hg
      simp [Value.ownBlock] at hg
      simp [Addr.add_lit, hg]
  obtain ⟨PN, hPN⟩ : ∃ PN, PN = putA f.now a cs := ⟨_, rfl⟩
  obtain ⟨NB, hNB⟩ : ∃ NB, NB = f.now.take a ++ (cs.take (f.now.length - a) ++ f.now.drop (a + cs.length)) := ⟨_, rfl⟩
  have hNBl : NB.length = L := by rw [hNB, hL]; simp; omega
  have hcat : NB ++ cs.drop ov = PN := by rw [hNB, hPN, hov, hL]; exact putA_eq f.now a cs (by omega)
  obtain ⟨q, hq⟩ : ∃ q, q = f.blk := ⟨_, rfl⟩
  have hqp : ¬ q = p := fun e => hpf (by rw [← e, hq]; simp [foot])
  have hqn : q ∉ own (.slice na L ncap) := by
    rw [hq, hL, ← hvn]
    unfold foot at hap
    rw [List.nodup_cons] at hap
    exact fun e => hap.1 (List.mem_append.2 (.inl e))
  have hun : cs.drop ov ≠ [] → ∀ x ∈ own (.slice bp (cs.length - ov) (uc - ov)), x ∉ own (.slice na L ncap) := fun hne x hx e => by
    refine hux (fun e0 => hne (by rw [e0]; simp)) x ?_ (by rw [hL, ← hvn] at e; simp only [foot, List.mem_cons, List.mem_append]; exact .inr (.inl e))
    rw [hbp] at hx
    cases ua with
    | none => split at hx <;> simp [own, Value.ownBlock] at hx
    | some ua =>
      split at hx
      · simpa [own, Value.ownBlock] using hx
      · simp [own, Value.ownBlock, Addr.add] at hx ⊢
        split at hx <;> exact hx
  have hlen2 : NB.length + (cs.drop ov).length ≤ 1099511627776 := by rw [hNBl]; simp; omega
  have hq2 : f.blk = q := hq.symm
  have hpn : p ∉ own (.slice na L ncap) := fun e => hpf (by rw [hL, ← hvn] at e; simp only [foot, List.mem_cons, List.mem_append]; exact .inr (.inl e))
  have HPNN := hide hpn
  have HQL : Hid (q < w.heap.size) := by show q < _; rw [hq]; exact hf.lt _ (by simp [foot])
  have HPL : Hid (p < w.heap.size) := h.lt p (by simp [feet])
  have HQC : Hid (w.heap[q]? = some (.cells #[.slice na L ncap, f.vs] 92 (0, 0))) := by
    show _ = _
    rw [hq, hL, ← hvn]
    exact hf.cells
  have HPC := hide h.cells
  have HF := hide hf
  have HH := hide h
  have HRN := hide hRN
  have HU := hide hu
  have HUB := hide hub
  have HDP2 := hide hdp2
  have HQN := hide hqn
  have HUN := hide hun
  have HVN := hide hvn
  have HPN := hide hPN
  have HNB := hide hNB
  have HCAT := hide hcat
  have HQ := hide hq
  have HL := hide hL
  have HOV := hide hov
  have HLEN := hide hlen2
  have HMEM := hide hmem
  have HNBL := hide hNBl
  have hpl := h.lt p (by simp [feet])
  have haL : a ≤ f.now.length := by omega
  have HAL := hide haL
  rw [hq2] at c0 ⊢
  clear h hf hRN hISN hu hub hdp2 hqn hun hvn hPN hNB hcat hq hL hov hlen2 hmem hNBl hq2 hMR2 hMR hM hdp hbp hap hpf hux haL hpn
  go_enter Tryz.func43, Tryz.ntmps43
  go_wp2
  go_quiet ((go_at_call 69; first | exact Calls.quiet_of_same (S1.out _) | exact Calls.quiet_of_same (S2.out _)))
  go_wp2
  go_quiet (fail)
  go_wp2_with (first | (refine wp_copyM _ rfl _ _ rfl (.slice na L ncap) f.now HRN.out a HAL.out (.slice ua cs.length uc) cs HU.out dp (L - a) (ncap - a) rfl (by rw [HL.out]) HDP2.out rfl ov (by rw [← HL.out]; exact HOV.out) NB HNB.out ?_; intro w2 r2 k2; have R2 := hide r2; have K2 : Hid (Kept (own (.slice na L ncap)) w w2) := (⟨k2.os, k2.tape, k2.output, k2.size, k2.block⟩ : Kept _ w w2); clear r2 k2; have e0 := K2.out.cell c0 HQN.out) | go_in)
  go_wp2
  go_region_law (refine step_appendR _ ?_ (.tmp 63) (.tmp 66) ?_ (.slice na L ncap) (.slice bp (cs.length - ov) (uc - ov)) NB (cs.drop ov) ?_ ?_ ?_ ?_ ?_ ?_; rfl; rfl; rfl; exact R2.out; rfl; exact HUB.out.kept K2.out.drew HUN.out; exact HLEN.out; intro v3 w3 r3 k3 n3; rw [HCAT.out] at r3; obtain ⟨va, vc, rfl, hvc⟩ := r3.isB.form; have R3 := hide r3; have N3 := hide n3; have K3 : Hid (Kept (own (.slice na L ncap)) w2 w3) := (⟨k3.os, k3.tape, k3.output, k3.size, k3.block⟩ : Kept _ w2 w3); clear r3 k3 n3; have hq3 := (K3.out.block q (Nat.lt_of_lt_of_le HQL.out K2.out.size) HQN.out).trans ((K2.out.block q HQL.out HQN.out).trans HQC.out); have hp3 := (K3.out.block p (Nat.lt_of_lt_of_le HPL.out K2.out.size) HPNN.out).trans ((K2.out.block p HPL.out HPNN.out).trans HPC.out); have e1 := K3.out.cell e0 HQN.out; have z3 := frozen_of_heap hq3; have z4 := frozen_of_heap hp3; have e2 := K3.out.cell (K2.out.cell d2 HPNN.out) HPNN.out; have HQ3 := hide hq3; have HP3 := hide hp3; clear hq3 hp3)
  all_goals
    have e5 : (w3.setCell ⟨q, 0, none⟩ (.slice va PN.length vc)).cell? ⟨p, 2, none⟩ = some (.int .i64 s.used) := (World.cell?_of_block (Below.heap_setCell w3 _ _ p (fun e => hqp e.symm))).trans e2
    have z5 : (w3.setCell ⟨q, 0, none⟩ (.slice va PN.length vc)).frozen? ⟨p, 2, none⟩ = false := (World.frozen?_of_block (Below.heap_setCell w3 _ _ p (fun e => hqp e.symm))).trans (z4 2)
    go_wp2
    go_ret
    have k23 : Kept (own (.slice na L ncap)) w w3 := K2.out.trans K3.out (Newly.refl _ _)
    have hvo : ∀ x ∈ own (.slice na L ncap), x ∈ foot f := fun x hx => by
      rw [HL.out, ← HVN.out] at hx
      simp only [foot, List.mem_cons, List.mem_append]
      exact .inr (.inl hx)
    have hnap : ∀ x ∈ own (.slice va PN.length vc), x ∈ own (.slice na L ncap) ∨ w.heap.size ≤ x := fun x hx => by
      rcases N3.out x hx with h1 | h1
      · exact .inl h1
      · exact .inr (Nat.le_trans K2.out.size h1)
    have k4 : Kept (foot f) w (w3.setCell ⟨q, 0, none⟩ (.slice va PN.length vc)) := (k23.mono hvo).setCell (p := ⟨q, 0, none⟩) (.inl (by simp [foot, HQ.out])) _
    have hap := HF.out.apart
    unfold foot at hap
    rw [List.nodup_cons, List.nodup_append] at hap
    have hqs : q ∉ own f.vs := fun e => hap.1 (List.mem_append.2 (.inr (by rw [← HQ.out]; exact e)))
    have hqv : q ∉ own (.slice va PN.length vc) := fun e => by
      rcases hnap q e with h1 | h1
      · exact HQN.out h1
      · have := HQL.out
        omega
    have fileN : FileAt (w3.setCell ⟨q, 0, none⟩ (.slice va PN.length vc)) { f with vn := .slice va PN.length vc, now := PN } := by
      have kq : Kept [q] w3 (w3.setCell ⟨q, 0, none⟩ (.slice va PN.length vc)) := (Kept.refl _ w3).setCell (p := ⟨q, 0, none⟩) (.inl (by simp)) _
      refine ⟨?_, R3.out.kept kq (fun x hx => by simp; rintro rfl; exact hqv hx), ?_, ?_⟩
      · have e := heap_setCell HQ3.out 0 (.slice va PN.length vc)
        simp only
        rw [← HQ.out]
        simpa using e
      · exact (HF.out.rsyn.kept k23 (fun x hx e => by
          rw [HL.out, ← HVN.out] at e
          exact hap.2.2.2 x e x hx rfl)).kept kq (fun x hx => by simp; rintro rfl; exact hqs hx)
      · show (f.blk :: (own (.slice va PN.length vc) ++ own f.vs)).Nodup
        rw [List.nodup_cons, List.nodup_append]
        refine ⟨fun e => ?_, by cases va <;> simp [own, Value.ownBlock], hap.2.2.1, fun x hx y hy e => ?_⟩
        · rcases List.mem_append.1 e with e | e
          · exact hqv (by rw [HQ.out]; exact e)
          · exact hqs (by rw [HQ.out]; exact e)
        · subst e
          rcases hnap x hx with h1 | h1
          · rw [HL.out, ← HVN.out] at h1
            exact hap.2.2.2 x h1 x hy rfl
          · have := HF.out.rsyn.lt x hy
            omega
    have newN : Newly w (foot f) (foot { f with vn := .slice va PN.length vc, now := PN }) := fun x hx => by
      simp only [foot, List.mem_cons, List.mem_append] at hx ⊢
      rcases hx with hx | hx | hx
      · exact .inl (.inl hx)
      · rcases hnap x hx with h1 | h1
        · rw [HL.out, ← HVN.out] at h1
          exact .inl (.inr (.inl h1))
        · exact .inr h1
      · exact .inl (.inr (.inr hx))
    have dN := HH.out.file (f' := { f with vn := .slice va PN.length vc, now := PN }) rfl rfl k4 (fun x hx => .inl hx) fileN newN
    rw [← HQ.out] at dN newN
    rw [← HPN.out]
    refine ⟨rfl, .slice va PN.length vc, dN.put0 (w' := _) ?_ ?_ rfl, ?_, newN⟩
    · exact (Kept.refl [p] (w3.setCell ⟨q, 0, none⟩ (.slice va PN.length vc))).setCell (p := ⟨p, 2, none⟩) (.inl (by simp)) _
    · have e := heap_setCell dN.cells 2 (.int .i64 (s.used + MR))
      simp [diskCells] at e
      exact e
    · exact (k4.mono HMEM.out).setCell (p := ⟨p, 2, none⟩) (.inl (by simp [feet])) _

end

end Go.Proofs.YtgpbanjammipiaaGreatDoor

namespace Go.Proofs.YtgpbanjammipiaaGreatDoor
open Go.RowKit Go.Maps Go.Sort Go.Shelf

/-- The file of a name, as it is told. -/
def lookA (l : List Ab) (n : List UInt8) : Option Ab := l.find? (fun x => x.1 == n)

theorem look_ab (fs : List Fl) (n : List UInt8) : lookA (fs.map Fl.ab) n = (look fs n).map Fl.ab := by
  unfold lookA look
  rw [List.find?_map]
  rfl

/-- An operation on a file of that name: what it answers if the disk is down, or there is none. -/
def errA (A : List Ab × Ds) (n : List UInt8) : Option Int := if A.2.down then some 7 else match lookA A.1 n with | none => some 4 | some _ => none

theorem errA_ne {A : List Ab × Ds} {n : List UInt8} {k : Int} (h : errA A n = some k) : k = 7 ∨ k = 4 := by
  unfold errA at h
  split at h
  · simp at h; omega
  · split at h
    · simp at h; omega
    · simp at h

/-- A file in the place of the one of its name. -/
def setA (l : List Ab) (x : Ab) : List Ab := l.map (fun y => if y.1 == x.1 then x else y)

theorem setA_split {a b : List Ab} {x y : Ab} (h : (a ++ x :: b).Pairwise (fun f g => f.1 < g.1)) (hn : y.1 = x.1) : setA (a ++ x :: b) y = a ++ y :: b := by
  rw [List.pairwise_append, List.pairwise_cons] at h
  have e1 : a.map (fun z => if z.1 == y.1 then y else z) = a := by
    have : ∀ z ∈ a, (if z.1 == y.1 then y else z) = z := fun z hz => by
      have := lt_ne (h.2.2 z hz x (by simp))
      rw [hn, if_neg (by simpa using this)]
    exact (List.map_congr_left this).trans (List.map_id a)
  have e2 : b.map (fun z => if z.1 == y.1 then y else z) = b := by
    have : ∀ z ∈ b, (if z.1 == y.1 then y else z) = z := fun z hz => by
      have := lt_ne (h.2.1.1 z hz)
      rw [hn, if_neg (by simpa using Ne.symm this)]
    exact (List.map_congr_left this).trans (List.map_id b)
  unfold setA
  rw [List.map_append, List.map_cons, e1, e2, if_pos (by simp [hn])]

/-- What write answers, and leaves. -/
def writeA (l : List Ab) (s : Ds) (x : Ab) (at_ : Int) (cs : List Int) : Int × (List Ab × Ds) :=
  if at_ < 0 ∨ (x.2.1.length : Int) < at_ then (1, (l, s))
  else if s.room - s.used < moreA x.2.1 at_.toNat cs then (6, (l, s))
  else (0, (setA l (x.1, putA x.2.1 at_.toNat cs, x.2.2), { s with used := s.used + moreA x.2.1 at_.toNat cs }))

theorem sortedA {fs : List Fl} (h : fs.Pairwise (fun f g => f.name < g.name)) : (fs.map Fl.ab).Pairwise (fun f g => f.1 < g.1) := List.pairwise_map.2 h

theorem lookA_mem {l : List Ab} {n : List UInt8} {x : Ab} (h : lookA l n = some x) : x ∈ l ∧ x.1 = n := by
  unfold lookA at h
  exact ⟨List.mem_of_find?_eq_some h, by simpa using List.find?_some h⟩

theorem okA_set {a b : List Ab} {x y : Ab} {s s' : Ds} (h : okA (a ++ x :: b) s) (hn : y.1 = x.1) (hy : y.2.2.length ≤ y.2.1.length) (hu : s'.used = s.used - sec x.2.1.length + sec y.2.1.length) (hf : s'.used ≤ s'.room)
    (hr : s'.room = s.room) (ho : s'.ops = s.ops) (hl : s'.left = s.left) (hk : s'.keep = s.keep) : okA (a ++ y :: b) s' := by
  have h1 := h.used
  rw [usedB_append, usedB_cons] at h1
  refine ⟨fun z hz => ?_, ?_, hf, by rw [hr]; exact h.room, by rw [ho]; exact h.ops, ?_, by rw [hl]; exact h.left, by rw [hk]; exact h.keep, fun z hz => ?_⟩
  · rcases List.mem_append.1 hz with hz | hz
    · exact h.ok z (by simp [hz])
    · rcases List.mem_cons.1 hz with rfl | hz
      · exact hy
      · exact h.ok z (by simp [hz])
  · rw [usedB_append, usedB_cons]
    omega
  · rw [ho]
    have := h.len
    simpa using this
  · rcases List.mem_append.1 hz with hz | hz
    · exact h.names z (by simp [hz])
    · rcases List.mem_cons.1 hz with rfl | hz
      · rw [hn]
        exact h.names x (by simp)
      · exact h.names z (by simp [hz])

theorem moreA_nonneg (now : List Int) (a : Nat) (cs : List Int) : 0 ≤ moreA now a cs := by
  unfold moreA
  have := sec_mono (m := now.length) (n := max now.length (a + cs.length)) (by omega)
  omega

/-- Files and what is told of them, taken apart at a name. -/
theorem split_look {l : List Ab} {n : List UInt8} {x : Ab} (h : lookA l n = some x) : ∃ a b, l = a ++ x :: b := List.append_of_mem (lookA_mem h).1

theorem writeA_ok {l : List Ab} {s : Ds} (h : okA l s) (hs : l.Pairwise (fun f g => f.1 < g.1)) {n : List UInt8} {x : Ab} (hx : lookA l n = some x) (at_ : Int) (cs : List Int) : okA (writeA l s x at_ cs).2.1 (writeA l s x at_ cs).2.2 := by
  unfold writeA
  split
  · exact h
  · rename_i h1
    split
    · exact h
    · rename_i h2
      obtain ⟨a, b, rfl⟩ := split_look hx
      have e := setA_split (y := (x.1, putA x.2.1 at_.toNat cs, x.2.2)) hs rfl
      simp only
      rw [e]
      have hl := putA_length x.2.1 at_.toNat cs (by omega)
      have hok := h.ok x (by simp)
      have hm := moreA_nonneg x.2.1 at_.toNat cs
      refine okA_set h rfl ?_ ?_ ?_ rfl rfl rfl rfl
      · simp only [hl]
        omega
      · simp only [hl, moreA]
        omega
      · simp only
        omega

section
variable {w : World} {p bm : Nat} {kv : Value} {fs : List Fl} {s : Ds}

theorem file_len {f : Fl} (ho : okA (fs.map Fl.ab) s) (hf : f ∈ fs) : f.now.length ≤ 1073741824 ∧ f.syn.length ≤ f.now.length := by
  have h1 := usedB_mem (l := fs.map Fl.ab) (x := f.ab) (List.mem_map.2 ⟨f, hf, rfl⟩)
  have h2 := ho.used
  have h3 := ho.fits
  have h4 := ho.room
  have h5 := sec_le _ _ (Int.le_trans h1 (by omega : usedB (fs.map Fl.ab) ≤ 67108864))
  refine ⟨?_, ho.ok f.ab (List.mem_map.2 ⟨f, hf, rfl⟩)⟩
  simp only [Fl.ab] at h5
  omega

theorem write_any (h : DiskAt w p bm kv fs s) (ho : okA (fs.map Fl.ab) s) {n : List UInt8} {f : Fl} (hf : look fs n = some f) (at_ : Int) (h64 : -9223372036854775808 ≤ at_ ∧ at_ ≤ 9223372036854775807) (u : Value) (cs : List Int) (hu : IsB w u cs) (hcl : cs.length ≤ 1073741824)
    (hux : cs ≠ [] → ∀ x ∈ own u, x ∉ feet p bm kv fs) :
    Calls Tryz.prog 43 #[.pointer (some ⟨p, 0, none⟩), .pointer (some ⟨f.blk, 0, none⟩), .int .i64 at_, u] w fun e w' => e = .returned (.int .i64 (writeA (fs.map Fl.ab) s f.ab at_ cs).1) ∧ ∃ fs' s', Left w w' p bm kv fs kv fs' s' (writeA (fs.map Fl.ab) s f.ab at_ cs).2 := by
  have hfm := (look_name hf).1
  have hfl := file_len ho hfm
  by_cases h1 : at_ < 0 ∨ (f.now.length : Int) < at_
  · refine (write_arg (h.files f hfm) at_ h64 h1 u).mono ?_
    rintro e w' ⟨rfl, rfl⟩
    have e1 : writeA (fs.map Fl.ab) s f.ab at_ cs = (1, (fs.map Fl.ab, s)) := by
      exact if_pos h1
    rw [e1]
    exact ⟨rfl, fs, s, h, rfl, Kept.refl _ _, Newly.refl _ _⟩
  · obtain ⟨a, rfl⟩ : ∃ a : Nat, at_ = (a : Int) := ⟨at_.toNat, by omega⟩
    have ha : a ≤ f.now.length := by omega
    obtain ⟨ds, rs, rfl⟩ := List.append_of_mem hfm
    have hs0 : 0 ≤ s.used ∧ s.used ≤ s.room ∧ s.room ≤ 67108864 := ⟨by rw [ho.used]; exact usedB_nonneg _, ho.fits, ho.room⟩
    by_cases h2 : s.room - s.used < moreA f.now a cs
    · refine (write_no h hfl.1 a ha u cs hu hcl hs0 h2).mono ?_
      rintro e w' ⟨rfl, b⟩
      have e1 : writeA ((ds ++ f :: rs).map Fl.ab) s f.ab (a : Int) cs = (6, ((ds ++ f :: rs).map Fl.ab, s)) := by
        exact (if_neg h1).trans (if_pos h2)
      rw [e1]
      exact ⟨rfl, _, s, h.below b, rfl, Kept.of_below b, Newly.refl _ _⟩
    · refine (write_go h hfl.1 a ha u cs hu hcl (fun hne x hx e => hux hne x hx ((feet_perm p bm kv ds rs f).mem_iff.2 (List.mem_append.2 (.inl e)))) hs0 (by omega)).mono ?_
      rintro e w' ⟨rfl, vn, d, k, nw⟩
      have e1 : writeA ((ds ++ f :: rs).map Fl.ab) s f.ab (a : Int) cs = (0, (setA ((ds ++ f :: rs).map Fl.ab) (f.name, putA f.now a cs, f.syn), { s with used := s.used + moreA f.now a cs })) := by
        exact (if_neg h1).trans (if_neg h2)
      rw [e1]
      refine ⟨rfl, _, _, d, ?_, k, feet_file nw rfl⟩
      have e2 := setA_split (a := ds.map Fl.ab) (b := rs.map Fl.ab) (x := f.ab) (y := (f.name, putA f.now a cs, f.syn)) (by have := sortedA h.sorted; simpa using this) rfl
      simp only [List.map_append, List.map_cons]
      rw [e2]
      rfl
end

/-- A disk, by its blocks. -/
def Dk (w : World) (fp : List Nat) (p : Nat) (l : List Ab) (s : Ds) : Prop := ∃ bm kv fs, DiskAt w p bm kv fs s ∧ fs.map Fl.ab = l ∧ fp = feet p bm kv fs ∧ okA l s

/-- What an operation leaves. -/
def Outc (w w' : World) (fp : List Nat) (p : Nat) (A : List Ab × Ds) : Prop := ∃ fp', Dk w' fp' p A.1 A.2 ∧ Kept fp w w' ∧ Newly w fp fp'

theorem Left.outc {w w' : World} {p bm : Nat} {kv kv' : Value} {fs fs' : List Fl} {s' : Ds} {A : List Ab × Ds} (h : Left w w' p bm kv fs kv' fs' s' A) (ho : okA A.1 A.2) : Outc w w' (feet p bm kv fs) p A := by
  obtain ⟨h1, rfl, h3, h4⟩ := h
  exact ⟨_, ⟨bm, kv', fs', h1, rfl, rfl, ho⟩, h3, h4⟩

theorem Left.trans {w w1 w2 : World} {p bm : Nat} {kv kv1 kv2 : Value} {fs fs1 fs2 : List Fl} {s1 s2 : Ds} {A B : List Ab × Ds} (h : Left w w1 p bm kv fs kv1 fs1 s1 A) (k : Left w1 w2 p bm kv1 fs1 kv2 fs2 s2 B) : Left w w2 p bm kv fs kv2 fs2 s2 B :=
  ⟨k.1, k.2.1, h.2.2.1.trans k.2.2.1 h.2.2.2, h.2.2.2.trans k.2.2.2 h.2.2.1.size⟩

section
variable {w : World} {p bm : Nat} {kv : Value} {fs : List Fl} {s : Ds}

theorem find_err (h : DiskAt w p bm kv fs s) (ho : okA (fs.map Fl.ab) s) (hn : s.ops ≤ 1000000) (nm : ByteArray) (hnm : nm.size ≤ maxLen) {k : Int} (he : errA (beginA (fs.map Fl.ab) s) nm.data.toList = some k) :
    Calls Tryz.prog 42 #[.pointer (some ⟨p, 0, none⟩), .string nm] w fun e w' => e = .returned (.tuple #[.pointer none, .int .i64 k]) ∧ ∃ kv' fs' s', Left w w' p bm kv fs kv' fs' s' (beginA (fs.map Fl.ab) s) := by
  refine (find_any h ho hn nm hnm).mono ?_
  rintro e w' ⟨kv', fs', s', rfl, L⟩
  refine ⟨?_, kv', fs', s', L⟩
  have e1 := L.2.1
  rw [← e1] at he
  unfold errA at he
  unfold findV
  cases hd : s'.down with
  | true => simp [hd] at he; simp [← he]
  | false =>
    simp only [hd, look_ab] at he ⊢
    cases hl : look fs' nm.data.toList with
    | none => simp [hl] at he; simp [← he]
    | some f => simp [hl] at he

theorem find_ok (h : DiskAt w p bm kv fs s) (ho : okA (fs.map Fl.ab) s) (hn : s.ops ≤ 1000000) (nm : ByteArray) (hnm : nm.size ≤ maxLen) {x : Ab} (he : errA (beginA (fs.map Fl.ab) s) nm.data.toList = none) (hx : lookA (beginA (fs.map Fl.ab) s).1 nm.data.toList = some x) :
    Calls Tryz.prog 42 #[.pointer (some ⟨p, 0, none⟩), .string nm] w fun e w' => ∃ kv' fs' s' f, e = .returned (.tuple #[.pointer (some ⟨f.blk, 0, none⟩), .int .i64 0]) ∧ look fs' nm.data.toList = some f ∧ f.ab = x ∧ Left w w' p bm kv fs kv' fs' s' (beginA (fs.map Fl.ab) s) := by
  refine (find_any h ho hn nm hnm).mono ?_
  rintro e w' ⟨kv', fs', s', rfl, L⟩
  have e1 := L.2.1
  rw [← e1] at he hx
  rw [look_ab] at hx
  cases hl : look fs' nm.data.toList with
  | none => simp [hl] at hx
  | some f =>
    refine ⟨kv', fs', s', f, ?_, hl, by simpa [hl] using hx, L⟩
    unfold errA at he
    unfold findV
    cases hd : s'.down with
    | true => simp [hd] at he
    | false => simp

theorem errA_none {A : List Ab × Ds} {n : List UInt8} (h : errA A n = none) : ∃ x, lookA A.1 n = some x := by
  unfold errA at h
  split at h
  · simp at h
  · split at h
    · simp at h
    · rename_i x hx
      exact ⟨x, hx⟩
end

end Go.Proofs.YtgpbanjammipiaaGreatDoor

namespace Go.Proofs.YtgpbanjammipiaaGreatDoor
open Go.RowKit Go.Maps Go.Sort Go.Shelf

/-- What Size answers. -/
def sizeA (A : List Ab × Ds) (n : List UInt8) : Int × Int := match errA A n with | some k => (0, k) | none => match lookA A.1 n with | some x => (x.2.1.length, 0) | none => (0, 0)

/-- What Append answers, and leaves. -/
def appendA (A : List Ab × Ds) (n : List UInt8) (cs : List Int) : Int × (List Ab × Ds) := match errA A n with | some k => (k, A) | none => match lookA A.1 n with | some x => writeA A.1 A.2 x x.2.1.length cs | none => (0, A)

/-- What WriteAt answers, and leaves. -/
def writeAtA (A : List Ab × Ds) (n : List UInt8) (at_ : Int) (cs : List Int) : Int × (List Ab × Ds) := match errA A n with | some k => (k, A) | none => match lookA A.1 n with | some x => writeA A.1 A.2 x at_ cs | none => (0, A)

section
variable {w : World} {fp : List Nat} {p : Nat} {l : List Ab} {s : Ds}

theorem Dk.below {w' : World} (h : Dk w fp p l s) (hb : Below w.heap.size w w') : Dk w' fp p l s := by
  obtain ⟨bm, kv, fs, d, h1, h2, h3⟩ := h
  exact ⟨bm, kv, fs, d.below hb, h1, h2, h3⟩

theorem Dk.kept {w' : World} {fp' : List Nat} (h : Dk w fp p l s) (hk : Kept fp' w w') (hf : ∀ x ∈ fp, x ∉ fp') : Dk w' fp p l s := by
  obtain ⟨bm, kv, fs, d, h1, rfl, h3⟩ := h
  exact ⟨bm, kv, fs, d.kept hk hf, h1, rfl, h3⟩

theorem Dk.lt (h : Dk w fp p l s) : ∀ x ∈ fp, x < w.heap.size := by
  obtain ⟨bm, kv, fs, d, h1, rfl, h3⟩ := h
  exact d.lt

theorem Dk.ok (h : Dk w fp p l s) : okA l s := by
  obtain ⟨bm, kv, fs, d, h1, h2, h3⟩ := h
  exact h3

theorem Dk.sorted (h : Dk w fp p l s) : l.Pairwise (fun f g => f.1 < g.1) := by
  obtain ⟨bm, kv, fs, d, rfl, h2, h3⟩ := h
  exact sortedA d.sorted

theorem Outc.trans {w1 w2 : World} {A B : List Ab × Ds} (h : Outc w w1 fp p A) (k : ∀ fp1, Dk w1 fp1 p A.1 A.2 → Kept fp w w1 → Newly w fp fp1 → Outc w1 w2 fp1 p B) : Outc w w2 fp p B := by
  obtain ⟨fp1, d1, k1, n1⟩ := h
  obtain ⟨fp2, d2, k2, n2⟩ := k fp1 d1 k1 n1
  exact ⟨fp2, d2, k1.trans k2 n1, n1.trans n2 k1.size⟩

set_option maxRecDepth 100000 in
set_option maxHeartbeats 2000000 in
theorem Dk.size (h : Dk w fp p l s) (hn : s.ops ≤ 1000000) (nm : ByteArray) (hnm : nm.size ≤ maxLen) : Calls Tryz.prog 52 #[.pointer (some ⟨p, 0, none⟩), .string nm] w fun e w' =>
    e = .returned (.tuple #[.int .i64 (sizeA (beginA l s) nm.data.toList).1, .int .i64 (sizeA (beginA l s) nm.data.toList).2]) ∧ Outc w w' fp p (beginA l s) := by
  obtain ⟨bm, kv, fs, d, rfl, rfl, ho⟩ := h
  have hok := hide (beginA_ok ho)
  unfold sizeA
  cases he : errA (beginA (fs.map Fl.ab) s) nm.data.toList with
  | some k =>
    have FD := hide (find_err d ho hn nm hnm he)
    have hk := errA_ne he
    have hk0 : ¬ k = 0 := by omega
    clear d ho he hnm
    simp only
    generalize beginA (fs.map Fl.ab) s = A at FD hok ⊢
    go_enter Tryz.func52, Tryz.ntmps52
    go_wp2_with (go_at_call 42; refine FD.out.mono ?_; rintro e w1 ⟨rfl, kv1, fs1, s1, L1⟩; have HL := hide L1; clear L1)
    go_ret2
    exact ⟨rfl, HL.out.outc hok.out⟩
  | none =>
    obtain ⟨x, hx⟩ := errA_none he
    have FD := hide (find_ok d ho hn nm hnm he hx)
    clear d ho he hnm
    rw [hx]
    simp only
    clear hx
    generalize beginA (fs.map Fl.ab) s = A at FD hok ⊢
    go_enter Tryz.func52, Tryz.ntmps52
    go_wp2_with (go_at_call 42; refine FD.out.mono ?_; rintro e w1 ⟨kv1, fs1, s1, f1, rfl, hl1, hf1, L1⟩; have FA := L1.1.files f1 (look_name hl1).1; have c0 := cell_of_heap FA.cells 0; simp at c0; obtain ⟨va, vc, hvn, _⟩ := FA.rnow.isB.form; rw [hvn] at c0; have e3 : f1.now.length = x.2.1.length := (by rw [← hf1]; rfl); rw [e3] at c0; have HL := hide L1; clear L1 FA hvn hf1 hl1 e3)
    go_ret2
    exact ⟨rfl, HL.out.outc hok.out⟩

set_option maxRecDepth 100000 in
set_option maxHeartbeats 2000000 in
theorem Dk.append (h : Dk w fp p l s) (hn : s.ops ≤ 1000000) (nm : ByteArray) (hnm : nm.size ≤ maxLen) (u : Value) (cs : List Int) (hu : IsB w u cs) (hcl : cs.length ≤ 1073741824) (hux : cs ≠ [] → ∀ x ∈ own u, x ∉ fp) :
    Calls Tryz.prog 26 #[.pointer (some ⟨p, 0, none⟩), .string nm, u] w fun e w' => e = .returned (.int .i64 (appendA (beginA l s) nm.data.toList cs).1) ∧ Outc w w' fp p (appendA (beginA l s) nm.data.toList cs).2 := by
  obtain ⟨bm, kv, fs, d, rfl, rfl, ho⟩ := h
  have hok := beginA_ok ho
  unfold appendA
  cases he : errA (beginA (fs.map Fl.ab) s) nm.data.toList with
  | some k =>
    have FD := hide (find_err d ho hn nm hnm he)
    have hk := errA_ne he
    have hk0 : ¬ k = 0 := by omega
    have HOK := hide hok
    obtain ⟨ua, uc, rfl, _⟩ := hu.form
    clear d ho he hnm hu hok hux
    simp only
    generalize beginA (fs.map Fl.ab) s = A at FD HOK ⊢
    go_enter Tryz.func26, Tryz.ntmps26
    go_wp2_with (go_at_call 42; refine FD.out.mono ?_; rintro e w1 ⟨rfl, kv1, fs1, s1, L1⟩; have HL := hide L1; clear L1)
    go_ret
    exact ⟨rfl, HL.out.outc HOK.out⟩
  | none =>
    obtain ⟨x, hx⟩ := errA_none he
    have FD := hide (find_ok d ho hn nm hnm he hx)
    rw [hx]
    simp only
    have WR := hide (fun (w1 : World) (kv1 : Value) (fs1 : List Fl) (s1 : Ds) (f1 : Fl) (hl1 : look fs1 nm.data.toList = some f1) (hf1 : f1.ab = x) (L1 : Left w w1 p bm kv fs kv1 fs1 s1 (beginA (fs.map Fl.ab) s)) =>
      write_any L1.1 (by have := L1.2.1; rw [← this] at hok; exact hok) hl1 (x.2.1.length : Int) (by
        have e3 : f1.now.length = x.2.1.length := by rw [← hf1]; rfl
        have := (file_len (s := s1) (fs := fs1) (by have := L1.2.1; rw [← this] at hok; exact hok) (look_name hl1).1).1
        omega) u cs (hu.kept L1.2.2.1 hux) hcl (fun hne y hy e => by
          rcases L1.2.2.2 y e with h1 | h1
          · exact hux hne y hy h1
          · have := hu.lt hne y hy
            omega))
    have WOK : Hid (∀ (w1 : World) (kv1 : Value) (fs1 : List Fl) (s1 : Ds), Left w w1 p bm kv fs kv1 fs1 s1 (beginA (fs.map Fl.ab) s) → okA (writeA (beginA (fs.map Fl.ab) s).1 (beginA (fs.map Fl.ab) s).2 x x.2.1.length cs).2.1 (writeA (beginA (fs.map Fl.ab) s).1 (beginA (fs.map Fl.ab) s).2 x x.2.1.length cs).2.2) := fun w1 kv1 fs1 s1 L1 =>
      writeA_ok hok (by rw [← L1.2.1]; exact sortedA L1.1.sorted) hx _ _
    obtain ⟨ua, uc, rfl, _⟩ := hu.form
    clear d ho he hnm hu hok hux hx
    go_enter Tryz.func26, Tryz.ntmps26
    go_wp2_with (first
      | (go_at_call 42; refine FD.out.mono ?_; rintro e w1 ⟨kv1, fs1, s1, f1, rfl, hl1, hf1, L1⟩; have FA := L1.1.files f1 (look_name hl1).1; have c0 := cell_of_heap FA.cells 0; simp at c0; obtain ⟨va, vc, hvn, _⟩ := FA.rnow.isB.form; rw [hvn] at c0; have e3 : f1.now.length = x.2.1.length := (by rw [← hf1]; rfl); rw [e3] at c0; have W1 := hide (WR.out w1 kv1 fs1 s1 f1 hl1 hf1 L1); rw [hf1] at W1; have E1 : Hid ((fs1.map Fl.ab, s1) = beginA (fs.map Fl.ab) s) := L1.2.1; have e8 : fs1.map Fl.ab = (beginA (fs.map Fl.ab) s).1 := (congrArg (fun x => x.1) E1.out); have e9 : s1 = (beginA (fs.map Fl.ab) s).2 := (congrArg (fun x => x.2) E1.out); rw [e8, e9] at W1; have HL := hide L1; clear L1 FA hvn hf1 hl1 e3 e8 e9)
      | (go_at_call 43; refine W1.out.mono ?_; rintro e w2 ⟨rfl, fs2, s2, L2⟩; have HL2 := hide L2; clear L2))
    go_ret
    refine ⟨rfl, (Left.trans HL.out HL2.out).outc (WOK.out w1 kv1 fs1 s1 HL.out)⟩
end

end Go.Proofs.YtgpbanjammipiaaGreatDoor

namespace Go.Proofs.YtgpbanjammipiaaGreatDoor
open Go.RowKit Go.Maps Go.Sort Go.Shelf

/-- A file, in its place. -/
def insF : List Fl → Fl → List Fl
  | [], f => [f]
  | g :: r, f => if g.name < f.name then g :: insF r f else f :: g :: r

def insA : List Ab → Ab → List Ab
  | [], f => [f]
  | g :: r, f => if g.1 < f.1 then g :: insA r f else f :: g :: r

theorem insF_ab (fs : List Fl) (f : Fl) : (insF fs f).map Fl.ab = insA (fs.map Fl.ab) f.ab := by
  induction fs with
  | nil => rfl
  | cons g r ih =>
    simp only [insF, insA, List.map_cons]
    show _ = if g.name < f.name then _ else _
    split
    · simp [ih]
    · simp

theorem insF_perm (fs : List Fl) (f : Fl) : (insF fs f).Perm (f :: fs) := by
  induction fs with
  | nil => exact List.Perm.refl _
  | cons g r ih =>
    unfold insF
    split
    · exact (ih.cons g).trans (List.Perm.swap f g r)
    · exact List.Perm.refl _

theorem insA_perm (l : List Ab) (x : Ab) : (insA l x).Perm (x :: l) := by
  induction l with
  | nil => exact List.Perm.refl _
  | cons g r ih =>
    unfold insA
    split
    · exact (ih.cons g).trans (List.Perm.swap x g r)
    · exact List.Perm.refl _

theorem name_lt {x y : List UInt8} (h : ¬ x < y) (hne : x ≠ y) : y < x := by
  exact Classical.byContradiction fun h2 => hne (List.le_antisymm (List.not_lt.1 h2) (List.not_lt.1 h))

theorem insF_sorted {fs : List Fl} {f : Fl} (hs : fs.Pairwise (fun f g => f.name < g.name)) (hno : ∀ g ∈ fs, g.name ≠ f.name) : (insF fs f).Pairwise (fun f g => f.name < g.name) := by
  induction fs with
  | nil => simp [insF]
  | cons g r ih =>
    rw [List.pairwise_cons] at hs
    unfold insF
    split
    · rename_i h
      rw [List.pairwise_cons]
      refine ⟨fun y hy => ?_, ih hs.2 (fun y hy => hno y (by simp [hy]))⟩
      rcases List.mem_cons.1 ((insF_perm r f).mem_iff.1 hy) with rfl | hy
      · exact h
      · exact hs.1 y hy
    · rename_i h
      have h1 := name_lt h (hno g (by simp))
      rw [List.pairwise_cons, List.pairwise_cons]
      refine ⟨fun y hy => ?_, hs⟩
      rcases List.mem_cons.1 hy with rfl | hy
      · exact h1
      · exact List.lt_trans h1 (hs.1 y hy)

theorem look_ins (fs : List Fl) (f : Fl) (hno : look fs f.name = none) (n : List UInt8) : look (insF fs f) n = if f.name = n then some f else look fs n := by
  induction fs with
  | nil =>
    unfold look insF
    rw [List.find?_cons]
    by_cases h : f.name = n
    · simp [h]
    · have : (f.name == n) = false := by simpa using h
      simp [this, h]
  | cons g r ih =>
    unfold look at hno
    rw [List.find?_cons] at hno
    cases hg : (g.name == f.name) with
    | true => rw [hg] at hno; simp at hno
    | false =>
      rw [hg] at hno
      have ih := ih hno
      have hgn : g.name ≠ f.name := by simpa using hg
      unfold insF
      split
      · unfold look at ih ⊢
        rw [List.find?_cons, List.find?_cons, ih]
        cases h2 : (g.name == n) with
        | true =>
          have : g.name = n := by simpa using h2
          have hfn : ¬ f.name = n := by rw [← this]; exact Ne.symm hgn
          simp [hfn]
        | false => rfl
      · unfold look
        rw [List.find?_cons]
        cases h2 : (f.name == n) with
        | true =>
          have : f.name = n := by simpa using h2
          rw [if_pos this]
        | false =>
          have : ¬ f.name = n := by simpa using h2
          rw [if_neg this]

theorem lookA_none {l : List Ab} {n : List UInt8} (h : lookA l n = none) : ∀ x ∈ l, x.1 ≠ n := by
  unfold lookA at h
  intro f hf
  simpa using List.find?_eq_none.1 h f hf

theorem keyLit (n : List UInt8) : WideAt.IsKeyLit (.string n) := by trivial

theorem MapIs.ins {D : DataW Unit} {fs : List Fl} {f : Fl} (h : MapIs D fs) (ht : Tidy D) (hno : look fs f.name = none) : MapIs (D.put (.string f.name) (.lit (.int .i64 f.blk))) (insF fs f) := by
  refine ⟨fun n => ?_, fun n => ?_, ?_⟩
  · rw [look_ins fs f hno n]
    by_cases e : f.name = n
    · subst e
      rw [atKey_put_same ht.isMap (keyLit _), if_pos rfl]
    · rw [atKey_put_other (by simpa using fun e2 => e e2.symm), h.at_ n, if_neg e]
  · rw [look_ins fs f hno n]
    by_cases e : f.name = n
    · subst e
      rw [has_put_same ht.isMap (keyLit _), if_pos rfl]
      rfl
    · rw [has_put_other (by simpa using fun e2 => e e2.symm), h.has n, if_neg e]
  · rw [size_put ht, h.has, hno]
    have e := (insF_perm fs f).length_eq
    rw [e, h.size]
    simp

theorem feet_ins (p bm : Nat) (kv : Value) (fs : List Fl) (f : Fl) : (feet p bm kv (insF fs f)).Perm (foot f ++ feet p bm kv fs) := by
  have h1 : (feet p bm kv (insF fs f)).Perm (feet p bm kv ([] ++ f :: fs)) := by
    unfold feet
    exact (((insF_perm fs f).flatMap_right foot).append_left (own kv) |>.cons bm).cons p
  exact h1.trans (feet_perm p bm kv [] fs f)

/-- A new file. -/
def newF (nm : List UInt8) (b : Nat) : Fl := { name := nm, blk := b, vn := .slice none 0 0, vs := .slice none 0 0, now := [], syn := [] }

theorem disk_create {w w1 : World} {p bm : Nat} {kv : Value} {fs : List Fl} {s : Ds} (h : DiskAt w p bm kv fs s) (nm : List UInt8) (hno : look fs nm = none) {D : DataW Unit} (hD : MapIs D fs) (ht : Tidy D)
    (hown : w1.ownsMap Tryz.prog 9 ptrE bm (fs.length + 1) (D.put (.string nm) (.lit (.int .i64 w.heap.size)))) (hk : Kept [bm] (w.alloc (.cells #[.slice none 0 0, .slice none 0 0] 92)) w1) :
    DiskAt w1 p bm kv (insF fs (newF nm w.heap.size)) s ∧ Kept (feet p bm kv fs) w w1 ∧ Newly w (feet p bm kv fs) (feet p bm kv (insF fs (newF nm w.heap.size))) := by
  have hb : Below w.heap.size w (w.alloc (.cells #[.slice none 0 0, .slice none 0 0] 92)) := (Below.refl _ w).alloc (Nat.le_refl _) _
  have h1 := h.below hb
  have hnd := h.apart
  have hlt := h.lt
  have hfeet : ∀ x ∈ feet p bm kv fs, x ≠ bm → x ∉ [bm] := fun x _ e => by simpa using e
  have hbm : ∀ x, x ∈ own kv ∨ x ∈ fs.flatMap foot → x ≠ bm := fun x hx e => by
    subst e
    unfold feet at hnd
    rw [List.nodup_cons, List.nodup_cons] at hnd
    exact hnd.2.1 (List.mem_append.2 hx)
  have hpb : p ≠ bm := fun e => by
    subst e
    unfold feet at hnd
    rw [List.nodup_cons] at hnd
    exact hnd.1 (by simp)
  have hkk : Kept (feet p bm kv fs) w w1 := (Kept.of_below (fp := feet p bm kv fs) hb).trans hk (Newly.of_sub (by simp [feet]))
  refine ⟨⟨?_, ⟨_, ?_, hD.ins (f := newF nm w.heap.size) ht hno⟩, ?_, ?_, ?_, insF_sorted h.sorted (look_none hno)⟩, hkk, ?_⟩
  · exact (hk.block p (by simp; have := hlt p (by simp [feet]); omega) (by simpa using hpb)).trans h1.cells
  · rw [(insF_perm fs (newF nm w.heap.size)).length_eq]
    exact hown
  · intro f hf
    rcases List.mem_cons.1 ((insF_perm fs _).mem_iff.1 hf) with rfl | hf
    · refine ⟨?_, RowB.nil _, RowB.nil _, by simp [foot, newF, own, Value.ownBlock]⟩
      have hlt2 := hlt bm (by simp [feet])
      show w1.heap[w.heap.size]? = _
      rw [hk.block w.heap.size (by simp) (by simp; omega)]
      exact heap_alloc_new w _
    · exact (h1.files f hf).kept hk (fun x hx => by simpa using hbm x (.inr (List.mem_flatMap.2 ⟨f, hf, hx⟩)))
  · exact h1.keep.kept hk (fun x hx => by simpa using hbm x (.inl hx))
  · refine (feet_ins p bm kv fs _).nodup_iff.2 ?_
    rw [List.nodup_append]
    refine ⟨by simp [foot, newF, own, Value.ownBlock], hnd, fun x hx y hy e => ?_⟩
    subst e
    simp [foot, newF, own, Value.ownBlock] at hx
    have := hlt x hy
    omega
  · intro x hx
    rcases List.mem_append.1 ((feet_ins p bm kv fs _).mem_iff.1 hx) with h2 | h2
    · simp [foot, newF, own, Value.ownBlock] at h2
      exact .inr (by omega)
    · exact .inl h2

end Go.Proofs.YtgpbanjammipiaaGreatDoor

namespace Go.Proofs.YtgpbanjammipiaaGreatDoor
open Go.RowKit Go.Maps Go.Sort Go.Shelf

/-- What Create answers, and leaves. -/
def createA (A : List Ab × Ds) (n : List UInt8) : Int × (List Ab × Ds) :=
  if A.2.down then (7, A) else if mayB n = false then (1, A) else match lookA A.1 n with | some _ => (5, A) | none => (0, (insA A.1 (n, [], []), A.2))

theorem usedB_ins (l : List Ab) (x : Ab) : usedB (insA l x) = sec x.2.1.length + usedB l := by
  induction l with
  | nil => exact usedB_cons [] x
  | cons g r ih =>
    unfold insA
    split
    · rw [usedB_cons, ih, usedB_cons]
      omega
    · rw [usedB_cons]

theorem createA_ok {A : List Ab × Ds} (h : okA A.1 A.2) (n : List UInt8) (hl : (A.1.length : Int) + 1 ≤ A.2.ops) : okA (createA A n).2.1 (createA A n).2.2 := by
  unfold createA
  split
  · exact h
  · split
    · exact h
    · rename_i h1 h2
      cases lookA A.1 n with
      | some x => exact h
      | none =>
        have hp := insA_perm A.1 (n, [], [])
        have hu : usedB (insA A.1 (n, [], [])) = usedB A.1 := by
          rw [usedB_ins]
          simp [sec]
        refine ⟨fun x hx => ?_, by simp only; rw [hu]; exact h.used, h.fits, h.room, h.ops, ?_, h.left, h.keep, fun x hx => ?_⟩
        · rcases List.mem_cons.1 (hp.mem_iff.1 hx) with rfl | hx
          · exact Nat.le_refl _
          · exact h.ok x hx
        · simp only [hp.length_eq, List.length_cons]
          omega
        · rcases List.mem_cons.1 (hp.mem_iff.1 hx) with rfl | hx
          · simpa using h2
          · exact h.names x hx

theorem beginA_len (l : List Ab) (s : Ds) : (beginA l s).1.length = l.length := by
  unfold beginA
  split
  · rfl
  · split
    · rfl
    · exact crashA_len _ _ _

section
variable {w : World} {fp : List Nat} {p : Nat} {l : List Ab} {s : Ds}

set_option maxRecDepth 100000 in
set_option maxHeartbeats 4000000 in
theorem Dk.create (h : Dk w fp p l s) (hn : s.ops ≤ 1000000) (nm : ByteArray) (hnm : nm.size ≤ maxLen) : Calls Tryz.prog 25 #[.pointer (some ⟨p, 0, none⟩), .string nm] w fun e w' =>
    e = .returned (.int .i64 (createA (beginA l s) nm.data.toList).1) ∧ Outc w w' fp p (createA (beginA l s) nm.data.toList).2 := by
  obtain ⟨bm, kv, fs, d, rfl, rfl, ho⟩ := h
  have hok := beginA_ok ho
  have hcok := createA_ok hok nm.data.toList (by rw [beginA_len, beginA_ops]; have := ho.len; omega)
  have BG := begin_any d ho hn
  have hfl : (beginA (fs.map Fl.ab) s).1.length ≤ 1000000 := by rw [beginA_len]; have := ho.len; omega
  generalize beginA (fs.map Fl.ab) s = A at BG hok hcok hfl ⊢
  have HOK := hide hok
  have HNM := hide hnm
  have MB := hide (fun W => mayBe_any nm hnm W)
  clear d ho hok
  unfold createA at hcok ⊢
  by_cases hd : A.2.down = true
  · rw [if_pos hd] at BG ⊢
    have HB := hide BG
    clear BG hcok hfl
    go_enter Tryz.func25, Tryz.ntmps25
    go_wp2_with (go_at_call 34; refine HB.out.mono ?_; rintro e w1 ⟨rfl, kv1, fs1, s1, L1⟩; have HL := hide L1; clear L1)
    go_ret
    exact ⟨rfl, HL.out.outc HOK.out⟩
  · rw [if_neg hd] at BG hcok ⊢
    have HB := hide BG
    clear BG
    cases hm : mayB nm.data.toList with
    | false =>
      rw [hm] at MB
      simp only [if_true]
      clear hcok hfl
      go_enter Tryz.func25, Tryz.ntmps25
      go_wp2_with (first | (go_at_call 34; refine HB.out.mono ?_; rintro e w1 ⟨rfl, kv1, fs1, s1, L1⟩; have HL := hide L1; clear L1) | (go_at_call 41; refine (MB.out _).mono ?_; rintro e w2 ⟨rfl, rfl⟩))
      go_ret
      exact ⟨rfl, HL.out.outc HOK.out⟩
    | true =>
      rw [hm] at MB hcok
      simp only [Bool.true_eq_false, if_false] at hcok ⊢
      cases hlk : lookA A.1 nm.data.toList with
      | some x =>
        have HLK := hide hlk
        clear hcok hlk hfl
        go_enter Tryz.func25, Tryz.ntmps25
        go_wp2_with (first | (go_at_call 34; refine HB.out.mono ?_; rintro e w1 ⟨rfl, kv1, fs1, s1, L1⟩; have c0 := L1.1.cellAt.1; have LK := L1.1.look nm HNM.out; have e1 : lookA (fs1.map Fl.ab) nm.data.toList = some x := (by have := congrArg (fun y => y.1) L1.2.1; simp only at this; rw [this]; exact HLK.out); rw [look_ab] at e1; obtain ⟨f1, hf1, _⟩ := Option.map_eq_some_iff.1 e1; rw [hf1] at LK; unfold ptrOf at LK; simp only [Option.map_some] at LK; have HL := hide L1; clear L1 e1 hf1) | (go_at_call 41; refine (MB.out _).mono ?_; rintro e w2 ⟨rfl, rfl⟩))
        go_ret
        exact ⟨rfl, HL.out.outc HOK.out⟩
      | none =>
        rw [hlk] at hcok
        have HLK := hide hlk
        have HCOK := hide hcok
        have HFL := hide hfl
        clear hcok hlk hfl
        have hz : Hid (∀ (fs1 : List Fl) (s1 : Ds), (fs1.map Fl.ab, s1) = A → fs1.length < maxLen) := fun fs1 s1 e => by
          have := congrArg (fun y => y.1.length) e
          simp only [List.length_map] at this
          have h2 := HFL.out
          unfold maxLen
          omega
        go_enter Tryz.func25, Tryz.ntmps25
        go_wp2_with (first | (go_at_call 34; refine HB.out.mono ?_; rintro e w1 ⟨rfl, kv1, fs1, s1, L1⟩; have c0 := L1.1.cellAt.1; have LK := L1.1.look nm HNM.out; have e1 : lookA (fs1.map Fl.ab) nm.data.toList = none := (by have := congrArg (fun y => y.1) L1.2.1; simp only at this; rw [this]; exact HLK.out); rw [look_ab] at e1; have hf1 : look fs1 nm.data.toList = none := Option.map_eq_none_iff.1 e1; rw [hf1] at LK; unfold ptrOf at LK; simp only [Option.map_none] at LK; have hpl := L1.1.lt p (by simp [feet]); obtain ⟨D, hown, hD⟩ := L1.1.map; have HOW := hide hown; have HD := hide hD; have HF1 := hide hf1; have HL := hide L1; clear L1 e1 hf1 hown hD) | (go_at_call 41; refine (MB.out _).mono ?_; rintro e w2 ⟨rfl, rfl⟩) | (at_mapUpdate; refine wpList_mapUpdate_own _ rfl _ _ _ 53 rfl 9 90 strLaw Tryz.underlying53 ptrE bm fs1.length D rfl (HOW.out.alloc _) (hz.out fs1 s1 HL.out.2.1) _ _ (.string nm.data.toList) rfl rfl (WideMaps.keyOf_string_mk Tryz.underlying9 HNM.out) _ [] (ptrE_some _) ?_; intro w3 o3 g3; have O3 := hide o3; have G3 := hide g3; clear o3 g3))
        go_ret
        refine ⟨rfl, ?_⟩
        have q := disk_create HL.out.1 nm.data.toList HF1.out HD.out (HOW.out.tidy strLaw) O3.out (Kept.of_grown G3.out)
        have L2 : Left w2 w3 p bm kv1 fs1 kv1 (insF fs1 (newF nm.data.toList w2.heap.size)) s1 (insA A.1 (nm.data.toList, [], []), A.2) := by
          refine ⟨q.1, ?_, q.2.1, q.2.2⟩
          rw [insF_ab]
          have e1 := congrArg (fun y => y.1) HL.out.2.1
          have e2 := congrArg (fun y => y.2) HL.out.2.1
          simp only at e1 e2
          rw [e1, e2]
          rfl
        exact (Left.trans HL.out L2).outc HCOK.out

theorem Dk.crash (h : Dk w fp p l s) (hn : s.ops ≤ 1048576) (u : Value) (ks : List Bool) (hu : IsK w u ks) (hux : ks ≠ [] → ∀ x ∈ own u, x ∉ fp) (hkl : ks.length ≤ 1099511627776) :
    Calls Tryz.prog 91 #[.pointer (some ⟨p, 0, none⟩), u] w fun e w' => e = .returned (.tuple #[]) ∧ Outc w w' fp p (crashA ks l s) := by
  obtain ⟨bm, kv, fs, d, rfl, rfl, ho⟩ := h
  refine (crash_all d ho hn u ks hu hux hkl).mono ?_
  rintro e w' ⟨rfl, kv1, fs1, s1, L⟩
  exact ⟨rfl, L.outc (crashA_ok ho)⟩

/-- What Arm leaves. -/
def armA (l : List Ab) (s : Ds) (n : Int) (ks : List Bool) : List Ab × Ds := if n < 1 then (l, { s with left := 0, keep := [] }) else (l, { s with left := n, keep := ks })

theorem Dk.arm (h : Dk w fp p l s) (n : Int) (hn : n ≤ 9223372036854775807) (u : Value) (ks : List Bool) (hu : IsK w u ks) (hux : ks ≠ [] → ∀ x ∈ own u, x ∉ fp) (hkl : ks.length ≤ 1099511627776) :
    Calls Tryz.prog 22 #[.pointer (some ⟨p, 0, none⟩), .int .i64 n, u] w fun e w' => e = .returned (.tuple #[]) ∧ Outc w w' fp p (armA l s n ks) := by
  obtain ⟨bm, kv, fs, d, rfl, rfl, ho⟩ := h
  unfold armA
  by_cases h1 : n < 1
  · rw [if_pos h1]
    refine (arm_no d n h1 u).mono ?_
    rintro e w' ⟨rfl, d1, k1⟩
    exact ⟨rfl, _, ⟨bm, _, fs, d1, rfl, rfl, ⟨ho.ok, ho.used, ho.fits, ho.room, ho.ops, ho.len, ⟨by simp, by simp⟩, by simp, ho.names⟩⟩, k1.mono (by simp [feet]), Newly.of_sub feet_sub_nil⟩
  · rw [if_neg h1]
    refine (arm_go d n (by omega) u ks hu (fun hne x hx e => hux hne x hx (by simp [feet, e])) hkl).mono ?_
    rintro e w' ⟨rfl, kv1, d1, k1, n1⟩
    refine ⟨rfl, _, ⟨bm, kv1, fs, d1, rfl, rfl, ⟨ho.ok, ho.used, ho.fits, ho.room, ho.ops, ho.len, ⟨by simp only; omega, hn⟩, hkl, ho.names⟩⟩, k1.mono (by simp [feet]), fun x hx => ?_⟩
    simp only [feet, List.mem_cons, List.mem_append] at hx ⊢
    rcases hx with hx | hx | hx | hx
    · exact .inl (.inl hx)
    · exact .inl (.inr (.inl hx))
    · exact .inr (n1 x hx)
    · exact .inl (.inr (.inr (.inr hx)))

theorem Dk.restart (h : Dk w fp p l s) : Calls Tryz.prog 24 #[.pointer (some ⟨p, 0, none⟩)] w fun e w' => e = .returned (.tuple #[]) ∧ Outc w w' fp p (l, { s with down := false }) := by
  obtain ⟨bm, kv, fs, d, rfl, rfl, ho⟩ := h
  refine (restart_any d).mono ?_
  rintro e w' ⟨rfl, d1, k1⟩
  exact ⟨rfl, _, ⟨bm, kv, fs, d1, rfl, rfl, ⟨ho.ok, ho.used, ho.fits, ho.room, ho.ops, ho.len, ho.left, ho.keep, ho.names⟩⟩, k1.mono (by simp [feet]), Newly.refl _ _⟩

theorem Dk.down (h : Dk w fp p l s) : Calls Tryz.prog 23 #[.pointer (some ⟨p, 0, none⟩)] w fun e w' => e = .returned (.bool s.down) ∧ w' = w := by
  obtain ⟨bm, kv, fs, d, rfl, rfl, ho⟩ := h
  exact down_any d
theorem Dk.used (h : Dk w fp p l s) : Calls Tryz.prog 21 #[.pointer (some ⟨p, 0, none⟩)] w fun e w' => e = .returned (.int .i64 s.used) ∧ w' = w := by
  obtain ⟨bm, kv, fs, d, rfl, rfl, ho⟩ := h
  exact used_any d
end

/-- A new disk. -/
theorem new_dk (room : Int) (hr : room ≤ 67108864) (w : World) : Calls Tryz.prog 12 #[.int .i64 room] w fun e w' => e = .returned (.pointer (some ⟨w.heap.size + 1, 0, none⟩)) ∧
    ∃ fp, Dk w' fp (w.heap.size + 1) [] { room := max room 0, used := 0, ops := 0, down := false, left := 0, keep := [] } ∧ Below w.heap.size w w' ∧ ∀ x ∈ fp, w.heap.size ≤ x := by
  refine (new_any room w).mono ?_
  rintro e w' ⟨rfl, d, b⟩
  refine ⟨rfl, _, ⟨_, _, _, d, rfl, rfl, ⟨by simp [okAb], rfl, by simp only; omega, by simp only; omega, by simp, by simp, ⟨by simp, by simp⟩, by simp, by simp⟩⟩, b, ?_⟩
  intro x hx
  simp [feet, own, Value.ownBlock] at hx
  omega

end Go.Proofs.YtgpbanjammipiaaGreatDoor
