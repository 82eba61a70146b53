/-
  Proved: for every number of frames, every slice of steps and every key, LruTells returns true and leaves them as they were (keys come, and go, as the document says: every answer, the keys in their order, and what is there). No condition.
-/
import Derived.WalkKit
import Derived.ProofKit
import Derived.OpenShut
import Derived.ShutString
import Derived.Test.YtokodmeabchmjaaLBoth
namespace Go.Proofs.Ytokodmeabchmjaa.lruTells
open Go.ChangeShapes Go.WideShapes Go.ChangeAt Go.RowKit
open Go.ChangeMaps (open_string shut_string)
set_option linter.unusedVariables false

theorem own : ownKnob Try.prog.godebug = none := by kernel_rfl
theorem laidOut : laidOutB Try.prog = true := by kernel_rfl

section
variable {w0 w : World} {l : List (ByteArray × Nat)}

/-- A step that came in. -/
theorem step_at {a : Option Addr} {len cap : Nat} {ps : List (Int × ByteArray)} (h : IsP w (.slice a len cap) ps) (i : Nat) (hi : i < ps.length) : ∃ b off, a = some ⟨b, off, none⟩ ∧
    (∀ w', Below w.heap.size w w' → w'.cell? ⟨b, off + i * 2, none⟩ = some (.int .i64 ps[i].1) ∧ w'.cell? ⟨b, off + i * 2 + 1, none⟩ = some (.string ps[i].2)) ∧ (Lit.int .i64 ps[i].1).wf = true ∧ ps[i].2.size ≤ maxLen := by
  obtain ⟨a', cap', e, h1, h2, h3⟩ := h
  simp only [Value.slice.injEq] at e
  obtain ⟨rfl, _, _⟩ := e
  cases a with
  | none => rw [h1 rfl] at hi; simp at hi
  | some x =>
    obtain ⟨b, off, spot⟩ := x
    obtain ⟨u0, u1⟩ := h2 _ rfl i hi
    have hspot : spot = none := by simpa [Addr.add] using World.cell?_spot (h2 _ rfl 0 (by omega)).1
    subst hspot
    rw [Addr.add_lit] at u0 u1
    exact ⟨b, off, rfl, fun w' hb => ⟨(Kept.of_below (fp := []) hb).cell u0 (by simp), (Kept.of_below (fp := []) hb).cell (by rw [Nat.add_assoc]; exact u1) (by simp)⟩, h3 _ (List.getElem_mem hi)⟩

def PinsB (b : Nat) (l : List (ByteArray × Nat)) : Prop := ∀ x ∈ l, x.2 ≤ b

theorem look_mem {k : ByteArray} {n : Nat} (h : lookA l k = some n) : (k, n) ∈ l := by
  unfold lookA at h
  obtain ⟨x, hx, rfl⟩ := Option.map_eq_some_iff.1 h
  have h1 := List.mem_of_find?_eq_some hx
  have h2 := List.find?_some hx
  simp at h2
  rw [← h2]
  exact h1
theorem del_len {k : ByteArray} {n : Nat} (h : (k, n) ∈ l) : (delA l k).length + 1 ≤ l.length := by
  obtain ⟨ds, rs, rfl⟩ := List.append_of_mem h
  unfold delA
  rw [List.filter_append, List.filter_cons]
  simp
  have h1 := List.length_filter_le (fun x : ByteArray × Nat => !decide (x.1 = k)) ds
  have h2 := List.length_filter_le (fun x : ByteArray × Nat => !decide (x.1 = k)) rs
  omega
theorem del_sub (k : ByteArray) : ∀ x ∈ delA l k, x ∈ l := fun x hx => (List.mem_filter.1 hx).1
theorem first_mem {k : ByteArray} (h : firstA l = some k) : ∃ n, (k, n) ∈ l := by
  unfold firstA at h
  obtain ⟨x, hx, rfl⟩ := Option.map_eq_some_iff.1 h
  exact ⟨x.2, List.mem_of_find?_eq_some hx⟩

theorem use_len {fr : Int} {b : Nat} (hl : (l.length : Int) ≤ fr) (hp : PinsB b l) (k : ByteArray) : ((useA fr l k).2.2.length : Int) ≤ fr ∧ PinsB (b + 1) (useA fr l k).2.2 := by
  unfold useA
  cases hq : lookA l k with
  | some n =>
    have h1 := del_len (look_mem hq)
    refine ⟨by simp; omega, fun x hx => ?_⟩
    rcases List.mem_append.1 hx with hx | hx
    · exact Nat.le_succ_of_le (hp x (del_sub k x hx))
    · simp at hx
      rw [hx]
      exact Nat.le_succ_of_le (hp _ (look_mem hq))
  | none =>
    show ((if fr ≤ (l.length : Int) then _ else _ : Option ByteArray × Int × List (ByteArray × Nat)).2.2.length : Int) ≤ fr ∧ PinsB (b + 1) (if fr ≤ (l.length : Int) then _ else _ : Option ByteArray × Int × List (ByteArray × Nat)).2.2
    split
    · cases hf : firstA l with
      | none => exact ⟨hl, fun x hx => Nat.le_succ_of_le (hp x hx)⟩
      | some k0 =>
        obtain ⟨n, hn⟩ := first_mem hf
        have h1 := del_len hn
        refine ⟨by simp; omega, fun x hx => ?_⟩
        rcases List.mem_append.1 hx with hx | hx
        · exact Nat.le_succ_of_le (hp x (del_sub k0 x hx))
        · simp at hx
          rw [hx]
          exact Nat.zero_le _
    · refine ⟨by simp; omega, fun x hx => ?_⟩
      rcases List.mem_append.1 hx with hx | hx
      · exact Nat.le_succ_of_le (hp x hx)
      · simp at hx
        rw [hx]
        exact Nat.zero_le _

theorem set_len {b n : Nat} (hp : PinsB b l) (k : ByteArray) (hn : n ≤ b + 1) : (setA l k n).length = l.length ∧ PinsB (b + 1) (setA l k n) := by
  refine ⟨by simp [setA], fun x hx => ?_⟩
  obtain ⟨y, hy, rfl⟩ := List.mem_map.1 hx
  split
  · exact hn
  · exact Nat.le_succ_of_le (hp y hy)

theorem pin_len {fr : Int} {b : Nat} (hl : (l.length : Int) ≤ fr) (hp : PinsB b l) (k : ByteArray) : ((pinA l k).2.length : Int) ≤ fr ∧ PinsB (b + 1) (pinA l k).2 := by
  unfold pinA
  cases hq : lookA l k with
  | none => exact ⟨hl, fun x hx => Nat.le_succ_of_le (hp x hx)⟩
  | some n =>
    have := set_len hp k (n := n + 1) (Nat.succ_le_succ (hp _ (look_mem hq)))
    exact ⟨by rw [this.1]; exact hl, this.2⟩
theorem unpin_len {fr : Int} {b : Nat} (hl : (l.length : Int) ≤ fr) (hp : PinsB b l) (k : ByteArray) : ((unpinA l k).2.length : Int) ≤ fr ∧ PinsB (b + 1) (unpinA l k).2 := by
  unfold unpinA
  cases hq : lookA l k with
  | none => exact ⟨hl, fun x hx => Nat.le_succ_of_le (hp x hx)⟩
  | some n =>
    have := set_len hp k (n := n - 1) (by have := hp _ (look_mem hq); simp at this; omega)
    show ((if n = 0 then _ else _ : Int × List (ByteArray × Nat)).2.length : Int) ≤ fr ∧ PinsB (b + 1) (if n = 0 then _ else _ : Int × List (ByteArray × Nat)).2
    split
    · exact ⟨hl, fun x hx => Nat.le_succ_of_le (hp x hx)⟩
    · exact ⟨by rw [this.1]; exact hl, this.2⟩
theorem drop_len {fr : Int} {b : Nat} (hl : (l.length : Int) ≤ fr) (hp : PinsB b l) (k : ByteArray) : ((dropA l k).2.length : Int) ≤ fr ∧ PinsB (b + 1) (dropA l k).2 := by
  unfold dropA
  cases hq : lookA l k with
  | none => exact ⟨hl, fun x hx => Nat.le_succ_of_le (hp x hx)⟩
  | some n =>
    have := del_len (look_mem hq)
    show ((if n = 0 then _ else _ : Int × List (ByteArray × Nat)).2.length : Int) ≤ fr ∧ PinsB (b + 1) (if n = 0 then _ else _ : Int × List (ByteArray × Nat)).2
    split
    · exact ⟨by show ((delA l k).length : Int) ≤ fr; omega, fun x hx => Nat.le_succ_of_le (hp x (del_sub k x hx))⟩
    · exact ⟨hl, fun x hx => Nat.le_succ_of_le (hp x hx)⟩
end

/-- What is known of the two between two rounds. -/
structure Inv (w0 w : World) (p r : Nat) (fr : Int) (N : Nat) (l : List (ByteArray × Nat)) (i : Nat) : Prop where
  at_ : Two w0 w p r fr N l l
  len : (l.length : Int) ≤ fr
  n : N ≤ i
  pins : PinsB i l


/-! ### The walk -/
set_option maxRecDepth 100000 in
set_option maxHeartbeats 4000000 in
theorem walk (a0 : Int) (a1 : Option Addr) (len1 cap1 : Nat) (ps1 : List (Int × ByteArray)) (s2 : ByteArray) (w : World) (w0 : (Lit.int .i64 a0).wf = true) (i1 : IsP w (.slice a1 len1 cap1) ps1) (l1 : ps1.length = len1) (m1 : len1 ≤ maxLen) (w2 : s2.size ≤ maxLen) :
    Calls Try.prog 3 #[.int .i64 a0, .slice a1 len1 cap1, .string s2] w fun e w' => e = .returned (.bool true) ∧ Below w.heap.size w w' := by
  have SH := hide (shown_any w)
  have HP := hide i1
  have HL := hide l1
  have HM := hide m1
  have HK2 := hide w2
  have hmin : ∀ (ts : Array TypeId) (t : TypeId) (W : World), (Builtin.min_ ts t #[.int .i64 a0, .int .i64 30]).run Try.prog W = .ok (.int .i64 (min a0 30)) W := by
    intro ts t W
    rw [run_min_int2]
    congr 2
    split <;> omega
  obtain ⟨M, hM⟩ : ∃ M, M = min a0 30 := ⟨_, rfl⟩
  rw [← hM] at hmin
  have HFR : Hid (1 ≤ max M 1 ∧ max M 1 ≤ 30) := by show _ ∧ _; omega
  clear w0 i1 l1 m1 w2 hM
  go_enter Try.func3, Try.ntmps3
  go_wp2_with (go_at_call 10; refine SH.out.mono ?_; rintro e w1 ⟨rfl, b1'⟩; have B1 := hide b1'; clear b1')
  clear SH
  refine (Two.new M B1.out).mono ?_
  rintro e w2 ⟨p, rfl, hn⟩
  have HN := hide hn
  clear hn
  go_wp2_with fail
  refine HN.out.mono ?_
  rintro e w3 ⟨r, rfl, t3⟩
  have T3 := hide t3
  clear t3 HN
  generalize max M 1 = fr at T3 HFR
  go_wp2_with fail
  go_loopw [10] (fun v wr => ∃ (i N : Nat) (l : List (ByteArray × Nat)), i ≤ len1 ∧ i ≤ 100 ∧ v = .int .i64 i ∧ Hid (Inv w wr p r fr N l i)) (fun v _ => 100 - numOf v)
  case atStart => exact ⟨0, 0, [], Nat.zero_le _, Nat.zero_le _, rfl, ⟨T3.out, by simp; have := HFR.out; omega, Nat.le_refl _, fun x hx => by simp at hx⟩⟩
  case round =>
    obtain ⟨i, N, l, h1, h2, rfl, HI⟩ := hrel
    by_cases hjl : i < len1 ∧ i < 100
    · obtain ⟨hja, hjb⟩ := hjl
      have hja2 : (i : Int) < (len1 : Int) := by omega
      have hjb2 : (i : Int) < 100 := by omega
      have hix : i < ps1.length := by rw [HL.out]; exact hja
      obtain ⟨b, off, rfl, hc, hwf, hsz⟩ := step_at HP.out i hix
      have HC := hide hc
      obtain ⟨q0, q1⟩ := hc _ HI.out.at_.bel
      generalize ps1[i].1 = kd at *
      generalize ps1[i].2 = ky at *
      have KO := hide (show kS.ok ky from hsz)
      have KO2 := hide (show kS.ok s2 from HK2.out)
      clear hc hsz hwf hix
      have hkd : kd = 0 ∨ kd = 1 ∨ kd = 2 ∨ kd = 3 ∨ kd = 4 ∨ kd = 5 ∨ (kd ≠ 0 ∧ kd ≠ 1 ∧ kd ≠ 2 ∧ kd ≠ 3 ∧ kd ≠ 4 ∧ kd ≠ 5) := by omega
      rcases hkd with rfl | rfl | rfl | rfl | rfl | rfl | ⟨hk0, hk1, hk2, hk3, hk4, hk5⟩
      · have hl30 : l.length ≤ 30 := by have := HI.out.len; have := HFR.out.2; omega
        have hp := HI.out.pins
        have U1 := hide (HI.out.at_.callL (fun fp h => S.use_any h (by have := HI.out.n; omega) ky KO.out))
        obtain ⟨gs, hgs⟩ := goneV_str (useA fr l ky).1
        rw [hgs] at U1
        have HGS := hide hgs
        clear hgs
        go_wp2_with fail
        refine U1.out.mono ?_
        rintro e w5 ⟨rfl, d5⟩
        have U2 := hide (d5.callR (fun fq h => RefK.use h (by omega) HI.out.at_.nodup HI.out.len ky))
        rw [HGS.out] at U2
        clear d5 U1
        go_wp2_with fail
        refine U2.out.mono ?_
        rintro e w6 ⟨rfl, d6⟩
        have LN := hide (And.intro (use_len HI.out.len hp ky).1 (And.intro (use_len HI.out.len hp ky).2 (show N + 1 ≤ i + 1 from Nat.succ_le_succ HI.out.n)))
        clear HGS U2
        generalize (useA fr l ky).1.isSome = gi at *
        generalize (useA fr l ky).2.1 = er at *
        generalize (useA fr l ky).2.2 = l' at *
        have D6 := hide d6
        clear d6 hp hl30
        obtain ⟨N', hN'⟩ : ∃ N', N' = N + 1 := ⟨_, rfl⟩
        rw [← hN'] at D6 LN
        clear hN'
        go_wp2_with fail
        obtain ⟨lv, hlv, il⟩ := D6.out.drew.row
        have IL := hide il
        have KY := hide (D6.out.drew.keys sortsTo49 (by omega) (by have := LN.out.1; have := HFR.out.2; omega))
        have LS : Hid (l'.length ≤ 1000) := by have := LN.out.1; have := HFR.out.2; show _ ≤ _; omega
        clear il
        go_region_held (fun w' => w'.cell? ⟨r, 1, none⟩ = some lv) (assumption) (first | (go_at_call 22; refine KY.out.mono ?_; rintro e w7 ⟨v7, rfl, iv7, d7, b7⟩; have hlv7 := (Kept.of_below (fp := []) b7).cell hlv (by simp); have IV7 := hide iv7; have D7 := hide d7; have IL7 := hide (IL.out.kept (Kept.of_below (fp := []) b7) (by simp)); clear iv7 d7 b7) | (go_at_call 21; refine (same_two IV7.out IL7.out (Nat.le_trans LS.out (by omega))).mono ?_; rintro e w8 ⟨rfl, b8⟩; have hlv8 := (Kept.of_below (fp := []) b8).cell hlv7 (by simp); have D8 := hide (D7.out.below b8); clear b8) | (go_at_call 23; refine (D8.out.has s2 KO2.out).mono ?_; rintro e w9 ⟨rfl, d9, hk9⟩; have hlv9 := hk9 _ _ hlv8; have D9 := hide d9; clear d9 hk9) | (go_at_call 24; refine (D9.out.hasR LS.out s2).mono ?_; rintro e w10 ⟨rfl, rfl⟩))
        all_goals
          go_wp2_with fail
          go_roundw
          case rel => exact ⟨i + 1, N', l', by omega, by omega, by go_num, ⟨D9.out, LN.out.1, LN.out.2.2, LN.out.2.1⟩⟩
          case measure => simp [numOf]; omega
      · have hl30 : l.length ≤ 30 := by have := HI.out.len; have := HFR.out.2; omega
        have hp := HI.out.pins
        have U1 := hide (HI.out.at_.callL (fun fp h => S.use_any h (by have := HI.out.n; omega) ky KO.out))
        obtain ⟨gs, hgs⟩ := goneV_str (useA fr l ky).1
        rw [hgs] at U1
        have HGS := hide hgs
        clear hgs
        go_wp2_with fail
        refine U1.out.mono ?_
        rintro e w5 ⟨rfl, d5⟩
        have U2 := hide (d5.callR (fun fq h => RefK.use h (by omega) HI.out.at_.nodup HI.out.len ky))
        rw [HGS.out] at U2
        clear d5 U1
        go_wp2_with fail
        refine U2.out.mono ?_
        rintro e w6 ⟨rfl, d6⟩
        have LN := hide (And.intro (use_len HI.out.len hp ky).1 (And.intro (use_len HI.out.len hp ky).2 (show N + 1 ≤ i + 1 from Nat.succ_le_succ HI.out.n)))
        clear HGS U2
        generalize (useA fr l ky).1.isSome = gi at *
        generalize (useA fr l ky).2.1 = er at *
        generalize (useA fr l ky).2.2 = l' at *
        have D6 := hide d6
        clear d6 hp hl30
        obtain ⟨N', hN'⟩ : ∃ N', N' = N + 1 := ⟨_, rfl⟩
        rw [← hN'] at D6 LN
        clear hN'
        go_wp2_with fail
        obtain ⟨lv, hlv, il⟩ := D6.out.drew.row
        have IL := hide il
        have KY := hide (D6.out.drew.keys sortsTo49 (by omega) (by have := LN.out.1; have := HFR.out.2; omega))
        have LS : Hid (l'.length ≤ 1000) := by have := LN.out.1; have := HFR.out.2; show _ ≤ _; omega
        clear il
        go_region_held (fun w' => w'.cell? ⟨r, 1, none⟩ = some lv) (assumption) (first | (go_at_call 22; refine KY.out.mono ?_; rintro e w7 ⟨v7, rfl, iv7, d7, b7⟩; have hlv7 := (Kept.of_below (fp := []) b7).cell hlv (by simp); have IV7 := hide iv7; have D7 := hide d7; have IL7 := hide (IL.out.kept (Kept.of_below (fp := []) b7) (by simp)); clear iv7 d7 b7) | (go_at_call 21; refine (same_two IV7.out IL7.out (Nat.le_trans LS.out (by omega))).mono ?_; rintro e w8 ⟨rfl, b8⟩; have hlv8 := (Kept.of_below (fp := []) b8).cell hlv7 (by simp); have D8 := hide (D7.out.below b8); clear b8) | (go_at_call 23; refine (D8.out.has s2 KO2.out).mono ?_; rintro e w9 ⟨rfl, d9, hk9⟩; have hlv9 := hk9 _ _ hlv8; have D9 := hide d9; clear d9 hk9) | (go_at_call 24; refine (D9.out.hasR LS.out s2).mono ?_; rintro e w10 ⟨rfl, rfl⟩))
        all_goals
          go_wp2_with fail
          go_roundw
          case rel => exact ⟨i + 1, N', l', by omega, by omega, by go_num, ⟨D9.out, LN.out.1, LN.out.2.2, LN.out.2.1⟩⟩
          case measure => simp [numOf]; omega
      · have hl30 : l.length ≤ 30 := by have := HI.out.len; have := HFR.out.2; omega
        have hp := HI.out.pins
        have U1 := hide (HI.out.at_.callL (fun fp h => S.use_any h (by have := HI.out.n; omega) ky KO.out))
        obtain ⟨gs, hgs⟩ := goneV_str (useA fr l ky).1
        rw [hgs] at U1
        have HGS := hide hgs
        clear hgs
        go_wp2_with fail
        refine U1.out.mono ?_
        rintro e w5 ⟨rfl, d5⟩
        have U2 := hide (d5.callR (fun fq h => RefK.use h (by omega) HI.out.at_.nodup HI.out.len ky))
        rw [HGS.out] at U2
        clear d5 U1
        go_wp2_with fail
        refine U2.out.mono ?_
        rintro e w6 ⟨rfl, d6⟩
        have LN := hide (And.intro (use_len HI.out.len hp ky).1 (And.intro (use_len HI.out.len hp ky).2 (show N + 1 ≤ i + 1 from Nat.succ_le_succ HI.out.n)))
        clear HGS U2
        generalize (useA fr l ky).1.isSome = gi at *
        generalize (useA fr l ky).2.1 = er at *
        generalize (useA fr l ky).2.2 = l' at *
        have D6 := hide d6
        clear d6 hp hl30
        obtain ⟨N', hN'⟩ : ∃ N', N' = N + 1 := ⟨_, rfl⟩
        rw [← hN'] at D6 LN
        clear hN'
        go_wp2_with fail
        obtain ⟨lv, hlv, il⟩ := D6.out.drew.row
        have IL := hide il
        have KY := hide (D6.out.drew.keys sortsTo49 (by omega) (by have := LN.out.1; have := HFR.out.2; omega))
        have LS : Hid (l'.length ≤ 1000) := by have := LN.out.1; have := HFR.out.2; show _ ≤ _; omega
        clear il
        go_region_held (fun w' => w'.cell? ⟨r, 1, none⟩ = some lv) (assumption) (first | (go_at_call 22; refine KY.out.mono ?_; rintro e w7 ⟨v7, rfl, iv7, d7, b7⟩; have hlv7 := (Kept.of_below (fp := []) b7).cell hlv (by simp); have IV7 := hide iv7; have D7 := hide d7; have IL7 := hide (IL.out.kept (Kept.of_below (fp := []) b7) (by simp)); clear iv7 d7 b7) | (go_at_call 21; refine (same_two IV7.out IL7.out (Nat.le_trans LS.out (by omega))).mono ?_; rintro e w8 ⟨rfl, b8⟩; have hlv8 := (Kept.of_below (fp := []) b8).cell hlv7 (by simp); have D8 := hide (D7.out.below b8); clear b8) | (go_at_call 23; refine (D8.out.has s2 KO2.out).mono ?_; rintro e w9 ⟨rfl, d9, hk9⟩; have hlv9 := hk9 _ _ hlv8; have D9 := hide d9; clear d9 hk9) | (go_at_call 24; refine (D9.out.hasR LS.out s2).mono ?_; rintro e w10 ⟨rfl, rfl⟩))
        all_goals
          go_wp2_with fail
          go_roundw
          case rel => exact ⟨i + 1, N', l', by omega, by omega, by go_num, ⟨D9.out, LN.out.1, LN.out.2.2, LN.out.2.1⟩⟩
          case measure => simp [numOf]; omega
      · have hl30 : l.length ≤ 30 := by have := HI.out.len; have := HFR.out.2; omega
        have hp := HI.out.pins
        have U1 := hide (HI.out.at_.callL (fun fp h => S.pin_any h ky KO.out (fun n hn => by have := hp _ (look_mem hn); simp at this; omega)))
        go_wp2_with fail
        refine U1.out.mono ?_
        rintro e w5 ⟨rfl, d5⟩
        have U2 := hide (d5.callR (fun fq h => RefK.pin h (by omega) HI.out.at_.nodup (fun x hx => by have := hp x hx; omega) ky))
        clear d5 U1
        go_wp2_with fail
        refine U2.out.mono ?_
        rintro e w6 ⟨rfl, d6⟩
        have LN := hide (And.intro (pin_len HI.out.len hp ky).1 (And.intro (pin_len HI.out.len hp ky).2 (Nat.le_succ_of_le HI.out.n)))
        generalize (pinA l ky).1 = er at *
        generalize (pinA l ky).2 = l' at *
        have D6 := hide d6
        clear d6 U2 hp hl30
        obtain ⟨N', hN'⟩ : ∃ N', N' = N := ⟨_, rfl⟩
        rw [← hN'] at D6 LN
        clear hN'
        go_wp2_with fail
        obtain ⟨lv, hlv, il⟩ := D6.out.drew.row
        have IL := hide il
        have KY := hide (D6.out.drew.keys sortsTo49 (by omega) (by have := LN.out.1; have := HFR.out.2; omega))
        have LS : Hid (l'.length ≤ 1000) := by have := LN.out.1; have := HFR.out.2; show _ ≤ _; omega
        clear il
        go_region_held (fun w' => w'.cell? ⟨r, 1, none⟩ = some lv) (assumption) (first | (go_at_call 22; refine KY.out.mono ?_; rintro e w7 ⟨v7, rfl, iv7, d7, b7⟩; have hlv7 := (Kept.of_below (fp := []) b7).cell hlv (by simp); have IV7 := hide iv7; have D7 := hide d7; have IL7 := hide (IL.out.kept (Kept.of_below (fp := []) b7) (by simp)); clear iv7 d7 b7) | (go_at_call 21; refine (same_two IV7.out IL7.out (Nat.le_trans LS.out (by omega))).mono ?_; rintro e w8 ⟨rfl, b8⟩; have hlv8 := (Kept.of_below (fp := []) b8).cell hlv7 (by simp); have D8 := hide (D7.out.below b8); clear b8) | (go_at_call 23; refine (D8.out.has s2 KO2.out).mono ?_; rintro e w9 ⟨rfl, d9, hk9⟩; have hlv9 := hk9 _ _ hlv8; have D9 := hide d9; clear d9 hk9) | (go_at_call 24; refine (D9.out.hasR LS.out s2).mono ?_; rintro e w10 ⟨rfl, rfl⟩))
        all_goals
          go_wp2_with fail
          go_roundw
          case rel => exact ⟨i + 1, N', l', by omega, by omega, by go_num, ⟨D9.out, LN.out.1, LN.out.2.2, LN.out.2.1⟩⟩
          case measure => simp [numOf]; omega
      · have hl30 : l.length ≤ 30 := by have := HI.out.len; have := HFR.out.2; omega
        have hp := HI.out.pins
        have U1 := hide (HI.out.at_.callL (fun fp h => S.unpin_any h ky KO.out (fun n hn => by have := hp _ (look_mem hn); simp at this; omega)))
        go_wp2_with fail
        refine U1.out.mono ?_
        rintro e w5 ⟨rfl, d5⟩
        have U2 := hide (d5.callR (fun fq h => RefK.unpin h (by omega) HI.out.at_.nodup (fun x hx => by have := hp x hx; omega) ky))
        clear d5 U1
        go_wp2_with fail
        refine U2.out.mono ?_
        rintro e w6 ⟨rfl, d6⟩
        have LN := hide (And.intro (unpin_len HI.out.len hp ky).1 (And.intro (unpin_len HI.out.len hp ky).2 (Nat.le_succ_of_le HI.out.n)))
        generalize (unpinA l ky).1 = er at *
        generalize (unpinA l ky).2 = l' at *
        have D6 := hide d6
        clear d6 U2 hp hl30
        obtain ⟨N', hN'⟩ : ∃ N', N' = N := ⟨_, rfl⟩
        rw [← hN'] at D6 LN
        clear hN'
        go_wp2_with fail
        obtain ⟨lv, hlv, il⟩ := D6.out.drew.row
        have IL := hide il
        have KY := hide (D6.out.drew.keys sortsTo49 (by omega) (by have := LN.out.1; have := HFR.out.2; omega))
        have LS : Hid (l'.length ≤ 1000) := by have := LN.out.1; have := HFR.out.2; show _ ≤ _; omega
        clear il
        go_region_held (fun w' => w'.cell? ⟨r, 1, none⟩ = some lv) (assumption) (first | (go_at_call 22; refine KY.out.mono ?_; rintro e w7 ⟨v7, rfl, iv7, d7, b7⟩; have hlv7 := (Kept.of_below (fp := []) b7).cell hlv (by simp); have IV7 := hide iv7; have D7 := hide d7; have IL7 := hide (IL.out.kept (Kept.of_below (fp := []) b7) (by simp)); clear iv7 d7 b7) | (go_at_call 21; refine (same_two IV7.out IL7.out (Nat.le_trans LS.out (by omega))).mono ?_; rintro e w8 ⟨rfl, b8⟩; have hlv8 := (Kept.of_below (fp := []) b8).cell hlv7 (by simp); have D8 := hide (D7.out.below b8); clear b8) | (go_at_call 23; refine (D8.out.has s2 KO2.out).mono ?_; rintro e w9 ⟨rfl, d9, hk9⟩; have hlv9 := hk9 _ _ hlv8; have D9 := hide d9; clear d9 hk9) | (go_at_call 24; refine (D9.out.hasR LS.out s2).mono ?_; rintro e w10 ⟨rfl, rfl⟩))
        all_goals
          go_wp2_with fail
          go_roundw
          case rel => exact ⟨i + 1, N', l', by omega, by omega, by go_num, ⟨D9.out, LN.out.1, LN.out.2.2, LN.out.2.1⟩⟩
          case measure => simp [numOf]; omega
      · have hl30 : l.length ≤ 30 := by have := HI.out.len; have := HFR.out.2; omega
        have hp := HI.out.pins
        have U1 := hide (HI.out.at_.callL (fun fp h => S.drop_any h ky KO.out))
        go_wp2_with fail
        refine U1.out.mono ?_
        rintro e w5 ⟨rfl, d5⟩
        have U2 := hide (d5.callR (fun fq h => RefK.drop h (by omega) HI.out.at_.nodup (fun x hx => by have := hp x hx; omega) ky))
        clear d5 U1
        go_wp2_with fail
        refine U2.out.mono ?_
        rintro e w6 ⟨rfl, d6⟩
        have LN := hide (And.intro (drop_len HI.out.len hp ky).1 (And.intro (drop_len HI.out.len hp ky).2 (Nat.le_succ_of_le HI.out.n)))
        generalize (dropA l ky).1 = er at *
        generalize (dropA l ky).2 = l' at *
        have D6 := hide d6
        clear d6 U2 hp hl30
        obtain ⟨N', hN'⟩ : ∃ N', N' = N := ⟨_, rfl⟩
        rw [← hN'] at D6 LN
        clear hN'
        go_wp2_with fail
        obtain ⟨lv, hlv, il⟩ := D6.out.drew.row
        have IL := hide il
        have KY := hide (D6.out.drew.keys sortsTo49 (by omega) (by have := LN.out.1; have := HFR.out.2; omega))
        have LS : Hid (l'.length ≤ 1000) := by have := LN.out.1; have := HFR.out.2; show _ ≤ _; omega
        clear il
        go_region_held (fun w' => w'.cell? ⟨r, 1, none⟩ = some lv) (assumption) (first | (go_at_call 22; refine KY.out.mono ?_; rintro e w7 ⟨v7, rfl, iv7, d7, b7⟩; have hlv7 := (Kept.of_below (fp := []) b7).cell hlv (by simp); have IV7 := hide iv7; have D7 := hide d7; have IL7 := hide (IL.out.kept (Kept.of_below (fp := []) b7) (by simp)); clear iv7 d7 b7) | (go_at_call 21; refine (same_two IV7.out IL7.out (Nat.le_trans LS.out (by omega))).mono ?_; rintro e w8 ⟨rfl, b8⟩; have hlv8 := (Kept.of_below (fp := []) b8).cell hlv7 (by simp); have D8 := hide (D7.out.below b8); clear b8) | (go_at_call 23; refine (D8.out.has s2 KO2.out).mono ?_; rintro e w9 ⟨rfl, d9, hk9⟩; have hlv9 := hk9 _ _ hlv8; have D9 := hide d9; clear d9 hk9) | (go_at_call 24; refine (D9.out.hasR LS.out s2).mono ?_; rintro e w10 ⟨rfl, rfl⟩))
        all_goals
          go_wp2_with fail
          go_roundw
          case rel => exact ⟨i + 1, N', l', by omega, by omega, by go_num, ⟨D9.out, LN.out.1, LN.out.2.2, LN.out.2.1⟩⟩
          case measure => simp [numOf]; omega
      · have z0 : (kd == 0) = false := by simpa using hk0
        have z1 : (kd == 1) = false := by simpa using hk1
        have z2 : (kd == 2) = false := by simpa using hk2
        have z3 : (kd == 3) = false := by simpa using hk3
        have z4 : (kd == 4) = false := by simpa using hk4
        have z5 : (kd == 5) = false := by simpa using hk5
        clear hk0 hk1 hk2 hk3 hk4 hk5
        have LN : Hid ((l.length : Int) ≤ fr ∧ PinsB (i + 1) l ∧ N ≤ i + 1) := ⟨HI.out.len, fun x hx => Nat.le_succ_of_le (HI.out.pins x hx), Nat.le_succ_of_le HI.out.n⟩
        have D6 := hide HI.out.at_
        obtain ⟨N', hN'⟩ : ∃ N', N' = N := ⟨_, rfl⟩
        obtain ⟨l', hl'⟩ : ∃ l', l' = l := ⟨_, rfl⟩
        rw [← hN', ← hl'] at D6 LN
        clear hN' hl'
        go_wp2_with fail
        obtain ⟨lv, hlv, il⟩ := D6.out.drew.row
        have IL := hide il
        have KY := hide (D6.out.drew.keys sortsTo49 (by omega) (by have := LN.out.1; have := HFR.out.2; omega))
        have LS : Hid (l'.length ≤ 1000) := by have := LN.out.1; have := HFR.out.2; show _ ≤ _; omega
        clear il
        go_region_held (fun w' => w'.cell? ⟨r, 1, none⟩ = some lv) (assumption) (first | (go_at_call 22; refine KY.out.mono ?_; rintro e w7 ⟨v7, rfl, iv7, d7, b7⟩; have hlv7 := (Kept.of_below (fp := []) b7).cell hlv (by simp); have IV7 := hide iv7; have D7 := hide d7; have IL7 := hide (IL.out.kept (Kept.of_below (fp := []) b7) (by simp)); clear iv7 d7 b7) | (go_at_call 21; refine (same_two IV7.out IL7.out (Nat.le_trans LS.out (by omega))).mono ?_; rintro e w8 ⟨rfl, b8⟩; have hlv8 := (Kept.of_below (fp := []) b8).cell hlv7 (by simp); have D8 := hide (D7.out.below b8); clear b8) | (go_at_call 23; refine (D8.out.has s2 KO2.out).mono ?_; rintro e w9 ⟨rfl, d9, hk9⟩; have hlv9 := hk9 _ _ hlv8; have D9 := hide d9; clear d9 hk9) | (go_at_call 24; refine (D9.out.hasR LS.out s2).mono ?_; rintro e w10 ⟨rfl, rfl⟩))
        all_goals
          go_wp2_with fail
          go_roundw
          case rel => exact ⟨i + 1, N', l', by omega, by omega, by go_num, ⟨D9.out, LN.out.1, LN.out.2.2, LN.out.2.1⟩⟩
          case measure => simp [numOf]; omega
    · have hex : ((i : Int) < (len1 : Int) ∧ ¬ (i : Int) < 100) ∨ ¬ (i : Int) < (len1 : Int) := by omega
      clear hjl
      rcases hex with ⟨h4, h5⟩ | h4
      all_goals
        go_wp2_with fail
        go_ret
        exact ⟨rfl, HI.out.at_.bel⟩

/-! ### The row's step -/
set_option maxRecDepth 100000 in
theorem lifted (os : Os) (started : os.Started) (H : Type) (enc : TypeId × Value → H) :
    ReturnsInHanded {} Try.checked os 3 .any (Rows.lruTellsSpec.pre6 enc Try.prog Try.f3 Rows.lruTellsRow.domain false) (Rows.lruTellsSpec.post enc Try.prog Try.f3 false true false false) := by
  refine returnsInHanded_of_change (C := Try.checked) own started (by kernel_rfl) Try.func3
    (ChangeSpec.witness6 (enc := enc) (C := Try.checked) false ⟨#[], #[.int .i64 0, .slice none 0 0, .string ⟨#[]⟩], []⟩ 8 (by kernel_rfl) (by kernel_rfl) (by kernel_rfl) (by kernel_rfl)) ?_
  intro W base args ds gs before hval0 hW hcnd _
  have hval : ∀ (j : Nat) t v, Try.f3.params[j]? = some t → args[j]? = some v → Value.okWide Try.prog W .any base t v := hval0
  have hW' := hW
  obtain ⟨p, q, hA0, hV, rfl, hfz, hnd⟩ := hW
  have hA : DataW.TrodAll enc Try.prog W 0 (fun _ => true) true Try.f3.params.toList args.toList ds p := hA0
  rw [Try.params3] at hA hval
  obtain ⟨v0, vs0, d0, ds0, p0, q0, hargs, rfl, rfl, h0, r0⟩ := trodAll_cons hA
  obtain ⟨v1, vs1, d1, ds1, p1, q1, rfl, rfl, rfl, h1, r1⟩ := trodAll_cons r0
  obtain ⟨v2, vs2, d2, ds2, p2, q2, rfl, rfl, rfl, h2, r2⟩ := trodAll_cons r1
  obtain ⟨rfl, rfl, rfl⟩ := trodAll_nil r2
  obtain rfl : args = #[v0, v1, v2] := by cases args; simp_all
  obtain ⟨rfl, rfl⟩ := trodVars_none hV
  obtain ⟨a0, rfl, rfl, rfl, w0⟩ := open_int Try.underlying3 (hval 0 3 v0 rfl rfl) h0
  obtain ⟨a1, len1, cap1, rfl⟩ := okWide_slice Try.underlying22 (hval 1 22 v1 rfl rfl)
  have k1 := h1
  have lt1 : ∀ x ∈ p1, x.block < W.heap.size := by obtain ⟨m, hm⟩ := k1; exact DataW.trod_lt m _ _ _ hm
  obtain ⟨ps1, i1, l1, m1⟩ : ∃ ps, IsP W (.slice a1 len1 cap1) ps ∧ ps.length = len1 ∧ len1 ≤ maxLen := by
    obtain ⟨fuel, hf⟩ := h1
    obtain ⟨a, len, cap, ps, hcs, h1, h2, h3⟩ := stepsIn hf
    simp [Value.cells] at hcs
    obtain ⟨rfl, rfl, rfl⟩ := hcs
    exact ⟨ps, h1, h2, h3⟩
  obtain ⟨s2, rfl, rfl, rfl, w2⟩ := open_string Try.underlying9 (hval 2 9 v2 rfl rfl) h2
  clear hA0 hval0
  refine (walk a0 a1 len1 cap1 ps1 s2 W w0 i1 l1 m1 w2).mono fun e W' ⟨he, bel⟩ => ?_
  subst he
  exact ⟨_, rfl, _, _, _, [], _, [], hW', trodAll_mk1 (shut_bool Try.underlying4 _), (trodAll_cons_mk (shut_int Try.underlying3 w0) (trodAll_cons_mk (Below.trod laidOut (by kernel_rfl) (of_decide_eq_true (by kernel_rfl)) k1 bel lt1) (trodAll_cons_mk (shut_string Try.underlying9 w2) trodAll_mk0))), rfl, bel.frame _, fun h => by cases h⟩

theorem over : Rows.lruTellsRow.holds Try.pinned (OpenSpec.ofChange Rows.lruTellsSpec) :=
  OpenClaim.holds_of_wide 3 Try.f3 rfl rfl rfl rfl rfl rfl rfl ⟨rfl, rfl, rfl, rfl, rfl⟩ rfl rfl rfl rfl rfl (by kernel_rfl) Try.func3 (by kernel_rfl)
    (of_decide_eq_true (by kernel_rfl)) (by unfold Func.isWrapper; first | (rw [if_pos (by decide +kernel)]; kernel_rfl) | (rw [if_neg (by decide +kernel)]; exact ⟨rfl, rfl⟩))
    (fun os started H enc _ => lifted os started H enc)

/-- The statement. -/
theorem proved : Rows.LruTellsSaid := over
#print axioms proved
end Go.Proofs.Ytokodmeabchmjaa.lruTells
