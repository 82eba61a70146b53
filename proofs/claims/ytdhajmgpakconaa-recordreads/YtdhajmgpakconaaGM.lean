/-
  Lemma texts, one behind the other: IRefB, IEnd, IEnd2, IDown, IDown2, ILaw2, IRefR, IEnd3. No statement of the seat is proved here.
-/
import Derived.Test.YtdhajmgpakconaaGI
import Derived.Test.YtdhajmgpakconaaGG
import Derived.Deep.RegionHeld
import Derived.Test.YtdhajmgpakconaaGL
import Derived.Test.YtdhajmgpakconaaGH
namespace Go.Proofs.Ytdhajmgpakconaa
open Go.RowKit Go.Maps

def lenR : Value → Nat | .slice _ n _ => n | _ => 0

/-- A slice of records from a place on. -/
theorem slice_fromRc (na : Option Addr) (L cap a : Nat) (ha : a ≤ L) (W : World) :
    (Instr.slice 22 (.slice na L cap) (some (.int .i64 (a : Int))) none none).run Try.prog W = .ok (.slice (if cap = a then na else na.map (·.add (a * 2))) (L - a) (cap - a)) W := by
  obtain ⟨i0, hi, hz0, hz1, hz2⟩ := info_parts Try.infoRec
  simp [Instr.slice, Instr.sliceBounds, Instr.sliceBound, asIntOf, run_underlying Try.underlying22, sizeOf, typeInfo, hi, hz1, ha]

theorem flatR_drop (es : List Rc) (k : Nat) : flatR (es.drop k) = (flatR es).drop (k * 2) := by
  induction es generalizing k with
  | nil => simp [flatR]
  | cons x es ih =>
    cases k with
    | zero => simp
    | succ k => rw [List.drop_succ_cons, flatR_cons, ih, show (k + 1) * 2 = k * 2 + 2 by omega]; simp [encR]

theorem IsR.from {w : World} {na : Option Addr} {L cap : Nat} {l : List Rc} (h : IsR w (.slice na L cap) l) (a : Nat) (ha : a ≤ L) : IsR w (.slice (if cap = a then na else na.map (·.add (a * 2))) (L - a) (cap - a)) (l.drop a) := by
  obtain ⟨x, c, he, h1, h2, h3, h4⟩ := h
  simp only [Value.slice.injEq] at he
  obtain ⟨rfl, rfl, rfl⟩ := he
  refine ⟨(if cap = a then na else na.map (·.add (a * 2))), cap - a, by rw [List.length_drop], by rw [List.length_drop]; omega, fun e => ?_, fun y hy j u hu => ?_, fun z hz => h4 z (List.mem_of_mem_drop hz)⟩
  · cases na with
    | none =>
      obtain ⟨rfl, rfl⟩ := h2 rfl
      simp
    | some na => split at e <;> simp at e
  · have hj := (List.getElem?_eq_some_iff.1 hu).1
    rw [flatR_length, List.length_drop] at hj
    cases na with
    | none => rw [(h2 rfl).1] at hj; simp at hj
    | some na =>
      rw [if_neg (by omega)] at hy
      simp only [Option.map_some, Option.some.injEq] at hy
      subst hy
      rw [flatR_drop, List.getElem?_drop] at hu
      have := h3 na rfl (a * 2 + j) u hu
      rw [← this, Addr.add_add]

theorem refput8 {v : Value} {bs : List Int} (x : Int) (hx : 0 ≤ x ∧ x < 18446744073709551616) {W : World} (h : IsB W v bs) (hl : bs.length ≤ 100000) : Calls Try.prog 35 #[v, .int .i64 8, .int .u64 x] W fun e w' =>
    ∃ u, e = .returned u ∧ IsB w' u (bs ++ putB 8 x) ∧ Below W.heap.size W w' := by
  refine (refPut_any v bs 8 x W h (by omega) hx.1 hx.2).mono ?_
  rintro e w' ⟨g, cap, rfl, o, b⟩
  exact ⟨_, rfl, o.isB, b⟩

theorem min50 (n : Nat) : ∃ m : Nat, m = min 50 n ∧ (∀ (ts : Array TypeId) (t : TypeId) (w : World), (Builtin.min_ ts t #[.int .i64 50, .int .i64 (n : Int)]).run Try.prog w = .ok (.int .i64 (m : Int)) w) :=
  ⟨min 50 n, rfl, fun ts t w => min_len 50 n n rfl ts t w⟩

set_option maxRecDepth 100000 in
set_option maxHeartbeats 4000000 in
theorem refBytes_any {w : World} {v : Value} {l : List Rc} (h : IsR w v l) (hl : l.length ≤ 1000) : Calls Try.prog 15 #[v] w fun e w' => ∃ u, e = .returned u ∧ RowB w' u (fileB l) ∧ Below w.heap.size w w' ∧ ∀ x ∈ own u, w.heap.size ≤ x := by
  have H := hide h
  have HLL := hide hl
  have R0 : Hid (RowB (w.alloc (.cells #[] 5)) (.slice (some ⟨w.heap.size, 0, none⟩) 0 0) []) := (OwnB.empty w w.heap.size (Nat.le_refl _)).rowB
  have B0 := hide ((Below.refl w.heap.size w).alloc (Nat.le_refl _) (.cells #[] 5))
  clear h hl
  go_enter Try.func15, Try.ntmps15
  go_wp2
  go_loopw [0, 3] (fun v0 v3 wr => ∃ (F : List Int) (rest : List Rc), Hid (IsR w v0 rest ∧ rest.length ≤ l.length ∧ F ++ fileB rest = fileB l) ∧ Hid (RowB wr v3 F ∧ Below w.heap.size w wr ∧ ∀ x ∈ own v3, w.heap.size ≤ x)) (fun v0 _ _ => lenR v0)
  case atStart => exact ⟨[], l, ⟨H.out, Nat.le_refl _, rfl⟩, R0.out, B0.out, by simp [own, Value.ownBlock]⟩
  case round =>
    obtain ⟨F, rest, HI, HR⟩ := hrel
    obtain ⟨a, cap, rfl, hcap⟩ := HI.out.1.form
    obtain ⟨n, hn⟩ : ∃ n, n = rest.length := ⟨_, rfl⟩
    have hnl : n ≤ 1000 := by have := HI.out.2.1; have := HLL.out; omega
    have HN := hide hn
    rw [← hn] at hcap ⊢
    by_cases h0 : n = 0
    · subst h0
      clear hn
      go_wp2
      go_ret
      have e : rest = [] := List.eq_nil_of_length_eq_zero HN.out.symm
      have h3 := HI.out.2.2
      rw [e, fileB_nil, List.append_nil] at h3
      exact ⟨u3, rfl, h3 ▸ HR.out.1, HR.out.2.1, HR.out.2.2⟩
    · have hn0 : (0 : Int) < (n : Int) := by omega
      have hn1 : 0 < n := by omega
      obtain ⟨m, hm, hmin⟩ := min50 n
      have hmn : m ≤ n := by omega
      have HM := hide hm
      have hsz : w.heap.size ≤ wr.heap.size := HR.out.2.1.size
      have T0 : Hid (IsB (wr.alloc (.cells #[] 5)) (.slice (some ⟨wr.heap.size, 0, none⟩) 0 0) []) := (OwnB.empty wr wr.heap.size (Nat.le_refl _)).isB
      have BB := hide ((Below.refl wr.heap.size wr).alloc (Nat.le_refl _) (.cells #[] 5))
      have HSZ := hide hsz
      clear hn hm hsz
      go_wp2
      obtain ⟨wo, hwo⟩ : ∃ wo, wo = wr := ⟨_, rfl⟩
      subst hwo
      go_loopw [5, 6] (fun v5 v6 wi => ∃ i : Nat, v6 = .int .i64 i ∧ i ≤ m ∧ Hid (IsB wi v5 (textB (rest.take i)) ∧ Below wo.heap.size wo wi)) (fun _ v6 _ => m + 1 - (match v6 with | .int _ q => q.toNat | _ => 0))
      case atStart => exact ⟨0, by first | rfl | go_num, Nat.zero_le _, by rw [List.take_zero]; exact T0.out, BB.out⟩
      case round =>
        obtain ⟨i, rfl, hi, HT⟩ := hrel
        have hw1 : IntKind.i64.wrap ((i : Int) + 1) = (i : Int) + 1 := i64_small _ (by omega) (by omega)
        by_cases him : i < m
        · have him' : (i : Int) < (m : Int) := by omega
          have hir : i < rest.length := by have := HN.out; omega
          have hin : i < n := by omega
          have bwi : Below w.heap.size w wr := HR.out.2.1.trans (HT.out.2.mono HSZ.out)
          have isr := HI.out.1.below bwi
          rw [← HN.out] at isr
          obtain ⟨g, o, c, e, _, hc⟩ := isr.opened (by omega)
          simp only [Value.slice.injEq] at e
          obtain ⟨rfl, hx9, rfl⟩ := e
          clear hx9
          have hcs : ∀ W, Below wr.heap.size wr W → W.cell? ⟨g, o + i * 2, none⟩ = some (.int .u64 rest[i]!.1) ∧ W.cell? ⟨g, o + i * 2 + 1, none⟩ = some (.int .u64 rest[i]!.2) := fun W hb =>
            ⟨(Kept.of_below (fp := []) hb).cell (hc i hir).1 (by simp), (Kept.of_below (fp := []) hb).cell (hc i hir).2 (by simp)⟩
          have hok := isr.okAt i hir
          have htk : rest.take (i + 1) = rest.take i ++ [rest[i]!] := by rw [List.take_succ_eq_append_getElem hir, getElem!_pos rest i hir]
          obtain ⟨⟨x1, x2⟩, hx⟩ : ∃ x, x = rest[i]! := ⟨_, rfl⟩
          rw [← hx] at hcs hok htk
          dsimp only at hcs
          have HTK := hide htk
          have HCS := hide hcs
          obtain ⟨c1, c2⟩ := hcs wr.drew ((Below.refl _ wr).drew)
          have HTL : Hid ((textB (rest.take i)).length ≤ 1000) := by show _ ≤ _; have := HM.out; rw [textB_length, List.length_take]; omega
          obtain ⟨bs, hbs⟩ : ∃ bs, bs = textB (rest.take i) := ⟨_, rfl⟩
          have HBS := hide hbs
          have P1 := hide (fun (W : World) (hb : Below wr.heap.size wr W) => refput8 (v := u5) (bs := bs) x1 hok.1 (by rw [hbs]; exact HT.out.1.below hb) (by rw [hbs]; have := HTL.out; omega))
          have P2 := hide (fun (W : World) (v : Value) (h : IsB W v (bs ++ putB 8 x1)) => refput8 x2 hok.2 h (by rw [List.length_append, putB_length, hbs]; have := HTL.out; omega))
          clear hc isr hcs hok htk hx hbs bwi
          go_wp2
          go_region_held (fun W => W.cell? ⟨g, o + i * 2, none⟩ = some (.int .u64 x1) ∧ W.cell? ⟨g, o + i * 2 + 1, none⟩ = some (.int .u64 x2)) (first | exact ⟨by assumption, by assumption⟩ | exact HCS.out _ b2 | exact HCS.out _ b3)
            (first
              | (go_at_call_of 35 u5; refine (P1.out _ ((Below.refl _ wr).drew)).mono ?_; rintro e w2 ⟨t2, rfl, i2, b2'⟩; have b2 : Below wr.heap.size wr w2 := ⟨b2'.os, b2'.tape, b2'.output, b2'.size, b2'.block⟩; obtain ⟨d1, d2⟩ := HCS.out _ b2; have I2 := hide i2; clear i2 b2')
              | (go_at_call_of 35 t2; refine (P2.out _ _ I2.out).mono ?_; rintro e w3 ⟨t3, rfl, i3, b3'⟩; have b3 : Below wr.heap.size wr w3 := below_then b2 b3'; obtain ⟨f1, f2⟩ := HCS.out _ b3; have I3 := hide i3; clear i3 b3'))
          go_wp2
          go_roundw
          case rel => exact ⟨i + 1, by go_num, by omega, by rw [HTK.out, textB_snoc, ← HBS.out]; have := I3.out; rw [List.append_assoc] at this; exact this, HT.out.2.trans (b3.mono HT.out.2.size)⟩
          case measure => simp; omega
        · obtain rfl : i = m := by omega
          obtain ⟨xs, hxs⟩ : ∃ xs, xs = blkB (textB (rest.take i)) := ⟨_, rfl⟩
          have hxl : xs.length ≤ 1006 := by have := HM.out; rw [hxs, blkB_length, textB_length, List.length_take]; omega
          have EN := hide (refEncode_go u5 (textB (rest.take i)) xs wr HT.out.1 (by have := HM.out; rw [textB_length, List.length_take]; omega) hxs)
          have sl := slice_fromRc a n cap i hmn
          obtain ⟨dp, hdp⟩ : ∃ dp, dp = (if cap = i then a else a.map (·.add (i * 2))) := ⟨_, rfl⟩
          rw [← hdp] at sl
          have IF := HI.out.1
          rw [← HN.out] at IF
          have IF2 := hide (IF.from i hmn)
          rw [← hdp] at IF2
          have hfl : fileB rest = xs ++ fileB (rest.drop i) := by
            have hne : rest ≠ [] := fun e => by have := HN.out; rw [e] at this; simp at this; omega
            have h50 : i = min 50 rest.length := by rw [← HN.out]; exact HM.out
            rw [fileB_step rest hne, hxs, show rest.take 50 = rest.take i by rw [List.take_eq_take_iff]; omega]
            by_cases hb : rest.length ≤ 50
            · rw [List.drop_of_length_le hb, List.drop_of_length_le (by omega)]
            · rw [show i = 50 by omega]
          have HFL := hide hfl
          have hFb : F.length ≤ 1000000 := by
            have h1 := HI.out.2.2
            have h2 := congrArg List.length h1
            rw [List.length_append, fileB_length l] at h2
            have := HLL.out
            omega
          have hlen : Hid (F.length + xs.length ≤ 1099511627776) := by show _ ≤ _; omega
          clear hxs hdp IF hfl
          go_wp2_with fail
          refine EN.out.mono ?_
          rintro e w2 ⟨g2, cap2, rfl, o2, b2⟩
          have r2 : RowB w2 u3 F := (HR.out.1.kept (Kept.of_below (fp := []) HT.out.2) (by simp)).kept (Kept.of_below (fp := []) b2) (by simp)
          have R2 := hide r2
          have O2 := hide o2.isB
          have HB2 := hide b2
          clear r2 o2 b2
          go_wp2_with (at_builtin; refine wp_appendR _ rfl _ _ rfl u3 (.slice (some ⟨g2, 0, none⟩) xs.length cap2) F xs rfl R2.out rfl O2.out hlen.out ?_; intro v4 w4 r4 k4 n4 z4; have R4 := hide r4; have K4 := hide (And.intro k4 n4); clear r4 k4 n4 z4)
          go_roundw
          case rel =>
            obtain ⟨k4, n4⟩ := K4.out
            have hh := HR.out
            have hs2 : w.heap.size ≤ w2.heap.size := Nat.le_trans HSZ.out (Nat.le_trans HT.out.2.size HB2.out.size)
            have b42 : Below w.heap.size w w2 := (hh.2.1.trans (HT.out.2.mono HSZ.out)).trans (HB2.out.mono (Nat.le_trans HSZ.out HT.out.2.size))
            refine ⟨F ++ xs, rest.drop i, ⟨IF2.out, by rw [List.length_drop]; have := HI.out.2.1; omega, by rw [List.append_assoc, ← HFL.out]; exact HI.out.2.2⟩, R4.out, b42.trans (k4.below hs2 hh.2.2), fun x hx => ?_⟩
            rcases n4 x hx with e | e
            · exact hh.2.2 x e
            · omega
          case measure =>
            have : 0 < i := by have := HM.out; omega
            simp only [lenR]
            omega

end Go.Proofs.Ytdhajmgpakconaa

namespace Go.Proofs.Ytdhajmgpakconaa
open Go.RowKit Go.Maps

theorem tear_synced (ks : List Bool) (x : List Int) (k j : Nat) : tearTo ks x x k j = (x, k) := by
  induction j with
  | zero => rfl
  | succ j ih =>
    rw [tearTo, ih]
    have : sameB x x (16 * j) (min (16 * j + 16) x.length) = true := by
      simp [sameB]
      omega
    rw [if_pos this]

/-- A crash of what was synced takes nothing. -/
theorem crash_synced (ks : List Bool) (n : List UInt8) (c : List Int) (R k : Int) : crashA ks [(n, c, c)] (upS R (sec c.length) k) = ([(n, c, c)], { upS R (sec c.length) k with down := true }) := by
  unfold crashA
  rw [if_neg (by simp [upS])]
  have e : torn ks [(n, c, c)] 0 = ([(n, c, c)], 0) := by
    simp only [torn, tearB, tear_synced]
  rw [e]
  simp [usedB, upS]

theorem fileB_len160 {l : List Rc} (h : l.length ≤ 160) : (fileB l).length ≤ 2584 := by
  rw [fileB_length]
  omega
theorem sec_small {n N : Nat} (h : n ≤ N) : sec n ≤ ((N + 15) / 16 : Nat) := by unfold sec; omega

end Go.Proofs.Ytdhajmgpakconaa

namespace Go.Proofs.Ytdhajmgpakconaa
open Go.RowKit Go.Maps

section
variable {w0 w : World} {p : Nat} {hs : List Nat} {l0 : List Ab} {R U k : Int}

/-- Write, of records for which there may be no room. -/
theorem Lw.write_room (h : Lw w0 w p (l0, upS R U k) hs) (nm : ByteArray) (hnm : nm.size ≤ maxLen) (hno : lookA l0 nm.data.toList = none) (hm : mayB nm.data.toList = true) {v : Value} {l : List Rc} (hU : U ≤ R)
    (hn : k + l.length + 10 ≤ 1000000) (hv : IsR w v l) (hvd : l ≠ [] → ∀ x ∈ own v, x ∈ hs) :
    Calls Try.prog 12 #[.pointer (some ⟨p, 0, none⟩), .string nm, v] w fun e w' => ∃ (E : Int) (c s : List Int) (U' k' : Int), e = .returned (.int .i64 E) ∧ (U + sec (fileB l).length ≤ R → E = 0) ∧ (¬ U + sec (fileB l).length ≤ R → E = 6) ∧
      Lw w0 w' p (insA l0 (nm.data.toList, c, s), upS R U' k') hs ∧ Hld hs w w' ∧ U' ≤ R ∧ k < k' ∧ k' ≤ k + l.length + 3 := by
  obtain ⟨k', G, e, hG, h1, h2⟩ := write_up (R := R) (U := U) (k := k) hno hm hU l
  by_cases hf : U + sec (fileB l).length ≤ R
  · rw [if_pos hf] at e
    refine (h.write nm hnm (by simp only [upS]; omega) hv hvd e).mono ?_
    rintro e w' ⟨rfl, a, b⟩
    exact ⟨0, _, _, _, k', rfl, fun _ => rfl, fun h => absurd hf h, a, b, hf, h1, h2⟩
  · rw [if_neg hf] at e
    refine (h.write nm hnm (by simp only [upS]; omega) hv hvd e).mono ?_
    rintro e w' ⟨rfl, a, b⟩
    exact ⟨6, _, _, _, k', rfl, fun h => absurd h hf, fun _ => rfl, a, b, hG, h1, h2⟩
end

theorem nmFirst : (⟨#[102, 105, 114, 115, 116]⟩ : ByteArray).size ≤ maxLen := by show 5 ≤ maxLen; unfold maxLen; omega
theorem nmNone : (⟨#[110, 111, 110, 101]⟩ : ByteArray).size ≤ maxLen := by show 4 ≤ maxLen; unfold maxLen; omega

end Go.Proofs.Ytdhajmgpakconaa

namespace Go.Proofs.Ytdhajmgpakconaa
open Go.RowKit Go.Maps

/-! ### What is read is right -/

theorem decB_sub (c : List Int) : ∀ z ∈ (decB c).1, z ∈ c := by
  intro z hz
  unfold decB at hz
  split at hz
  · simp at hz
  · split at hz
    · simp at hz
    · split at hz
      · simp at hz
      · split at hz
        · simp at hz
        · exact List.mem_of_mem_drop (List.mem_of_mem_take hz)

theorem readN_ok (n : Nat) (s : Bool) (c : List Int) (h : ∀ z ∈ c, 0 ≤ z ∧ z ≤ 255) : ∀ y ∈ (readN n s c).1, okR y := by
  induction n generalizing s c with
  | zero => simp [readN]
  | succ n ih =>
    intro y hy
    rw [readN] at hy
    split at hy
    · simp at hy
    · split at hy
      · simp at hy
      · split at hy
        · simp at hy
        · dsimp only at hy
          rcases List.mem_append.1 hy with hy | hy
          · exact recsOf_ok _ _ (fun z hz => h z (decB_sub c z hz)) y hy
          · exact ih _ _ (fun z hz => h z (List.mem_of_mem_drop hz)) y hy

theorem readB_ok (s : Bool) (c : List Int) (h : ∀ z ∈ c, 0 ≤ z ∧ z ≤ 255) : ∀ y ∈ (readB s c).1, okR y := readN_ok _ s c h

theorem recsT_length (t : List Int) : (recsT t).length ≤ t.length := by
  rw [recsT, recsOf_length]
  omega

theorem readN_len (n : Nat) (s : Bool) (c : List Int) : (readN n s c).1.length ≤ c.length := by
  induction n generalizing s c with
  | zero => simp [readN]
  | succ n ih =>
    rw [readN]
    split
    · simp
    · split
      · simp
      · rename_i h1 h2
        split
        · simp
        · have h3 := decB_pos c (by simpa using h2)
          have h4 := recsT_length (decB c).1
          have h5 := ih (decide ((decB c).1.length < 800)) (c.drop (decB c).2.1)
          rw [List.length_drop] at h5
          rw [List.length_append]
          omega
theorem readB_len (s : Bool) (c : List Int) : (readB s c).1.length ≤ c.length := readN_len _ s c

/-! ### A front of what was written -/

theorem tear_front (m : Nat) (now : List Int) (j : Nat) (hj : 16 * j < now.length + 16) : tearTo (List.replicate m true) now [] 0 j = (now.take (16 * min j m), j) := by
  induction j with
  | zero => simp [tearTo]
  | succ j ih =>
    rw [tearTo, ih (by omega)]
    have hs : sameB now [] (16 * j) (min (16 * j + 16) now.length) = false := by
      unfold sameB
      rw [decide_eq_false (by simp only [List.length_nil]; omega), Bool.false_and]
    rw [hs, if_neg (by simp)]
    dsimp only
    by_cases hm : j < m
    · have hst : staysB (List.replicate m true) j = true := by
        unfold staysB
        rw [List.getElem?_replicate, if_pos hm]
        rfl
      rw [hst, if_pos rfl]
      have e1 : min (j + 1) m = j + 1 := by omega
      have e2 : min j m = j := by omega
      rw [e1, e2]
      have hl : (now.take (16 * j)).length = 16 * j := by rw [List.length_take]; omega
      have hsl : (seg now (16 * j) (min (16 * j + 16) now.length)).length = min (16 * j + 16) now.length - 16 * j := seg_length _ _ _ (by omega)
      have ht : now.take (16 * (j + 1)) = now.take (16 * j) ++ seg now (16 * j) (min (16 * j + 16) now.length) := by
        unfold seg
        rw [show 16 * (j + 1) = 16 * j + 16 by omega, List.take_add]
        congr 1
        rw [List.take_eq_take_iff, List.length_drop]
        omega
      rw [ht]
      unfold over
      rw [hl, hsl]
      have e3 : (now.take (16 * j) ++ List.replicate (16 * j + (min (16 * j + 16) now.length - 16 * j) - 16 * j) (0 : Int)).take (16 * j) = now.take (16 * j) := by
        rw [List.take_append_of_le_length (by omega), List.take_of_length_le (by omega)]
      have e4 : (now.take (16 * j) ++ List.replicate (16 * j + (min (16 * j + 16) now.length - 16 * j) - 16 * j) (0 : Int)).drop (16 * j + (min (16 * j + 16) now.length - 16 * j)) = [] := by
        apply List.drop_of_length_le
        rw [List.length_append, List.length_replicate, hl]
        omega
      rw [e3, e4, List.append_nil]
    · have hst : staysB (List.replicate m true) j = false := by
        unfold staysB
        rw [List.getElem?_replicate, if_neg hm]
        rfl
      rw [hst, if_neg (by simp), show min (j + 1) m = min j m by omega]

theorem tearB_front (m : Nat) (now : List Int) : (tearB (List.replicate m true) now [] 0).1 = now.take (16 * m) := by
  unfold tearB
  rw [tear_front m now _ (by omega)]
  dsimp only
  rw [List.take_eq_take_iff]
  omega

/-! ### An armed disk -/

def armS (U k L : Int) (ks : List Bool) : Ds := { room := 1000, used := U, ops := k, down := false, left := L, keep := ks }
def downS (U k : Int) : Ds := { room := 1000, used := U, ops := k, down := true, left := 0, keep := [] }

theorem begin_arm (l : List Ab) (U k L : Int) (ks : List Bool) (hL : 1 ≤ L) : beginA l (armS U k L ks) = if 1 < L then (l, armS U (k + 1) (L - 1) ks) else crashA ks l { armS U (k + 1) 0 [] with left := 0 } := by
  unfold beginA
  rw [if_neg (by simp [armS]; omega)]
  rfl

section
variable {n : List UInt8} {U k L : Int} {F : List Int} {m : Nat}

theorem crash_front : crashA (List.replicate m true) [(n, F, [])] { armS U k 0 [] with left := 0 } = ([(n, F.take (16 * m), F.take (16 * m))], downS (sec (F.take (16 * m)).length) k) := by
  unfold crashA
  rw [if_neg (by simp [armS])]
  have e : torn (List.replicate m true) [(n, F, [])] 0 = ([(n, F.take (16 * m), F.take (16 * m))], (tearB (List.replicate m true) F [] 0).2) := by
    simp only [torn, tearB_front]
  rw [e]
  simp [usedB, armS, downS]

/-- What the crash of a write leaves: a front of the bytes. -/
def Front (n : List UInt8) (G : List Int) (r : Int × Dsk) : Prop := ∃ j k', r = (7, ([(n, G.take j, G.take j)], downS (sec (G.take j).length) k'))

theorem front_of (F H : List Int) (k' : Int) : Front n (F ++ H) (7, ([(n, F.take (16 * m), F.take (16 * m))], downS (sec (F.take (16 * m)).length) k')) := by
  have e : (F ++ H).take (min (16 * m) F.length) = F.take (16 * m) := by
    rw [List.take_append_of_le_length (by omega), List.take_eq_take_iff]
    omega
  exact ⟨min (16 * m) F.length, k', by rw [e]⟩

theorem append_arm (cs : List Int) (hL : 1 ≤ L) (hfit : sec (F ++ cs).length ≤ 1000) : appendA (beginA [(n, F, [])] (armS (sec F.length) k L (List.replicate m true))) n cs =
    if 1 < L then (0, ([(n, F ++ cs, [])], armS (sec (F ++ cs).length) (k + 1) (L - 1) (List.replicate m true))) else (7, ([(n, F.take (16 * m), F.take (16 * m))], downS (sec (F.take (16 * m)).length) (k + 1))) := by
  rw [begin_arm _ _ _ _ _ hL]
  by_cases h : 1 < L
  · rw [if_pos h, if_pos h]
    unfold appendA
    have e1 : errA ([(n, F, [])], armS (sec F.length) (k + 1) (L - 1) (List.replicate m true)) n = none := by
      simp [errA, armS, lookA]
    rw [e1]
    have e2 : lookA [(n, F, ([] : List Int))] n = some (n, F, []) := by simp [lookA]
    dsimp only
    rw [e2]
    dsimp only
    unfold writeA
    rw [if_neg (by dsimp only; omega)]
    simp only [Int.toNat_natCast, putA_end, moreA_end]
    rw [if_neg (by simp only [armS]; omega)]
    have e3 : setA [(n, F, ([] : List Int))] (n, F ++ cs, []) = [(n, F ++ cs, [])] := by simp [setA]
    rw [e3]
    simp only [armS]
    rw [show sec F.length + (sec (F ++ cs).length - sec F.length) = sec (F ++ cs).length by omega]
  · rw [if_neg h, if_neg h, crash_front]
    simp [appendA, errA, downS]

theorem sync_arm (hL : 1 ≤ L) : syncW (beginA [(n, F, [])] (armS (sec F.length) k L (List.replicate m true))) n =
    if 1 < L then (0, ([(n, F, F)], armS (sec F.length) (k + 1) (L - 1) (List.replicate m true))) else (7, ([(n, F.take (16 * m), F.take (16 * m))], downS (sec (F.take (16 * m)).length) (k + 1))) := by
  rw [begin_arm _ _ _ _ _ hL]
  by_cases h : 1 < L
  · rw [if_pos h, if_pos h]
    unfold syncW
    have e1 : errA ([(n, F, [])], armS (sec F.length) (k + 1) (L - 1) (List.replicate m true)) n = none := by
      simp [errA, armS, lookA]
    rw [e1]
    have e2 : lookA [(n, F, ([] : List Int))] n = some (n, F, []) := by simp [lookA]
    dsimp only
    rw [e2]
    simp [setA]
  · rw [if_neg h, if_neg h, crash_front]
    simp [syncW, errA, downS]
end

/-- What a write on an armed disk may come to. -/
def ArmOut (n : List UInt8) (G : List Int) (ks : List Bool) (r : Int × Dsk) : Prop := (∃ k' L', 1 ≤ L' ∧ r = (0, ([(n, G, G)], armS (sec G.length) k' L' ks))) ∨ Front n G r

theorem rest_arm {n : List UInt8} {m : Nat} (l : List Rc) : ∀ {F : List Int} {ts : List Rc} {k L : Int}, ts.length < 50 → 1 ≤ L → sec (F ++ fileB (ts ++ l)).length ≤ 1000 →
    ArmOut n (F ++ fileB (ts ++ l)) (List.replicate m true) (restW n ([(n, F, [])], armS (sec F.length) k L (List.replicate m true)) (textB ts) l) := by
  induction l with
  | nil =>
    intro F ts k L hts hL hfit
    rw [restW, List.append_nil] at *
    unfold closeW
    by_cases h : ts = []
    · subst h
      rw [if_pos (show textB [] = [] from rfl)]
      dsimp only
      rw [sync_arm hL, fileB_nil, List.append_nil]
      by_cases h1 : 1 < L
      · rw [if_pos h1]
        exact .inl ⟨_, L - 1, by omega, rfl⟩
      · rw [if_neg h1]
        have := front_of (n := n) (m := m) F [] (k + 1)
        rw [List.append_nil] at this
        exact .inr this
    · have hne : textB ts ≠ [] := by
        intro e
        have := congrArg List.length e
        rw [textB_length] at this
        have h0 := List.length_pos_iff.2 h
        simp at this
        omega
      rw [fileB_short ts h (by omega)] at hfit ⊢
      rw [if_neg hne]
      have ef : flushW ([(n, F, [])], armS (sec F.length) k L (List.replicate m true)) n (textB ts) = _ := append_arm (blkB (textB ts)) hL hfit
      rw [ef]
      by_cases h1 : 1 < L
      · rw [if_pos h1, if_pos rfl]
        dsimp only
        rw [sync_arm (by omega)]
        by_cases h2 : 1 < L - 1
        · rw [if_pos h2]
          exact .inl ⟨_, L - 1 - 1, by omega, rfl⟩
        · rw [if_neg h2]
          have := front_of (n := n) (m := m) (F ++ blkB (textB ts)) [] (k + 1 + 1)
          rw [List.append_nil] at this
          exact .inr this
      · rw [if_neg h1, if_neg (by simp)]
        exact .inr (front_of F _ _)
  | cons x l ih =>
    intro F ts k L hts hL hfit
    by_cases h : ts.length + 1 < 50
    · have e1 : putW ([(n, F, [])], armS (sec F.length) k L (List.replicate m true)) n (textB ts) x = (0, ([(n, F, [])], armS (sec F.length) k L (List.replicate m true)), textB (ts ++ [x])) := by
        unfold putW
        rw [← textB_snoc, textB_length, List.length_append, List.length_singleton, if_pos (by omega)]
      rw [restW, e1, if_pos rfl]
      dsimp only
      have := ih (F := F) (ts := ts ++ [x]) (k := k) (L := L) (by simpa using h) hL (by simpa using hfit)
      rw [show ts ++ [x] ++ l = ts ++ x :: l by simp] at this
      exact this
    · have e0 : putW ([(n, F, [])], armS (sec F.length) k L (List.replicate m true)) n (textB ts) x = ((flushW ([(n, F, [])], armS (sec F.length) k L (List.replicate m true)) n (textB (ts ++ [x]))).1, (flushW ([(n, F, [])], armS (sec F.length) k L (List.replicate m true)) n (textB (ts ++ [x]))).2, []) := by
        unfold putW
        rw [← textB_snoc, textB_length, List.length_append, List.length_singleton, if_neg (by omega)]
      have e : fileB (ts ++ x :: l) = blkB (textB (ts ++ [x])) ++ fileB l := by
        rw [show ts ++ x :: l = (ts ++ [x]) ++ l by simp]
        exact fileB_full _ l (by rw [List.length_append, List.length_singleton]; omega)
      rw [e, ← List.append_assoc] at hfit ⊢
      have h2 := sec_le_append (F ++ blkB (textB (ts ++ [x]))) (fileB l)
      have ef : flushW ([(n, F, [])], armS (sec F.length) k L (List.replicate m true)) n (textB (ts ++ [x])) = _ := append_arm (blkB (textB (ts ++ [x]))) hL (by omega)
      rw [ef] at e0
      by_cases h1 : 1 < L
      · rw [if_pos h1] at e0
        rw [restW, e0, if_pos rfl]
        dsimp only
        have := ih (F := F ++ blkB (textB (ts ++ [x]))) (ts := []) (k := k + 1) (L := L - 1) (by simp) (by omega) (by simpa using hfit)
        rw [List.nil_append, show textB [] = [] from rfl] at this
        exact this
      · rw [if_neg h1] at e0
        rw [restW, e0, if_neg (by simp), List.append_assoc]
        exact .inr (front_of F _ _)

/-- Write, on a disk that has no files and is armed. -/
theorem write_arm {n : List UInt8} {m : Nat} (hm : mayB n = true) (l : List Rc) {k L : Int} (hL : 1 ≤ L) (hfit : sec (fileB l).length ≤ 1000) :
    ArmOut n (fileB l) (List.replicate m true) (writeW ([], armS 0 k L (List.replicate m true)) n l) ∨ writeW ([], armS 0 k L (List.replicate m true)) n l = (7, ([], downS 0 (k + 1))) := by
  unfold writeW
  dsimp only
  rw [begin_arm _ _ _ _ _ hL]
  by_cases h1 : 1 < L
  · left
    rw [if_pos h1]
    have ec : createA ([], armS 0 (k + 1) (L - 1) (List.replicate m true)) n = (0, ([(n, [], [])], armS 0 (k + 1) (L - 1) (List.replicate m true))) := by
      simp [createA, armS, hm, lookA, insA]
    rw [ec, if_pos rfl]
    dsimp only
    have := rest_arm (n := n) (m := m) l (F := []) (ts := []) (k := k + 1) (L := L - 1) (by simp) (by omega) (by simpa using hfit)
    rw [List.nil_append, List.nil_append, show textB [] = [] from rfl, show sec ([] : List Int).length = 0 from rfl] at this
    exact this
  · right
    rw [if_neg h1]
    have e : crashA (List.replicate m true) [] { armS 0 (k + 1) 0 [] with left := 0 } = ([], downS 0 (k + 1)) := by
      simp [crashA, armS, torn, usedB, downS]
    rw [e]
    simp [createA, downS]

theorem isK_one (w : World) : IsK (w.alloc (.cells #[.bool true] 4)) (.slice (some ⟨w.heap.size, 0, none⟩) 1 1) [true] := by
  refine ⟨_, 1, rfl, Nat.le_refl _, by simp, fun x hx j hj => ?_⟩
  simp only [Option.some.injEq] at hx
  subst hx
  simp at hj
  subst hj
  exact (cell_of_heap (heap_alloc_new w _) 0).trans rfl

end Go.Proofs.Ytdhajmgpakconaa

namespace Go.Proofs.Ytdhajmgpakconaa
open Go.RowKit Go.Maps

theorem syncW_ops (A : Dsk) (n : List UInt8) : (syncW A n).2.2.ops = A.2.ops := by
  unfold syncW
  split
  · rfl
  · split <;> rfl
theorem closeW_ops (A : Dsk) (n : List UInt8) (t : List Int) : (closeW A n t).2.2.ops ≤ A.2.ops + 2 := by
  unfold closeW
  split
  · rw [syncW_ops, beginA_ops]; omega
  · split
    · rw [syncW_ops, beginA_ops, flushW_ops]; omega
    · rw [flushW_ops]; omega
theorem restW_ops (n : List UInt8) (l : List Rc) : ∀ (A : Dsk) (t : List Int), (restW n A t l).2.2.ops ≤ A.2.ops + l.length + 2 := by
  induction l with
  | nil =>
    intro A t
    rw [restW]
    have := closeW_ops A n t
    simp
    omega
  | cons x l ih =>
    intro A t
    rw [restW]
    have h1 := putW_ops A n t x
    split
    · have h2 := ih (putW A n t x).2.1 (putW A n t x).2.2
      simp only [List.length_cons]
      push_cast
      omega
    · simp only [List.length_cons]
      push_cast
      omega
theorem writeW_ops (A : Dsk) (n : List UInt8) (l : List Rc) : (writeW A n l).2.2.ops ≤ A.2.ops + l.length + 3 := by
  unfold writeW
  have h1 := createA_ops (beginA A.1 A.2) n
  rw [beginA_ops] at h1
  split
  · have := restW_ops n l (createA (beginA A.1 A.2) n).2 []
    omega
  · omega

theorem arm_new {L : Int} {ks : List Bool} (hL : 1 ≤ L) : armA [] (upS 1000 0 0) L ks = ([], armS 0 0 L ks) := by
  unfold armA
  rw [if_neg (by omega)]
  rfl
theorem arm_off (l : List Ab) (U k L : Int) (ks : List Bool) : armA l (armS U k L ks) 0 [] = (l, upS 1000 U k) := by
  unfold armA
  rw [if_pos (by omega)]
  rfl
theorem arm_down (l : List Ab) (U k : Int) : armA l (downS U k) 0 [] = (l, downS U k) := by
  unfold armA
  rw [if_pos (by omega)]
  rfl

/-- What a write on an armed disk, disarmed and up again, has of the file: all, a front, or nothing. -/
theorem write_arm_out {m : Nat} (l : List Rc) {L : Int} (hL : 1 ≤ L) (hfit : sec (fileB l).length ≤ 1000) :
    (∃ k' L' : Int, k' ≤ l.length + 3 ∧ writeW ([], armS 0 0 L (List.replicate m true)) [102] l = (0, ([([102], fileB l, fileB l)], armS (sec (fileB l).length) k' L' (List.replicate m true)))) ∨
    (∃ (j : Nat) (k' : Int), k' ≤ l.length + 3 ∧ writeW ([], armS 0 0 L (List.replicate m true)) [102] l = (7, ([([102], (fileB l).take j, (fileB l).take j)], downS (sec ((fileB l).take j).length) k'))) ∨
    writeW ([], armS 0 0 L (List.replicate m true)) [102] l = (7, ([], downS 0 1)) := by
  have ho := writeW_ops ([], armS 0 0 L (List.replicate m true)) [102] l
  rcases write_arm (n := [102]) (m := m) rfl l (k := 0) hL hfit with (⟨k', L', _, e⟩ | ⟨j, k', e⟩) | e
  · rw [e] at ho
    simp only [armS] at ho
    exact .inl ⟨k', L', by omega, e⟩
  · rw [e] at ho
    simp only [armS, downS] at ho
    exact .inr (.inl ⟨j, k', by omega, e⟩)
  · exact .inr (.inr e)

end Go.Proofs.Ytdhajmgpakconaa

namespace Go.Proofs.Ytdhajmgpakconaa
open Go.RowKit Go.Maps

/-- A disk and a writer, beside which the blocks hs are held. -/
def LwW (w0 w : World) (p q : Nat) (A : Dsk) (nm : ByteArray) (t : List Int) (hs : List Nat) : Prop :=
  ∃ fp, Wk w fp p q A nm t ∧ Below w0.heap.size w0 w ∧ (∀ x ∈ fp, w0.heap.size ≤ x) ∧ ∀ x ∈ hs, x ∉ fp ∧ x < w.heap.size
/-- .. the writer is closed. -/
def LwX (w0 w : World) (p q : Nat) (A : Dsk) (hs : List Nat) : Prop :=
  ∃ fp, Wx w fp p q A ∧ Below w0.heap.size w0 w ∧ (∀ x ∈ fp, w0.heap.size ≤ x) ∧ ∀ x ∈ hs, x ∉ fp ∧ x < w.heap.size
/-- A disk and a reader, beside which the blocks hs are held. -/
def LwR (w0 w : World) (p q : Nat) (l : List Ab) (R U k : Int) (nm : ByteArray) (c : List Int) (st : Rst) (hs : List Nat) : Prop :=
  ∃ fd tv, RkE w fd tv p q l R U k nm c st ∧ Below w0.heap.size w0 w ∧ (∀ x ∈ rfp fd q tv st.text, w0.heap.size ≤ x) ∧ ∀ x ∈ hs, x ∉ rfp fd q tv st.text ∧ x < w.heap.size

section
variable {w0 w w' : World} {p q : Nat} {A : Dsk} {hs : List Nat} {nm : ByteArray} {t : List Int}

theorem hold_next {fp fp' : List Nat} (b : Below w0.heap.size w0 w) (f : ∀ x ∈ fp, w0.heap.size ≤ x) (a : ∀ x ∈ hs, x ∉ fp ∧ x < w.heap.size) (k : Kept fp w w') (n : Newly w fp fp') :
    Below w0.heap.size w0 w' ∧ (∀ x ∈ fp', w0.heap.size ≤ x) ∧ (∀ x ∈ hs, x ∉ fp' ∧ x < w'.heap.size) ∧ Hld hs w w' := by
  refine ⟨b.trans (k.below b.size f), fun x hx => ?_, fun x hx => ⟨fun e => ?_, Nat.lt_of_lt_of_le (a x hx).2 k.size⟩, fp, k, fun x hx => (a x hx).1⟩
  · rcases n x hx with e | e
    · exact f x e
    · have := b.size; omega
  · rcases n x e with e | e
    · exact (a x hx).1 e
    · have := (a x hx).2; omega

theorem LwW.bel (h : LwW w0 w p q A nm t hs) : Below w0.heap.size w0 w := by
  obtain ⟨fp, d, b, f, a⟩ := h
  exact b
theorem LwX.bel (h : LwX w0 w p q A hs) : Below w0.heap.size w0 w := by
  obtain ⟨fp, d, b, f, a⟩ := h
  exact b
theorem LwR.bel {l : List Ab} {R U k : Int} {c : List Int} {st : Rst} (h : LwR w0 w p q l R U k nm c st hs) : Below w0.heap.size w0 w := by
  obtain ⟨fd, tv, d, b, f, a⟩ := h
  exact b

theorem LwX.below (h : LwX w0 w p q A hs) (hb : Below w.heap.size w w') : LwX w0 w' p q A hs := by
  obtain ⟨fp, d, b, f, a⟩ := h
  exact ⟨fp, d.below hb, b.trans (hb.mono b.size), f, fun x hx => ⟨(a x hx).1, Nat.lt_of_lt_of_le (a x hx).2 hb.size⟩⟩
theorem LwR.below {l : List Ab} {R U k : Int} {c : List Int} {st : Rst} (h : LwR w0 w p q l R U k nm c st hs) (hb : Below w.heap.size w w') : LwR w0 w' p q l R U k nm c st hs := by
  obtain ⟨fd, tv, d, b, f, a⟩ := h
  exact ⟨fd, tv, d.below hb, b.trans (hb.mono b.size), f, fun x hx => ⟨(a x hx).1, Nat.lt_of_lt_of_le (a x hx).2 hb.size⟩⟩

theorem Lw.newWriter (h : Lw w0 w p A hs) (hn : A.2.ops ≤ 1000000) (nm : ByteArray) (hnm : nm.size ≤ maxLen) {B : Dsk} (hB : createA (beginA A.1 A.2) nm.data.toList = (0, B)) :
    Calls Try.prog 25 #[.pointer (some ⟨p, 0, none⟩), .string nm] w fun e w' => ∃ q, e = .returned (.tuple #[.pointer (some ⟨q, 0, none⟩), .int .i64 0]) ∧ LwW w0 w' p q B nm [] hs ∧ Hld hs w w' := by
  obtain ⟨fp, d, b, f, a⟩ := h
  refine (newWriter_go d hn nm hnm hB).mono ?_
  rintro e w' ⟨q, rfl, fp', d', k, n⟩
  obtain ⟨h1, h2, h3, h4⟩ := hold_next b f a k n
  exact ⟨q, rfl, ⟨fp', d', h1, h2, h3⟩, h4⟩

theorem LwW.put (h : LwW w0 w p q A nm t hs) (hnm : nm.size ≤ maxLen) (hn : A.2.ops ≤ 1000000) (x : Rc) (hx : okR x) (ht : t.length < 800) {B : Dsk} {t' : List Int} (hB : putW A nm.data.toList t x = (0, B, t')) :
    Calls Try.prog 26 #[.pointer (some ⟨q, 0, none⟩), .agg #[.int .u64 x.1, .int .u64 x.2]] w fun e w' => e = .returned (.int .i64 0) ∧ LwW w0 w' p q B nm t' hs ∧ Hld hs w w' := by
  obtain ⟨fp, d, b, f, a⟩ := h
  refine (put_step d hnm hn x hx ht hB).mono ?_
  rintro e w' ⟨rfl, o, _⟩
  obtain ⟨fp', d', k, n⟩ := o rfl
  obtain ⟨h1, h2, h3, h4⟩ := hold_next b f a k n
  exact ⟨rfl, ⟨fp', d', h1, h2, h3⟩, h4⟩

theorem LwW.close (h : LwW w0 w p q A nm t hs) (hnm : nm.size ≤ maxLen) (hn : A.2.ops < 1000000) (ht : t.length ≤ 1000) {k : Int} {B : Dsk} (hB : closeW A nm.data.toList t = (k, B)) :
    Calls Try.prog 27 #[.pointer (some ⟨q, 0, none⟩)] w fun e w' => e = .returned (.int .i64 k) ∧ LwX w0 w' p q B hs ∧ Hld hs w w' := by
  obtain ⟨fp, d, b, f, a⟩ := h
  refine (close_any d ht hn hnm hB).mono ?_
  rintro e w' ⟨rfl, fp', d', k, n⟩
  obtain ⟨h1, h2, h3, h4⟩ := hold_next b f a k n
  exact ⟨rfl, ⟨fp', d', h1, h2, h3⟩, h4⟩

theorem LwX.put (h : LwX w0 w p q A hs) (x : Rc) : Calls Try.prog 26 #[.pointer (some ⟨q, 0, none⟩), .agg #[.int .u64 x.1, .int .u64 x.2]] w fun e w' => e = .returned (.int .i64 9) ∧ LwX w0 w' p q A hs ∧ Hld hs w w' := by
  have h' := h
  obtain ⟨fp, d, b, f, a⟩ := h
  refine (put_closed d x).mono ?_
  rintro e w' ⟨rfl, bb⟩
  exact ⟨rfl, h'.below bb, Hld.below bb⟩
theorem LwX.close (h : LwX w0 w p q A hs) : Calls Try.prog 27 #[.pointer (some ⟨q, 0, none⟩)] w fun e w' => e = .returned (.int .i64 9) ∧ w' = w := by
  obtain ⟨fp, d, b, f, a⟩ := h
  exact close_closed d
theorem LwX.lw (h : LwX w0 w p q A hs) : Lw w0 w p A hs := by
  obtain ⟨fp, ⟨fd, d, _, _, rfl⟩, b, f, a⟩ := h
  exact ⟨fd, d, b, fun x hx => f x (by simp [hx]), fun x hx => ⟨fun e => (a x hx).1 (by simp [e]), (a x hx).2⟩⟩

theorem Lw.newReader {l : List Ab} {R U k : Int} (h : Lw w0 w p (l, upS R U k) hs) (hk : k ≤ 999998) (nm : ByteArray) (hnm : nm.size ≤ maxLen) {x : Ab} (hx : lookA l nm.data.toList = some x) (hlen : x.2.1.length ≤ 1000000000) :
    Calls Try.prog 23 #[.pointer (some ⟨p, 0, none⟩), .string nm] w fun e w' => ∃ q k', e = .returned (.tuple #[.pointer (some ⟨q, 0, none⟩), .int .i64 0]) ∧ LwR w0 w' p q l R U k' nm x.2.1 rst0 hs ∧ Hld hs w w' ∧ k ≤ k' ∧ k' ≤ k + 1 := by
  obtain ⟨fp, d, b, f, a⟩ := h
  refine (newReader_go d hk hnm hx hlen).mono ?_
  rintro e w' ⟨q, rfl, fd', tv, k', E, h5, h6, kk, n⟩
  obtain ⟨h1, h2, h3, h4⟩ := hold_next b f a kk n
  exact ⟨q, k', rfl, ⟨fd', tv, E, h1, h2, h3⟩, h4, h5, h6⟩

theorem LwR.next_some {l : List Ab} {R U k : Int} {c : List Int} {st : Rst} (h : LwR w0 w p q l R U k nm c st hs) (hk : k ≤ 999998) (hnm : nm.size ≤ maxLen) {x : Rc} {rs : List Rc} {er : Int} (hw : Wil c st (x :: rs) er) :
    Calls Try.prog 24 #[.pointer (some ⟨q, 0, none⟩)] w fun e w' => ∃ st' k', e = .returned (.tuple #[.agg #[.int .u64 x.1, .int .u64 x.2], .bool true, .int .i64 0]) ∧ LwR w0 w' p q l R U k' nm c st' hs ∧ Wil c st' rs er ∧ Hld hs w w' ∧ k ≤ k' ∧ k' ≤ k + 2 := by
  obtain ⟨fd, tv, d, b, f, a⟩ := h
  refine (Go.Proofs.Ytdhajmgpakconaa.next_some d hw hk hnm).mono ?_
  rintro e w' ⟨rfl, st', ⟨fd', tv', k', E, h5, h6, kk, n⟩, hw'⟩
  obtain ⟨h1, h2, h3, h4⟩ := hold_next b f a kk n
  exact ⟨st', k', rfl, ⟨fd', tv', E, h1, h2, h3⟩, hw', h4, h5, h6⟩

theorem LwR.next_none {l : List Ab} {R U k : Int} {c : List Int} {st : Rst} (h : LwR w0 w p q l R U k nm c st hs) (hk : k ≤ 999998) (hnm : nm.size ≤ maxLen) {er : Int} (hw : Wil c st [] er) :
    Calls Try.prog 24 #[.pointer (some ⟨q, 0, none⟩)] w fun e w' => ∃ st' k', e = .returned (.tuple #[.agg #[.int .u64 0, .int .u64 0], .bool false, .int .i64 er]) ∧ LwR w0 w' p q l R U k' nm c st' hs ∧ Wil c st' [] er ∧ Hld hs w w' ∧ k ≤ k' ∧ k' ≤ k + 2 := by
  obtain ⟨fd, tv, d, b, f, a⟩ := h
  refine (Go.Proofs.Ytdhajmgpakconaa.next_none d hw hk hnm).mono ?_
  rintro e w' ⟨rfl, st', ⟨fd', tv', k', E, h5, h6, kk, n⟩, hw'⟩
  obtain ⟨h1, h2, h3, h4⟩ := hold_next b f a kk n
  exact ⟨st', k', rfl, ⟨fd', tv', E, h1, h2, h3⟩, hw', h4, h5, h6⟩

/-- Bytes are appended behind a reader. -/
theorem LwR.append {l l' : List Ab} {R U U' k k' : Int} {c : List Int} {st : Rst} (h : LwR w0 w p q l R U k nm c st hs) (hn : k ≤ 1000000) (hnm : nm.size ≤ maxLen) (u : Value) (cs : List Int) (hu : IsB w u cs) (hcl : cs.length ≤ 1073741824) (hux : cs ≠ [] → ∀ x ∈ own u, x < w0.heap.size)
    (hB : appendA (beginA l (upS R U k)) nm.data.toList cs = (0, (l', upS R U' k'))) (hf : ∃ x, lookA l' nm.data.toList = some x ∧ c <+: x.2.1) :
    Calls Try.prog 21 #[.pointer (some ⟨p, 0, none⟩), .string nm, u] w fun e w' => e = .returned (.int .i64 0) ∧ LwR w0 w' p q l' R U' k' nm c st hs ∧ Hld hs w w' := by
  obtain ⟨fd, tv, h, b, f, a⟩ := h
  refine (h.disk.append (by simp only [upS]; omega) nm hnm u cs hu hcl (fun hne x hx e => by have := hux hne x hx; have := f x (rfp_mem.2 (.inl e)); omega)).mono ?_
  rintro e w' ⟨rfl, o⟩
  rw [hB] at o ⊢
  obtain ⟨fd', d, hk, n⟩ := o
  have hq := heap_lt h.cells
  have E : RkE w' fd' tv p q l' R U' k' nm c st := ⟨d, hf, hk.heap9 h.cells h.qfd, h.text.kept hk h.tfd, h.at_le, h.len, fun e => by
    rcases n q e with e | e
    · exact h.qfd e
    · omega, fun h0 x hx e => by
    rcases n x e with e | e
    · exact h.tfd h0 x hx e
    · have := h.text.lt h0 x hx; omega, h.qt⟩
  have kk : Kept (rfp fd q tv st.text) w w' := hk.mono (fun x hx => rfp_mem.2 (.inl hx))
  have nn : Newly w (rfp fd q tv st.text) (rfp fd' q tv st.text) := fun x hx => by
    rcases rfp_mem.1 hx with hx | hx
    · exact (n x hx).imp (fun e => rfp_mem.2 (.inl e)) id
    · exact .inl (rfp_mem.2 (.inr hx))
  obtain ⟨h1, h2, h3, h4⟩ := hold_next b f a kk nn
  exact ⟨rfl, ⟨fd', tv, E, h1, h2, h3⟩, h4⟩

end

end Go.Proofs.Ytdhajmgpakconaa

namespace Go.Proofs.Ytdhajmgpakconaa
open Go.RowKit Go.Maps

theorem recsOf_snoc (j : Nat) (t : List Int) : recsOf (j + 1) t = recsOf j t ++ [recAt (t.drop (16 * j))] := by
  induction j generalizing t with
  | zero => simp [recsOf]
  | succ j ih =>
    rw [recsOf, ih (t.drop 16), List.drop_drop, recsOf, show 16 + 16 * j = 16 * (j + 1) by omega]
    rfl

theorem own_nil {P : Nat → Prop} : ∀ x ∈ own (.slice none 0 0), P x := by simp [own, Value.ownBlock]

/-- What the document's Read leaves. -/
def RefP (w : World) (rs : List Rc) (er : Int) (e : Ending) (w' : World) : Prop :=
  ∃ u, e = .returned (.tuple #[u, .int .i64 er]) ∧ RowR w' u (if er = 0 then rs else []) ∧ Below w.heap.size w w' ∧ ∀ x ∈ own u, w.heap.size ≤ x
theorem RefP.no {w w' : World} {rs : List Rc} {er : Int} (he : er ≠ 0) (b : Below w.heap.size w w') : RefP w rs er (.returned (.tuple #[.slice none 0 0, .int .i64 er])) w' :=
  ⟨_, rfl, by rw [if_neg he]; exact RowR.nil _, b, own_nil⟩

def numR : Value → Nat | .int _ q => q.toNat | _ => 0

set_option maxRecDepth 100000 in
set_option maxHeartbeats 1000000 in
theorem refRead_any {w : World} {v : Value} {c : List Int} (h : IsB w v c) (hl : c.length ≤ 100000) {rs : List Rc} {er : Int} (hr : readB false c = (rs, er)) :
    Calls Try.prog 22 #[v] w (RefP w rs er) := by
  obtain ⟨va, cap, rfl, hcap⟩ := h.form
  have H := hide h
  have HR := hide hr
  obtain ⟨N, hN⟩ : ∃ N, N = c.length := ⟨_, rfl⟩
  have HN := hide hN
  rw [← hN] at hcap hl H ⊢
  have R0 := hide (rowR_empty w)
  have B0 := hide ((Below.refl w.heap.size w).alloc (Nat.le_refl _) (.cells #[] 48))
  clear h hr hN
  go_enter Try.func22, Try.ntmps22
  go_wp2
  go_loopw [4, 5, 6] (fun v4 v5 v6 wr => ∃ (a : Nat) (s : Bool) (done : List Rc), v5 = .bool s ∧ v6 = .int .i64 a ∧ a ≤ N ∧ done.length ≤ a ∧ Hid ((rs, er) = (done ++ (readB s (c.drop a)).1, (readB s (c.drop a)).2)) ∧ Hid (RowR wr v4 done ∧ Below w.heap.size w wr ∧ ∀ x ∈ own v4, w.heap.size ≤ x)) (fun _ _ v6 _ => N + 1 - numR v6)
  case atStart => exact ⟨0, false, [], rfl, by first | rfl | go_num, Nat.zero_le _, Nat.le_refl _, by show _ = _; rw [List.drop_zero, HR.out]; rfl, R0.out, B0.out, by simp [own, Value.ownBlock]⟩
  case round =>
    obtain ⟨a, s, done, rfl, rfl, ha, hdl, HE, HW⟩ := hrel
    by_cases haN : a < N
    · have haN' : (a : Int) < (N : Int) := by omega
      have sl := slice_from va N cap a ha
      obtain ⟨dp, hdp⟩ : ∃ dp, dp = (if cap = a then va else va.map (·.add a)) := ⟨_, rfl⟩
      rw [← hdp] at sl
      have I1 := (H.out.below HW.out.2.1).from a ha
      rw [← hdp] at I1
      have hne : c.drop a ≠ [] := by
        intro e
        have := congrArg List.length e
        rw [List.length_drop, ← HN.out] at this
        simp at this
        omega
      have DC := refDecode_any _ _ wr I1 (by rw [List.length_drop, ← HN.out]; omega)
      have hpos := decB_pos (c.drop a)
      rw [List.length_drop, ← HN.out] at hpos
      have hbad := readB_bad (s := s) hne
      have hform := readB_form (s := s) hne
      have hmore := readB_more hne
      rw [List.drop_drop] at hmore
      generalize decB (c.drop a) = D at DC hpos hbad hform hmore
      obtain ⟨t, m, e1⟩ := D
      dsimp only at hpos hbad hform hmore
      have HDC := hide DC
      clear I1 hne DC hdp
      by_cases he : e1 = 0
      · subst he
        obtain ⟨p1, p2, p3, p4⟩ := hpos rfl
        by_cases hbd : s = true ∨ rightB t = false
        · have hE := HE.out
          rw [hform rfl hbd] at hE
          simp only [Prod.mk.injEq] at hE
          obtain ⟨rfl, rfl⟩ := hE
          clear hbad hform hmore hpos
          obtain ⟨n, hn⟩ : ∃ n, n = t.length := ⟨_, rfl⟩
          have hn4 : n ≤ 1000 := by omega
          have hnr : s = true ∨ ¬ (16 ≤ n ∧ n ≤ 800 ∧ n % 16 = 0) := by
            rcases hbd with h | h
            · exact .inl h
            · refine .inr (fun h2 => ?_)
              rw [hn] at h2
              rw [rightB_iff.2 h2] at h
              simp at h
          have HNR := hide hnr
          have HN2 := hide hn
          clear hbd hnr hn p1 p2 p3 p4
          go_wp2_with fail
          refine HDC.out.mono ?_
          rintro e w2 ⟨u2, rfl, i2, b2, n2⟩
          dsimp only at i2
          obtain ⟨ua, ucap, rfl, _⟩ := i2.form
          rw [← HN2.out]
          have HB2 := hide (HW.out.2.1.trans (b2.mono HW.out.2.1.size))
          clear i2 b2 n2
          by_cases h0 : n = 0
          · subst h0
            go_wp2
            go_ret2
            exact RefP.no (by omega) HB2.out
          · have h0' : ¬ (n : Int) = 0 := by omega
            have hbe : ((n : Int) == 0) = false := by simpa using h0'
            by_cases h1 : n % 16 = 0
            · have h1' : (n : Int) % 16 = 0 := by omega
              have h1t : (n : Int).tmod 16 = 0 := by rw [Int.tmod_eq_emod_of_nonneg (by omega)]; omega
              by_cases h2 : 800 < n
              · have h2' : (800 : Int) < (n : Int) := by omega
                go_wp2
                go_ret2
                exact RefP.no (by omega) HB2.out
              · have h2' : ¬ (800 : Int) < (n : Int) := by omega
                obtain rfl : s = true := by
                  rcases HNR.out with h | h
                  · exact h
                  · exact absurd ⟨by omega, by omega, h1⟩ h
                go_wp2
                go_ret2
                exact RefP.no (by omega) HB2.out
            · have h1' : ¬ (n : Int) % 16 = 0 := by omega
              have h1t : ¬ (n : Int).tmod 16 = 0 := by rw [Int.tmod_eq_emod_of_nonneg (by omega)]; omega
              go_wp2
              go_ret2
              exact RefP.no (by omega) HB2.out
        · have hs : s = false := by
            cases s with
            | false => rfl
            | true => exact absurd (.inl rfl) hbd
          subst hs
          have hrt : rightB t = true := by
            cases hq : rightB t with
            | true => rfl
            | false => exact absurd (.inr hq) hbd
          obtain ⟨r1, r2, r3⟩ := rightB_iff.1 hrt
          have hE := HE.out
          rw [hmore rfl hrt] at hE
          obtain ⟨n, hn⟩ : ∃ n, n = t.length := ⟨_, rfl⟩
          rw [← hn] at hE r1 r2 r3 p3
          obtain ⟨J, hJ⟩ : ∃ J, n = 16 * J := ⟨n / 16, by omega⟩
          have hrT : recsT t = recsOf J t := by rw [recsT, ← hn, show n / 16 = J by omega]
          rw [hrT] at hE
          have HE2 := hide hE
          have HN2 := hide hn
          have HJ := hide hJ
          have h0 : ¬ n = 0 := by omega
          have h0' : ¬ (n : Int) = 0 := by omega
          have hbe : ((n : Int) == 0) = false := by simpa using h0'
          have h1' : (n : Int) % 16 = 0 := by omega
          have h1t : (n : Int).tmod 16 = 0 := by rw [Int.tmod_eq_emod_of_nonneg (by omega)]; omega
          have h2' : ¬ (800 : Int) < (n : Int) := by omega
          have h2 : ¬ 800 < n := by omega
          have hw9 : IntKind.i64.wrap ((a : Int) + (m : Int)) = (a : Int) + (m : Int) := i64_small _ (by omega) (by omega)
          clear hbad hform hmore hpos hbd hrt hE hn hJ hrT HE r3
          go_wp2_with fail
          refine HDC.out.mono ?_
          rintro e w2 ⟨u2, rfl, i2, b2, n2⟩
          dsimp only at i2
          obtain ⟨ua, ucap, rfl, _⟩ := i2.form
          rw [← HN2.out]
          rw [← HN2.out] at i2 n2
          have HI2 := hide i2
          have HB2 := hide b2
          have HU2 := hide n2
          have HR2 : Hid (RowR w2 u4 done) := HW.out.1.kept (Kept.of_below (fp := []) b2) (fun _ _ => by simp)
          clear i2 b2 n2
          go_wp2
          obtain ⟨wo, hwo⟩ : ∃ wo, wo = w2 := ⟨_, rfl⟩
          subst hwo
          go_loopw [4, 10] (fun v4 v10 wi => ∃ (j : Nat) (i : Nat), v10 = .int .i64 i ∧ Hid (i = 16 * j) ∧ j ≤ J ∧ Hid (RowR wi v4 (done ++ recsOf j t) ∧ Kept (own u4) wo wi ∧ Newly wo (own u4) (own v4))) (fun _ v10 _ => n + 1 - numR v10)
          case atStart => exact ⟨0, 0, by first | rfl | go_num, rfl, Nat.zero_le _, by rw [recsOf, List.append_nil]; exact HR2.out, Kept.refl _ _, Newly.refl _ _⟩
          case round =>
            obtain ⟨j, i, rfl, HIJ, hjJ, HT⟩ := hrel
            have hjb : j ≤ 1000 := by have := HJ.out; omega
            have hib : i ≤ 16000 := by have := HIJ.out; omega
            have hw1 : IntKind.i64.wrap ((i : Int) + 16) = (i : Int) + 16 := i64_small _ (by omega) (by omega)
            have hw2 : IntKind.i64.wrap ((i : Int) + 8) = (i : Int) + 8 := i64_small _ (by omega) (by omega)
            by_cases hin : i < n
            · have hin' : (i : Int) < (n : Int) := by omega
              have hi16 : i + 16 ≤ n := by have := HJ.out; have := HIJ.out; omega
              have isb := HI2.out.kept HT.out.2.1 (fun hne x hx e => by
                have h1 := HU2.out x hx
                have h2 := HW.out.1.low x e
                omega)
              have G1 := hide (fun (W : World) (h : IsB W (.slice ua n ucap) t) => refGet_yes _ t i 8 W h (by have := HN2.out; omega) (by omega) (by omega) (by have := HN2.out; omega))
              have G2 := hide (fun (W : World) (h : IsB W (.slice ua n ucap) t) => refGet_yes _ t (i + 8) 8 W h (by have := HN2.out; omega) (by omega) (by omega) (by have := HN2.out; omega))
              rw [show ((i + 8 : Nat) : Int) = (i : Int) + 8 by omega] at G2
              have hrec : recAt (t.drop (16 * j)) = (valB 256 ((t.drop i).take 8), valB 256 ((t.drop (i + 8)).take 8)) := by
                rw [recAt, List.drop_drop, ← HIJ.out]
              have hok := recAt_ok (t.drop (16 * j)) (fun z hz => isb.bytes z (List.mem_of_mem_drop hz))
              rw [hrec] at hok
              obtain ⟨x1, hx1⟩ : ∃ x, x = valB 256 ((t.drop i).take 8) := ⟨_, rfl⟩
              obtain ⟨x2, hx2⟩ : ∃ x, x = valB 256 ((t.drop (i + 8)).take 8) := ⟨_, rfl⟩
              rw [← hx1] at G1 hrec hok
              rw [← hx2] at G2 hrec hok
              have HREC := hide hrec
              have HISB := hide isb
              have HONE := hide (isR_one wr x1 x2 hok)
              have HRA : Hid (RowR (wr.alloc (.cells #[.int .u64 x1, .int .u64 x2] 48)) u4 (done ++ recsOf j t)) := HT.out.1.kept ((Kept.refl [] wr).alloc _) (fun _ _ => by simp)
              have hlen : Hid ((done ++ recsOf j t).length + [(x1, x2)].length ≤ 1099511627776) := by
                show _ ≤ _
                rw [List.length_append, recsOf_length, List.length_singleton]
                omega
              clear isb hrec hok hx1 hx2
              go_wp2_with fail
              refine (G1.out _ HISB.out).mono ?_
              rintro e w3 ⟨rfl, rfl⟩
              go_wp2_with fail
              refine (G2.out _ HISB.out).mono ?_
              rintro e w4 ⟨rfl, rfl⟩
              go_wp2_with (at_builtin; refine wp_appendRc _ rfl _ _ rfl u4 (.slice (some ⟨w4.heap.size, 0, none⟩) 1 1) (done ++ recsOf j t) [(x1, x2)] rfl HRA.out rfl HONE.out hlen.out ?_; intro v5 w5 r5 k5 n5; have R5 := hide r5; have K5 := hide (And.intro k5 n5); clear r5 k5 n5)
              go_roundw
              case rel =>
                obtain ⟨k5, n5⟩ := K5.out
                have hkk := HT.out.2.1
                refine ⟨j + 1, i + 16, by go_num, by show _ = _; have := HIJ.out; omega, by have := HJ.out; have := HIJ.out; omega, ?_, (hkk.alloc _).trans k5 HT.out.2.2, fun x hx => ?_⟩
                · rw [recsOf_snoc, HREC.out, ← List.append_assoc]
                  exact R5.out
                · rcases n5 x hx with e | e
                  · exact HT.out.2.2 x e
                  · rw [World.size_alloc] at e
                    have := hkk.size
                    exact .inr (by omega)
              case measure => simp [numR]; omega
            · have hjJ2 : j = J := by have := HJ.out; have := HIJ.out; omega
              subst hjJ2
              go_wp2
              go_roundw
              case rel =>
                refine ⟨a + m, decide ((n : Int) < 800), done ++ recsOf j t, by simp, by go_num, by omega, ?_, ?_, HT.out.1, ?_, fun x hx => ?_⟩
                · have := HJ.out
                  rw [List.length_append, recsOf_length]
                  omega
                · show _ = _
                  rw [HE2.out, List.append_assoc]
                  have e9 : decide (n < 800) = decide ((n : Int) < 800) := decide_eq_decide.2 (by omega)
                  rw [e9]
                · have b1 := HW.out.2.1
                  have b2 := b1.trans (HB2.out.mono b1.size)
                  refine b2.trans (HT.out.2.1.below b2.size (fun x hx => HW.out.2.2 x hx))
                · rcases HT.out.2.2 x hx with e | e
                  · exact HW.out.2.2 x e
                  · have := HW.out.2.1.size
                    have := HB2.out.size
                    omega
              case measure => simp [numR]; omega
      · have hE := HE.out
        rw [hbad he] at hE
        simp only [Prod.mk.injEq] at hE
        obtain ⟨rfl, rfl⟩ := hE
        clear hbad hform hmore hpos
        go_wp2_with fail
        refine HDC.out.mono ?_
        rintro e w2 ⟨u2, rfl, i2, b2, n2⟩
        have HB2 := hide (HW.out.2.1.trans (b2.mono HW.out.2.1.size))
        clear i2 b2 n2
        go_wp2
        go_ret2
        exact RefP.no (by omega) HB2.out
    · have hE := HE.out
      rw [List.drop_of_length_le (by have := HN.out; omega), readB_nil] at hE
      simp only [List.append_nil, Prod.mk.injEq] at hE
      obtain ⟨rfl, rfl⟩ := hE
      have haN' : ¬ (a : Int) < (N : Int) := by omega
      go_wp2
      go_ret2
      exact ⟨u4, rfl, by rw [if_pos rfl]; exact HW.out.1, HW.out.2.1, HW.out.2.2⟩

end Go.Proofs.Ytdhajmgpakconaa

namespace Go.Proofs.Ytdhajmgpakconaa
open Go.RowKit Go.Maps

theorem readN_len16 (n : Nat) (s : Bool) (c : List Int) : 16 * (readN n s c).1.length ≤ c.length := by
  induction n generalizing s c with
  | zero => simp [readN]
  | succ n ih =>
    rw [readN]
    split
    · simp
    · split
      · simp
      · rename_i h1 h2
        split
        · simp
        · have h3 := decB_pos c (by simpa using h2)
          have h4 : 16 * (recsT (decB c).1).length ≤ (decB c).1.length := by rw [recsT, recsOf_length]; omega
          have h5 := ih (decide ((decB c).1.length < 800)) (c.drop (decB c).2.1)
          rw [List.length_drop] at h5
          rw [List.length_append]
          omega
theorem readB_len16 (s : Bool) (c : List Int) : 16 * (readB s c).1.length ≤ c.length := readN_len16 _ s c

theorem size_up {l : List Ab} {R U k : Int} {n : List UInt8} {x : Ab} {m : Nat} (hx : lookA l n = some x) (hm : m = x.2.1.length) : sizeA (l, upS R U k) n = ((m : Int), 0) := by
  unfold sizeA errA
  rw [if_neg (by simp [upS])]
  dsimp only
  rw [hx]
  dsimp only
  rw [hm]

end Go.Proofs.Ytdhajmgpakconaa
