/-
  Pools: within, Resident, each. A lemma file: no statement of the seat is proved here.
-/
import Derived.Test.YtbhjdcoehgajcaaPHold
namespace Go.Proofs.Ytbhjdcoehgajcaa.L.P
open Go.RowKit Go.Maps

def numP (v : Value) : Nat := match v with | .int _ n => n.toNat | _ => 0

section
variable {w w' : World} {fp : List Nat} {q d o : Nat} {fr : Int} {N : Nat} {l : List Ab} {s : Ds} {ord : List (Place × Nat)} {gs : List Pg}

set_option maxRecDepth 100000 in
set_option maxHeartbeats 400000 in
theorem within_err (h : Pl w fp q d o fr N l s ord gs) (hn : s.ops ≤ 1000000) (nm : ByteArray) (hnm : nm.size ≤ maxLen) (at_ n : Int) {z k : Int} (hz : sizeA (beginA l s) nm.data.toList = (z, k)) (hk : k ≠ 0) :
    Calls Try.prog 28 #[.pointer (some ⟨q, 0, none⟩), .string nm, .int .i64 at_, .int .i64 n] w fun e w' => e = .returned (.tuple #[.int .i64 0, .int .i64 k]) ∧ PlO w w' fp q d o fr N (beginA l s).1 (beginA l s).2 ord gs := by
  have SZ := hide (h.size hn nm hnm)
  rw [hz] at SZ
  obtain ⟨bm, _, c0, _, _⟩ := h.cells
  have hk2 : (k == 0) = false := by simpa using hk
  clear h hz
  go_enter Try.func28, Try.ntmps28
  go_wp2_with (go_at_call 45; refine SZ.out.mono ?_; rintro e w1 ⟨rfl, o1⟩; have O1 := hide o1; clear o1)
  go_ret2
  exact ⟨rfl, O1.out⟩

set_option maxRecDepth 100000 in
set_option maxHeartbeats 400000 in
theorem within_ok (h : Pl w fp q d o fr N l s ord gs) (hn : s.ops ≤ 1000000) (nm : ByteArray) (hnm : nm.size ≤ maxLen) (at_ n : Int) {L : Nat} (hz : sizeA (beginA l s) nm.data.toList = ((L : Int), 0)) (hL : L ≤ 1000000000) (h0 : 0 ≤ at_) (h1 : 0 ≤ n) (h2 : n ≤ (L : Int) - at_) :
    Calls Try.prog 28 #[.pointer (some ⟨q, 0, none⟩), .string nm, .int .i64 at_, .int .i64 n] w fun e w' => e = .returned (.tuple #[.int .i64 L, .int .i64 0]) ∧ PlO w w' fp q d o fr N (beginA l s).1 (beginA l s).2 ord gs := by
  have SZ := hide (h.size hn nm hnm)
  rw [hz] at SZ
  obtain ⟨bm, _, c0, _, _⟩ := h.cells
  have g0 : ¬ at_ < 0 := by omega
  have g1 : ¬ n < 0 := by omega
  have g2 : ¬ (L : Int) - at_ < n := by omega
  have g3 : IntKind.i64.wrap ((L : Int) - at_) = (L : Int) - at_ := i64_small _ (by omega) (by omega)
  clear h hz
  go_enter Try.func28, Try.ntmps28
  go_wp2_with (go_at_call 45; refine SZ.out.mono ?_; rintro e w1 ⟨rfl, o1⟩; have O1 := hide o1; clear o1)
  go_ret2
  exact ⟨rfl, O1.out⟩

set_option maxRecDepth 100000 in
set_option maxHeartbeats 400000 in
theorem within_arg (h : Pl w fp q d o fr N l s ord gs) (hn : s.ops ≤ 1000000) (nm : ByteArray) (hnm : nm.size ≤ maxLen) (at_ n : Int) {L : Nat} (hz : sizeA (beginA l s) nm.data.toList = ((L : Int), 0)) (hL : L ≤ 1000000000) (hat : at_ ≤ 9223372036854775807) (hb : at_ < 0 ∨ n < 0 ∨ (L : Int) - at_ < n) :
    Calls Try.prog 28 #[.pointer (some ⟨q, 0, none⟩), .string nm, .int .i64 at_, .int .i64 n] w fun e w' => e = .returned (.tuple #[.int .i64 0, .int .i64 1]) ∧ PlO w w' fp q d o fr N (beginA l s).1 (beginA l s).2 ord gs := by
  have SZ := hide (h.size hn nm hnm)
  rw [hz] at SZ
  obtain ⟨bm, _, c0, _, _⟩ := h.cells
  clear h hz
  have hc : at_ < 0 ∨ (¬ at_ < 0 ∧ n < 0) ∨ (¬ at_ < 0 ∧ ¬ n < 0 ∧ (L : Int) - at_ < n) := by omega
  clear hb
  rcases hc with g0 | ⟨g0, g1⟩ | ⟨g0, g1, g2⟩
  · go_enter Try.func28, Try.ntmps28
    go_wp2_with (go_at_call 45; refine SZ.out.mono ?_; rintro e w1 ⟨rfl, o1⟩; have O1 := hide o1; clear o1)
    go_ret2
    exact ⟨rfl, O1.out⟩
  · go_enter Try.func28, Try.ntmps28
    go_wp2_with (go_at_call 45; refine SZ.out.mono ?_; rintro e w1 ⟨rfl, o1⟩; have O1 := hide o1; clear o1)
    go_ret2
    exact ⟨rfl, O1.out⟩
  · have g3 : IntKind.i64.wrap ((L : Int) - at_) = (L : Int) - at_ := i64_small _ (by omega) (by omega)
    go_enter Try.func28, Try.ntmps28
    go_wp2_with (go_at_call 45; refine SZ.out.mono ?_; rintro e w1 ⟨rfl, o1⟩; have O1 := hide o1; clear o1)
    go_ret2
    exact ⟨rfl, O1.out⟩

set_option maxRecDepth 100000 in
set_option maxHeartbeats 400000 in
theorem resident_any (h : Pl w fp q d o fr N l s ord gs) : Calls Try.prog 17 #[.pointer (some ⟨q, 0, none⟩)] w fun e w' => e = .returned (.int .i64 gs.length) ∧ w' = w := by
  obtain ⟨fd, fo, bm, h1, h2, h3, rfl, a1, a2, a3⟩ := h
  obtain ⟨c0, c1, c2⟩ := h3.cellAt
  obtain ⟨D, hown, hD⟩ := h3.map
  have LN : ∀ ty, (Builtin.len_ #[55] ty #[.map (some bm)]).run Try.prog w = .ok (.int .i64 gs.length) w := fun ty => by
    rw [hown.len Try.underlying55 ty, hD.size]
    simp
  clear h1 h2 h3 hown hD
  go_enter Try.func17, Try.ntmps17
  go_wp2
  go_ret
  exact ⟨rfl, rfl⟩

end

set_option maxRecDepth 100000 in
set_option maxHeartbeats 1000000 in
/-- each, for whatever is done with a page. -/
theorem each_any {w : World} (q at_ n size : Nat) (nm : ByteArray) (ha : at_ ≤ 1000000) (hn : n ≤ 1000000) (hs : size ≤ 1000000) (hfit : at_ + n ≤ size) (f : Nat) (lb : Array Value) (ef : ∀ args w, (callFunc f args).run Try.prog w = .ok (.enter f args) w) (I : Nat → World → Prop) (h0 : I 0 w)
    (hI : ∀ done W, done < n → I done W → ∃ k : Place, k.1.1 = nm ∧ k.1.2 = ((at_ + done - (at_ + done) % 64 : Nat) : Int) ∧
      Calls Try.prog 46 #[.pointer (some ⟨q, 0, none⟩), encP k, .int .i64 (min 64 (size - (at_ + done - (at_ + done) % 64)) : Nat)] W fun e W1 => ∃ gb, e = .returned (.tuple #[.pointer (some ⟨gb, 0, none⟩), .int .i64 0]) ∧
        Calls Try.prog f (#[.pointer (some ⟨gb, 0, none⟩), .int .i64 ((at_ + done) % 64 : Nat), .int .i64 done] ++ lb) W1 fun e W2 => e = .returned (.tuple #[]) ∧ I (done + (64 - (at_ + done) % 64)) W2) :
    Calls Try.prog 29 #[.pointer (some ⟨q, 0, none⟩), .string nm, .int .i64 at_, .int .i64 n, .int .i64 size, .func (.func f) #[] lb] w fun e w' => e = .returned (.int .i64 0) ∧ ∃ done, n ≤ done ∧ I done w' := by
  have HI := hide hI
  have H0 := hide h0
  clear hI h0
  go_enter Try.func29, Try.ntmps29
  go_wp2_with fail
  go_loopw [13] (fun v wr => ∃ dn : Nat, v = .int .i64 dn ∧ dn ≤ n + 64 ∧ Hid (I dn wr)) (fun v _ => n + 64 - numP v)
  case atStart => exact ⟨0, rfl, Nat.zero_le _, H0⟩
  case round =>
    obtain ⟨dn, rfl, hdn, HD⟩ := hrel
    by_cases hlt : dn < n
    · have hl2 : (dn : Int) < (n : Int) := by omega
      obtain ⟨k, k1, k2, HC⟩ := HI.out dn wr hlt HD.out
      obtain ⟨A, hA⟩ : ∃ A, A = at_ + dn := ⟨_, rfl⟩
      obtain ⟨R, hR⟩ : ∃ R, R = A % 64 := ⟨_, rfl⟩
      obtain ⟨S, hS⟩ : ∃ S, S = A - R := ⟨_, rfl⟩
      obtain ⟨T, hT⟩ : ∃ T, T = size - S := ⟨_, rfl⟩
      obtain ⟨U, hU⟩ : ∃ U, U = 64 - R := ⟨_, rfl⟩
      obtain ⟨V, hV⟩ : ∃ V, V = dn + U := ⟨_, rfl⟩
      rw [← hA, ← hR, ← hS] at k2
      rw [← hA, ← hR, ← hS, ← hT, ← hU, ← hV] at HC
      have m1 : (at_ : Int) + (dn : Int) = (A : Int) := by omega
      have m2 : (A : Int).tmod 64 = (R : Int) := by rw [Int.tmod_eq_emod_of_nonneg (by omega)]; omega
      have m3 : (A : Int) - (R : Int) = (S : Int) := by omega
      have m4 : (size : Int) - (S : Int) = (T : Int) := by omega
      have m5 : (64 : Int) - (R : Int) = (U : Int) := by omega
      have m6 : (dn : Int) + (U : Int) = (V : Int) := by omega
      have b1 : A ≤ 3000000 := by omega
      have b2 : R < 64 := by omega
      have b3 : S ≤ 3000000 := by omega
      have b4 : T ≤ 1000000 := by omega
      have b5 : U ≤ 64 := by omega
      have b6 : V ≤ 2000000 := by omega
      have w1 : IntKind.i64.wrap (A : Int) = (A : Int) := i64_small _ (by omega) (by omega)
      have w2 : IntKind.i64.wrap (R : Int) = (R : Int) := i64_small _ (by omega) (by omega)
      have w3 : IntKind.i64.wrap (S : Int) = (S : Int) := i64_small _ (by omega) (by omega)
      have w4 : IntKind.i64.wrap (T : Int) = (T : Int) := i64_small _ (by omega) (by omega)
      have w5 : IntKind.i64.wrap (U : Int) = (U : Int) := i64_small _ (by omega) (by omega)
      have w6 : IntKind.i64.wrap (V : Int) = (V : Int) := i64_small _ (by omega) (by omega)
      have hmin : ∀ (ts : Array TypeId) (t : TypeId) (W : World), (Builtin.min_ ts t #[.int .i64 64, .int .i64 (T : Int)]).run Try.prog W = .ok (.int .i64 ((min 64 T : Nat) : Int)) W := by
        intro ts t W
        rw [run_min_int2]
        congr 2
        split <;> omega
      have eK : encP k = .agg #[.string nm, .int .i64 (S : Int)] := by simp [encP, k1, k2]
      rw [eK] at HC
      have HCC := hide HC
      have HV : Hid (V ≤ n + 64 ∧ dn < V) := ⟨by omega, by omega⟩
      generalize (min 64 T : Nat) = M at HCC hmin
      clear hA hR hS hT hU hV HC k1 k2 eK
      go_wp2_with fail
      refine HCC.out.mono ?_
      rintro e W1 ⟨gb, rfl, hc⟩
      have H1 := hide hc
      clear hc HCC
      go_wp2_with fail
      refine H1.out.mono ?_
      rintro e W2 ⟨rfl, hI2⟩
      have HI2 := hide hI2
      clear hI2 H1
      go_wp2_with fail
      go_roundw
      case rel => exact ⟨V, rfl, HV.out.1, HI2⟩
      case measure => have := HV.out; simp [numP]; omega
    · have hl2 : ¬ (dn : Int) < (n : Int) := by omega
      go_wp2_with fail
      go_ret
      exact ⟨rfl, dn, by omega, HD.out⟩

end Go.Proofs.Ytbhjdcoehgajcaa.L.P
