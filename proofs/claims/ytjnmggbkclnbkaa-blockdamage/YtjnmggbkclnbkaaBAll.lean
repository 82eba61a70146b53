/-
  What block's All does. A lemma file: no statement of the seat is proved here.
-/
import Derived.Test.YtjnmggbkclnbkaaBJoin
namespace Go.Proofs.Ytjnmggbkclnbkaa
open Go.RowKit Go.Maps

/-- What All tells from a place on, with so many rounds: the texts, the place, the error. -/
def allF : Nat → List Int → Nat → List (List Int) → List (List Int) × Nat × Int
  | 0, _, _, acc => (acc, 0, 0)
  | f + 1, bs, at_, acc => if bs.length ≤ at_ then (acc, 0, 0) else
      if (decB (bs.drop at_)).2.2 = 0 then allF f bs (at_ + (decB (bs.drop at_)).2.1) (acc ++ [(decB (bs.drop at_)).1]) else ([], at_, (decB (bs.drop at_)).2.2)

def allB (bs : List Int) : List (List Int) × Nat × Int := allF (bs.length + 1) bs 0 []

theorem decB_ok (bs : List Int) (h : (decB bs).2.2 = 0) : 6 ≤ (decB bs).2.1 ∧ (decB bs).2.1 ≤ bs.length ∧ (decB bs).1.length + 6 = (decB bs).2.1 ∧ (decB bs).2.1 ≤ 1006 := by
  revert h
  unfold decB
  split
  · simp
  · split
    · simp
    · split
      · simp
      · split
        · simp
        · intro _
          refine ⟨by simp, by simp; omega, ?_, by simp; omega⟩
          simp
          omega

theorem decB_err (bs : List Int) (h : (decB bs).2.2 ≠ 0) : (decB bs).1 = [] ∧ (decB bs).2.1 = 0 ∧ ((decB bs).2.2 = 2 ∨ (decB bs).2.2 = 3) := by
  revert h
  unfold decB
  split
  · simp
  · split
    · simp
    · split
      · simp
      · split
        · simp
        · simp

/-- A slice's end. -/
theorem IsB.drop {w : World} {a : Option Addr} {len cap : Nat} {bs : List Int} (h : IsB w (.slice a len cap) bs) (b off : Nat) (ha : a = some ⟨b, off, none⟩) (p : Nat) (hp : p ≤ len) : IsB w (.slice (some ⟨b, off + p, none⟩) (len - p) (cap - p)) (bs.drop p) := by
  subst ha
  have hl : bs.length = len := by
    obtain ⟨_, _, he, _⟩ := h
    simp at he
    omega
  have := h.mid p (len - p) (by omega)
  rw [List.take_of_length_le (by simp; omega)] at this
  exact this

/-- What All leaves. -/
def AllP (w : World) (R : List (List Int) × Nat × Int) (e : Ending) (w' : World) : Prop :=
  ∃ v', e = .returned (.tuple #[v', .int .i64 R.2.1, .int .i64 R.2.2]) ∧ RowT w' v' R.1 ∧ Below w.heap.size w w'

set_option maxRecDepth 100000 in
set_option maxHeartbeats 1000000 in
theorem all_any (v : Value) (bs : List Int) (w : World) (hb : IsB w v bs) (hl : bs.length ≤ 1099511627776) :
    Calls Try.prog 19 #[v] w (AllP w (allB bs)) := by
  obtain ⟨R, hR⟩ : ∃ R, R = allB bs := ⟨_, rfl⟩
  rw [← hR]
  have HR := hide hR
  have HI := hide hb
  obtain ⟨a, cap, rfl, hlc⟩ := hb.form
  clear hb hR
  go_enter Try.func19, Try.ntmps19
  go_wp2
  go_loopw [5, 6, 7, 8, 9] (fun l i _ _ _ wr => ∃ (k f : Nat) (acc : List (List Int)), k ≤ bs.length ∧ i = .int .i64 k ∧ acc.length ≤ k ∧ bs.length < k + f ∧ Hid (R = allF f bs k acc) ∧ Hid (RowT wr l acc) ∧ Hid (∀ x ∈ own l, w.heap.size ≤ x) ∧ Hid (Below w.heap.size w wr)) (fun _ i _ _ _ _ => bs.length - (intOf i).toNat)
  case atStart => exact ⟨0, bs.length + 1, [], Nat.zero_le _, rfl, by simp, by omega, HR, RowT.nil w, by simp [Hid, Value.ownBlock], Below.refl _ _⟩
  case round =>
    obtain ⟨k, f, acc, hk, rfl, hal, hf, HRk, HA, HF, HB⟩ := hrel
    obtain ⟨f', rfl⟩ : ∃ f', f = f' + 1 := ⟨f - 1, by omega⟩
    by_cases hlt : k < bs.length
    · have hi := HI.out.below HB.out
      obtain ⟨b, off, cap', he, _, _⟩ := hi.opened (by omega)
      simp only [Value.slice.injEq, true_and] at he
      obtain ⟨rfl, rfl⟩ := he
      have hD := decode_any _ _ wr (hi.drop b off rfl k (by omega)) (by simp; omega)
      have hok := decB_ok (bs.drop k)
      have hstep : R = if (decB (bs.drop k)).2.2 = 0 then allF f' bs (k + (decB (bs.drop k)).2.1) (acc ++ [(decB (bs.drop k)).1]) else ([], k, (decB (bs.drop k)).2.2) := by
        rw [HRk.out, allF, if_neg (by omega)]
      obtain ⟨D, hDD⟩ : ∃ D, D = decB (bs.drop k) := ⟨_, rfl⟩
      rw [← hDD] at hD hstep hok
      obtain ⟨t, n, er⟩ := D
      dsimp only at hstep hok
      have HD := hide hD
      have HST := hide hstep
      have HOK := hide hok
      clear hi hD hstep hok hDD
      by_cases her : er = 0
      · subst her
        obtain ⟨hn6, hnl, htn, hn1⟩ := HOK.out rfl
        rw [List.length_drop] at hnl
        rw [if_pos rfl] at HST
        go_wp2_with fail
        refine HD.out.mono ?_
        rintro e w1 ⟨v1, rfl, i1, b1, f1⟩
        dsimp only at i1 ⊢
        obtain ⟨a1, c1, rfl, _⟩ := i1.form
        have hs1 := b1.size
        have hs0 := HB.out.size
        have HA1 := hide (HA.out.below b1)
        have hla := HA.out.lt
        obtain ⟨la, lc, rfl⟩ := HA.out.slice
        have I1 := hide i1
        have DIS : Hid (t ≠ [] → ∀ x ∈ own (Value.slice a1 t.length c1), x ∉ own (Value.slice la acc.length lc)) := fun _ x hx hy => absurd (f1 x hx) (by have := hla x hy; omega)
        clear i1 f1 hla
        go_wp2_with (at_builtin; refine wp_pushT w1 rfl _ _ rfl (.slice la acc.length lc) (.slice a1 t.length c1) acc t rfl HA1.out rfl I1.out DIS.out (by omega) ?_; intro v2 w2 r2 k2 n2)
        go_roundw
        case rel =>
          refine ⟨k + n, f', acc ++ [t], by omega, by go_num, by simp; omega, by omega, HST, r2, fun x hx => ?_, ?_⟩
          · rcases n2 x hx with h | h
            · exact HF.out x h
            · omega
          · exact (below_then HB.out b1).trans (k2.below (by omega) HF.out)
        case measure => simp [intOf]; omega
      · have hRR := HST.out
        rw [if_neg her] at hRR
        subst hRR
        go_wp2_with fail
        refine HD.out.mono ?_
        rintro e w1 ⟨v1, rfl, i1, b1, f1⟩
        obtain ⟨a1, c1, rfl, _⟩ := i1.form
        dsimp only
        go_wp2
        go_ret3
        exact ⟨_, rfl, RowT.nil _, below_then HB.out b1⟩
    · have hRR := HRk.out
      rw [allF, if_pos (by omega)] at hRR
      subst hRR
      obtain ⟨la, lc, rfl⟩ := HA.out.slice
      go_wp2
      go_ret3
      exact ⟨_, rfl, HA.out, HB.out⟩

end Go.Proofs.Ytjnmggbkclnbkaa
