/-
  What block's Decode does. A lemma file: no statement of the seat is proved here.
-/
import Derived.Test.YtjnmggbkclnbkaaBEnc
namespace Go.Proofs.Ytjnmggbkclnbkaa
open Go.RowKit

theorem Try.eqlSome (ad : Addr) (n c : Nat) (w : World) : (binOp .eql 25 (.slice (some ad) n c) (.slice none 0 0)).run Try.prog w = .ok (.bool false) w := by kernel_rfl

set_option maxHeartbeats 1000000 in
/-- bytes.Clone, of what is not nil. -/
theorem bclone_any (ad : Addr) (len c : Nat) (bs : List Int) (w : World) (hv : IsB w (.slice (some ad) len c) bs) (hn : bs.length = len) (hl : len ≤ 1099511627776) :
    Calls Try.prog 26 #[.slice (some ad) len c] w fun e w' => ∃ g cap, e = .returned (.slice (some ⟨g, 0, none⟩) len cap) ∧ OwnB w.heap.size w' g cap bs ∧ Below w.heap.size w w' := by
  subst hn
  have O0 := hide (OwnB.empty w w.heap.size (Nat.le_refl _))
  have HB := hide (hv.below ((Below.refl _ w).alloc (Nat.le_refl _) (.cells #[] 5)))
  clear hv
  have q := Try.eqlSome ad
  go_enter Try.func26, Try.ntmps26
  go_wp2_with (first | (at_builtin; refine wp_appendB _ rfl _ _ rfl w.heap.size w.heap.size 0 [] bs _ rfl O0.out rfl HB.out (by simp; omega) (by simp) ?_; intro g2 cap2 w2 o2 b2) | go_in)
  go_ret
  exact ⟨g2, cap2, by simp, by simpa using o2, ((Below.refl _ w).alloc (Nat.le_refl _) _).trans b2⟩

/-- How many bytes the text of a block has. -/
def sizeB (bs : List Int) : Nat := (valB 256 (bs.take 2)).toNat

/-- What Decode tells: the text, how many bytes the block has, the error. -/
def decB (bs : List Int) : List Int × Nat × Int :=
  if bs.length < 2 then ([], 0, 2) else
  if 1000 < sizeB bs then ([], 0, 2) else
  if bs.length < sizeB bs + 6 then ([], 0, 2) else
  if valB 256 ((bs.drop (sizeB bs + 2)).take 4) ≠ (crcSum (bs.take (sizeB bs + 2)) : Nat) then ([], 0, 3) else
  ((bs.drop 2).take (sizeB bs), sizeB bs + 6, 0)

theorem sizeB_eq (bs : List Int) (hb : ∀ z ∈ bs, 0 ≤ z ∧ z ≤ 255) : valB 256 (bs.take 2) = (sizeB bs : Nat) := by
  have := valB_nonneg 256 (by omega) (bs.take 2) (fun z hz => (hb z (List.mem_of_mem_take hz)).1)
  unfold sizeB
  omega

theorem sizeB_lt (bs : List Int) (hb : ∀ z ∈ bs, 0 ≤ z ∧ z ≤ 255) : sizeB bs < 65536 := by
  have h := valB_lt 256 (by omega) (bs.take 2) (fun z hz => by have := hb z (List.mem_of_mem_take hz); omega)
  have h2 : (256 : Int) ^ (bs.take 2).length ≤ 65536 := by
    rw [List.length_take]
    have e : min 2 bs.length = 0 ∨ min 2 bs.length = 1 ∨ min 2 bs.length = 2 := by omega
    rcases e with e | e | e <;> rw [e] <;> decide
  rw [sizeB_eq bs hb] at h
  omega

/-- What Decode leaves. -/
def DecP (w : World) (D : List Int × Nat × Int) (e : Ending) (w' : World) : Prop :=
  ∃ v', e = .returned (.tuple #[v', .int .i64 D.2.1, .int .i64 D.2.2]) ∧ IsB w' v' D.1 ∧ Below w.heap.size w w' ∧ ∀ x ∈ own v', w.heap.size ≤ x

set_option maxHeartbeats 1000000 in
theorem decode_short (v : Value) (bs : List Int) (w : World) (hb : IsB w v bs) (h : bs.length < 2) : Calls Try.prog 17 #[v] w (DecP w ([], 0, 2)) := by
  have G := hide (get_no v bs 0 2 w hb (by omega) (by omega))
  obtain ⟨a, cap, rfl, hlc⟩ := hb.form
  clear hb
  go_enter Try.func17, Try.ntmps17
  go_wp2_with fail
  refine G.out.mono ?_
  rintro e w1 ⟨rfl, rfl⟩
  go_wp2
  go_ret3
  exact ⟨_, rfl, IsB.nil _, Below.refl _ _, by simp [Value.ownBlock]⟩

theorem get2 (v : Value) (bs : List Int) (w : World) (hb : IsB w v bs) (hl : bs.length ≤ 140737488355328) (h : ¬ bs.length < 2) :
    Calls Try.prog 25 #[v, .int .i64 0, .int .i64 2] w fun e w' => e = .returned (.tuple #[.int .u64 (sizeB bs : Nat), .bool true]) ∧ Below w.heap.size w w' := by
  have := get_yes v bs 0 2 w hb hl (by omega) (by omega) (by omega)
  rw [List.drop_zero, sizeB_eq bs hb.bytes] at this
  exact this

set_option maxHeartbeats 1000000 in
theorem decode_big (v : Value) (bs : List Int) (w : World) (hb : IsB w v bs) (hl : bs.length ≤ 1099511627776) (h : ¬ bs.length < 2) (h2 : 1000 < sizeB bs) : Calls Try.prog 17 #[v] w (DecP w ([], 0, 2)) := by
  have G := hide (get2 v bs w hb (by omega) h)
  have hlt := sizeB_lt bs hb.bytes
  generalize sizeB bs = n at G h2 hlt
  obtain ⟨a, cap, rfl, hlc⟩ := hb.form
  clear hb
  go_enter Try.func17, Try.ntmps17
  go_wp2_with fail
  refine G.out.mono ?_
  rintro e w1 ⟨rfl, b1⟩
  go_wp2
  go_ret3
  exact ⟨_, rfl, IsB.nil _, b1, by simp [Value.ownBlock]⟩

set_option maxHeartbeats 1000000 in
theorem decode_cut (v : Value) (bs : List Int) (w : World) (hb : IsB w v bs) (hl : bs.length ≤ 1099511627776) (h : ¬ bs.length < 2) (h2 : ¬ 1000 < sizeB bs) (h3 : bs.length < sizeB bs + 6) : Calls Try.prog 17 #[v] w (DecP w ([], 0, 2)) := by
  have G := hide (get2 v bs w hb (by omega) h)
  have G2 := hide (fun w hb => get_no v bs (2 + (sizeB bs : Nat)) 4 w hb (by omega) (by omega))
  have HI := hide hb
  have hlt := sizeB_lt bs hb.bytes
  generalize sizeB bs = n at G G2 h2 h3 hlt
  obtain ⟨a, cap, rfl, hlc⟩ := hb.form
  clear hb
  go_enter Try.func17, Try.ntmps17
  go_wp2_with fail
  refine G.out.mono ?_
  rintro e w1 ⟨rfl, b1⟩
  go_wp2_with fail
  refine (G2.out w1 (HI.out.below b1)).mono ?_
  rintro e w2 ⟨rfl, rfl⟩
  go_wp2
  go_ret3
  exact ⟨_, rfl, IsB.nil _, b1, by simp [Value.ownBlock]⟩

set_option maxHeartbeats 1000000 in
theorem decode_in (v : Value) (bs : List Int) (w : World) (hb : IsB w v bs) (hl : bs.length ≤ 1099511627776) (h : ¬ bs.length < 2) (h2 : ¬ 1000 < sizeB bs) (h3 : ¬ bs.length < sizeB bs + 6) :
    Calls Try.prog 17 #[v] w (DecP w (if valB 256 ((bs.drop (sizeB bs + 2)).take 4) ≠ (crcSum (bs.take (sizeB bs + 2)) : Nat) then ([], 0, 3) else ((bs.drop 2).take (sizeB bs), sizeB bs + 6, 0))) := by
  have G := hide (get2 v bs w hb (by omega) h)
  have G2 := fun w hb => get_yes v bs (2 + sizeB bs) 4 w hb (by omega) (by omega) (by omega) (by omega)
  obtain ⟨s, hs⟩ : ∃ s, s = valB 256 ((bs.drop (2 + sizeB bs)).take 4) := ⟨_, rfl⟩
  rw [← hs, show ((2 + sizeB bs : Nat) : Int) = 2 + (sizeB bs : Nat) by omega] at G2
  rw [show sizeB bs + 2 = 2 + sizeB bs by omega, ← hs]
  have hlt := sizeB_lt bs hb.bytes
  have hfl : (bs.take (2 + sizeB bs)).length = 2 + sizeB bs := by simp; omega
  have hcl := crcSum_lt (bs.take (2 + sizeB bs)) (fun z hz => hb.bytes z (List.mem_of_mem_take hz))
  have hC := fun v w hi => crc_any v (bs.take (2 + sizeB bs)) w hi (by omega)
  have hs0 : 0 ≤ s := by rw [hs]; exact valB_nonneg 256 (by omega) _ (fun z hz => (hb.bytes z (List.mem_of_mem_drop (List.mem_of_mem_take hz))).1)
  obtain ⟨c, hc⟩ : ∃ c, c = crcSum (bs.take (2 + sizeB bs)) := ⟨_, rfl⟩
  rw [← hc] at hcl hC ⊢
  obtain ⟨b, off, cap, rfl, hlc, _⟩ := hb.opened (by omega)
  have HG2 := hide G2
  have HC := hide hC
  have HI := hide hb
  have HF := hide fun w (hi : IsB w (.slice (some ⟨b, off, none⟩) bs.length cap) bs) => hi.take (2 + sizeB bs) (by omega)
  have HM := hide fun w (hi : IsB w (.slice (some ⟨b, off, none⟩) bs.length cap) bs) => hi.mid 2 (sizeB bs) (by omega)
  have hml : ((bs.drop 2).take (sizeB bs)).length = sizeB bs := by simp; omega
  have HML := hide hml
  generalize sizeB bs = n at *
  clear hb G2 hs hc hC hml hfl
  by_cases hsc : s = c
  · subst hsc
    rw [if_neg (by simp)]
    go_enter Try.func17, Try.ntmps17
    go_wp2_with fail
    refine G.out.mono ?_
    rintro e w1 ⟨rfl, b1⟩
    go_wp2_with fail
    refine (HG2.out w1 (HI.out.below b1)).mono ?_
    rintro e w2 ⟨rfl, b2⟩
    have B2 := below_then b1 b2
    clear b1 b2
    go_wp2_with fail
    refine (HC.out _ w2 (HF.out w2 (HI.out.below B2))).mono ?_
    rintro e w3 ⟨rfl, rfl⟩
    go_wp2_with fail
    refine (bclone_any _ _ _ _ _ (HM.out _ (HI.out.below B2)) HML.out (by omega)).mono ?_
    rintro e w4 ⟨g4, cap4, rfl, o4, b4⟩
    go_wp2
    go_ret3
    have hi := o4.isB
    rw [HML.out] at hi
    exact ⟨_, by simp; omega, hi, below_then B2 b4, fun x hx => by simp [Value.ownBlock] at hx; have := o4.base; have := B2.size; omega⟩
  · rw [if_pos (by omega)]
    go_enter Try.func17, Try.ntmps17
    go_wp2_with fail
    refine G.out.mono ?_
    rintro e w1 ⟨rfl, b1⟩
    go_wp2_with fail
    refine (HG2.out w1 (HI.out.below b1)).mono ?_
    rintro e w2 ⟨rfl, b2⟩
    have B2 := below_then b1 b2
    clear b1 b2
    go_wp2_with fail
    refine (HC.out _ w2 (HF.out w2 (HI.out.below B2))).mono ?_
    rintro e w3 ⟨rfl, rfl⟩
    go_wp2
    go_ret3
    exact ⟨_, rfl, IsB.nil _, B2, by simp [Value.ownBlock]⟩

/-- Decode, of whatever bytes. -/
theorem decode_any (v : Value) (bs : List Int) (w : World) (hb : IsB w v bs) (hl : bs.length ≤ 1099511627776) : Calls Try.prog 17 #[v] w (DecP w (decB bs)) := by
  unfold decB
  by_cases h : bs.length < 2
  · rw [if_pos h]
    exact decode_short v bs w hb h
  · rw [if_neg h]
    by_cases h2 : 1000 < sizeB bs
    · rw [if_pos h2]
      exact decode_big v bs w hb hl h h2
    · rw [if_neg h2]
      by_cases h3 : bs.length < sizeB bs + 6
      · rw [if_pos h3]
        exact decode_cut v bs w hb hl h h2 h3
      · rw [if_neg h3]
        exact decode_in v bs w hb hl h h2 h3

end Go.Proofs.Ytjnmggbkclnbkaa
