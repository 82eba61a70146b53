/-
  Lemma texts, one behind the other: BEnc, BDec, BRow, BJoin, BAll, BPure, BShown, BSame, BStep, RefPG, BRef, BRef2, DMem, DSmall. No statement of the seat is proved here.
-/
import Derived.Test.YtgpbanjammipiaaGreatDoorGAA
import Derived.Deep.Slices
import Derived.ProofKit
import Derived.OpenShut
import Derived.Lib.SlBytesConst
import Derived.Deep.RegionHeld
import Derived.Deep.RegionHeldLaw
import Derived.Maps.OwnSet
import Derived.Maps.AppendAt
import Derived.Laws.LoneSync
import Derived.Deep.QuietTactic
import Derived.BigQuiet
namespace Go.Proofs.YtgpbanjammipiaaGreatDoor
open Go.RowKit

/-- How many bytes a text has, by two bytes, and the text. -/
def headB (t : List Int) : List Int := putB 2 t.length ++ t
/-- The block of a text. -/
def blkB (t : List Int) : List Int := headB t ++ putB 4 (crcSum (headB t) : Nat)

theorem headB_length (t : List Int) : (headB t).length = t.length + 2 := by
  rw [headB, List.length_append, putB_length]
  omega
theorem blkB_length (t : List Int) : (blkB t).length = t.length + 6 := by
  rw [blkB, List.length_append, putB_length, headB_length]
theorem headB_bytes (t : List Int) (h : ∀ z ∈ t, 0 ≤ z ∧ z ≤ 255) : ∀ z ∈ headB t, 0 ≤ z ∧ z ≤ 255 := by
  intro z hz
  rcases List.mem_append.1 hz with hz | hz
  · exact putB_bytes _ _ z hz
  · exact h z hz
theorem blkB_bytes (t : List Int) (h : ∀ z ∈ t, 0 ≤ z ∧ z ≤ 255) : ∀ z ∈ blkB t, 0 ≤ z ∧ z ≤ 255 := by
  intro z hz
  rcases List.mem_append.1 hz with hz | hz
  · exact headB_bytes t h z hz
  · exact putB_bytes _ _ z hz

set_option maxHeartbeats 400000 in
theorem encode_no (v : Value) (bs : List Int) (w : World) (hb : IsB w v bs) (hl : 1000 < bs.length) (hl2 : bs.length ≤ 70368744177664) :
    Calls Tryz.prog 71 #[v] w fun e w' => e = .returned (.tuple #[.slice none 0 0, .int .i64 1]) ∧ w' = w := by
  obtain ⟨a, cap, rfl, hlc⟩ := hb.form
  clear hb
  go_enter Tryz.func71, Tryz.ntmps71
  go_wp2
  go_ret2
  exact ⟨rfl, rfl⟩

set_option maxHeartbeats 1000000 in
theorem encode_go (v : Value) (bs xs : List Int) (w : World) (hb : IsB w v bs) (hl : bs.length ≤ 1000) (hx : Hid (xs = blkB bs)) :
    Calls Tryz.prog 71 #[v] w fun e w' => ∃ g cap, e = .returned (.tuple #[.slice (some ⟨g, 0, none⟩) xs.length cap, .int .i64 0]) ∧ OwnB w.heap.size w' g cap xs ∧ Below w.heap.size w w' := by
  have P2 := fun w => put_any (.slice none 0 0) [] 2 bs.length w (IsB.nil w) (by simp) (by omega) (by omega)
  obtain ⟨ps, hps⟩ : ∃ ps, ps = [] ++ putB (min (2 : Int) 8).toNat bs.length := ⟨_, rfl⟩
  rw [← hps] at P2
  have hps2 : ps = putB 2 bs.length := by rw [hps]; rfl
  have hpl : ps.length = 2 := by rw [hps2, putB_length]
  obtain ⟨hs, hhs⟩ : ∃ hs, hs = headB bs := ⟨_, rfl⟩
  have hh2 : ps ++ bs = hs := by rw [hhs, hps2]; rfl
  have hhl : ps.length + bs.length = hs.length := by rw [← hh2, List.length_append]
  have hhl2 : hs.length ≤ 1002 := by omega
  have hhb : ∀ z ∈ hs, 0 ≤ z ∧ z ≤ 255 := by rw [hhs]; exact headB_bytes bs hb.bytes
  have hcl := crcSum_lt hs hhb
  have P4 := fun v w h => put_any v hs 4 (crcSum hs : Nat) w h (by omega) (by omega) (by omega)
  have hxe : hs ++ putB (min (4 : Int) 8).toNat (crcSum hs : Nat) = xs := by rw [hx.out, blkB, ← hhs]; rfl
  rw [hxe] at P4
  have HP2 := hide P2
  have HP4 := hide P4
  have HH := hide hh2
  have HHL := hide hhl
  have HI := hide hb
  obtain ⟨c, hc⟩ : ∃ c, c = crcSum hs := ⟨_, rfl⟩
  rw [← hc] at hcl HP4
  have HC := hide hc
  obtain ⟨a, cap, rfl, hlc⟩ := hb.form
  have hpb : ps.length ≤ 2 := by omega
  clear hpl hps hps2 hhs hh2 hhl hhb P2 P4 hxe hb hc hx
  go_enter Tryz.func71, Tryz.ntmps71
  go_wp2_with fail
  refine (HP2.out w).mono ?_
  rintro e w1 ⟨g1, cap1, rfl, o1, b1⟩
  have i1 := HI.out.below b1
  have hs1 := b1.size
  go_wp2_with (at_builtin; refine wp_appendB w1 rfl _ _ rfl w.heap.size g1 cap1 ps bs _ rfl o1 rfl i1 (by omega) hs1 ?_; intro g2 cap2 w2 o2 b2; rw [HH.out] at o2; rw [HHL.out])
  have B2 := b1.trans b2
  go_wp2_with fail
  refine (crc_any _ hs w2 o2.isB (by omega)).mono ?_
  rintro e w3 ⟨rfl, rfl⟩
  rw [← HC.out]
  go_wp2_with fail
  refine (HP4.out _ _ o2.isB).mono ?_
  rintro e w4 ⟨g4, cap4, rfl, o4, b4⟩
  go_wp2
  go_ret2
  exact ⟨g4, cap4, rfl, o4.mono B2.size, below_then B2 b4⟩

end Go.Proofs.YtgpbanjammipiaaGreatDoor

namespace Go.Proofs.YtgpbanjammipiaaGreatDoor
open Go.RowKit

set_option maxHeartbeats 1000000 in
/-- bytes.Clone, of what is not nil. -/
theorem bclone_any (ad : Addr) (len c : Nat) (bs : List Int) (w : World) (hv : IsB w (.slice (some ad) len c) bs) (hn : bs.length = len) (hl : len ≤ 1099511627776) :
    Calls Tryz.prog 165 #[.slice (some ad) len c] w fun e w' => ∃ g cap, e = .returned (.slice (some ⟨g, 0, none⟩) len cap) ∧ OwnB w.heap.size w' g cap bs ∧ Below w.heap.size w w' := by
  subst hn
  have O0 := hide (OwnB.empty w w.heap.size (Nat.le_refl _))
  have HB := hide (hv.below ((Below.refl _ w).alloc (Nat.le_refl _) (.cells #[] 5)))
  clear hv
  have q := Tryz.eqlSome ad
  go_enter Tryz.func165, Tryz.ntmps165
  go_wp2_with (first | (at_builtin; refine wp_appendB _ rfl _ _ rfl w.heap.size w.heap.size 0 [] bs _ rfl O0.out rfl HB.out (by simp; omega) (by simp) ?_; intro g2 cap2 w2 o2 b2) | go_in)
  go_ret
  exact ⟨g2, cap2, by simp, by simpa using o2, ((Below.refl _ w).alloc (Nat.le_refl _) _).trans b2⟩

/-- How many bytes the text of a block has. -/
def sizeB (bs : List Int) : Nat := (valB 256 (bs.take 2)).toNat

/-- What Decode tells: the text, how many bytes the block has, the error. -/
def decB (bs : List Int) : List Int × Nat × Int :=
  if bs.length < 2 then ([], 0, 2) else
  if 1000 < sizeB bs then ([], 0, 2) else
  if bs.length < sizeB bs + 6 then ([], 0, 2) else
  if valB 256 ((bs.drop (sizeB bs + 2)).take 4) ≠ (crcSum (bs.take (sizeB bs + 2)) : Nat) then ([], 0, 3) else
  ((bs.drop 2).take (sizeB bs), sizeB bs + 6, 0)

theorem sizeB_eq (bs : List Int) (hb : ∀ z ∈ bs, 0 ≤ z ∧ z ≤ 255) : valB 256 (bs.take 2) = (sizeB bs : Nat) := by
  have := valB_nonneg 256 (by omega) (bs.take 2) (fun z hz => (hb z (List.mem_of_mem_take hz)).1)
  unfold sizeB
  omega

theorem sizeB_lt (bs : List Int) (hb : ∀ z ∈ bs, 0 ≤ z ∧ z ≤ 255) : sizeB bs < 65536 := by
  have h := valB_lt 256 (by omega) (bs.take 2) (fun z hz => by have := hb z (List.mem_of_mem_take hz); omega)
  have h2 : (256 : Int) ^ (bs.take 2).length ≤ 65536 := by
    rw [List.length_take]
    have e : min 2 bs.length = 0 ∨ min 2 bs.length = 1 ∨ min 2 bs.length = 2 := by omega
    rcases e with e | e | e <;> rw [e] <;> decide
  rw [sizeB_eq bs hb] at h
  omega

/-- What Decode leaves. -/
def DecP (w : World) (D : List Int × Nat × Int) (e : Ending) (w' : World) : Prop :=
  ∃ v', e = .returned (.tuple #[v', .int .i64 D.2.1, .int .i64 D.2.2]) ∧ IsB w' v' D.1 ∧ Below w.heap.size w w' ∧ ∀ x ∈ own v', w.heap.size ≤ x

set_option maxHeartbeats 1000000 in
theorem decode_short (v : Value) (bs : List Int) (w : World) (hb : IsB w v bs) (h : bs.length < 2) : Calls Tryz.prog 148 #[v] w (DecP w ([], 0, 2)) := by
  have G := hide (get_no v bs 0 2 w hb (by omega) (by omega))
  obtain ⟨a, cap, rfl, hlc⟩ := hb.form
  clear hb
  go_enter Tryz.func148, Tryz.ntmps148
  go_wp2_with fail
  refine G.out.mono ?_
  rintro e w1 ⟨rfl, rfl⟩
  go_wp2
  go_ret3
  exact ⟨_, rfl, IsB.nil _, Below.refl _ _, by simp [Value.ownBlock]⟩

theorem get2 (v : Value) (bs : List Int) (w : World) (hb : IsB w v bs) (hl : bs.length ≤ 140737488355328) (h : ¬ bs.length < 2) :
    Calls Tryz.prog 67 #[v, .int .i64 0, .int .i64 2] w fun e w' => e = .returned (.tuple #[.int .u64 (sizeB bs : Nat), .bool true]) ∧ Below w.heap.size w w' := by
  have := get_yes v bs 0 2 w hb hl (by omega) (by omega) (by omega)
  rw [List.drop_zero, sizeB_eq bs hb.bytes] at this
  exact this

set_option maxHeartbeats 1000000 in
theorem decode_big (v : Value) (bs : List Int) (w : World) (hb : IsB w v bs) (hl : bs.length ≤ 1099511627776) (h : ¬ bs.length < 2) (h2 : 1000 < sizeB bs) : Calls Tryz.prog 148 #[v] w (DecP w ([], 0, 2)) := by
  have G := hide (get2 v bs w hb (by omega) h)
  have hlt := sizeB_lt bs hb.bytes
  generalize sizeB bs = n at G h2 hlt
  obtain ⟨a, cap, rfl, hlc⟩ := hb.form
  clear hb
  go_enter Tryz.func148, Tryz.ntmps148
  go_wp2_with fail
  refine G.out.mono ?_
  rintro e w1 ⟨rfl, b1⟩
  go_wp2
  go_ret3
  exact ⟨_, rfl, IsB.nil _, b1, by simp [Value.ownBlock]⟩

set_option maxHeartbeats 1000000 in
theorem decode_cut (v : Value) (bs : List Int) (w : World) (hb : IsB w v bs) (hl : bs.length ≤ 1099511627776) (h : ¬ bs.length < 2) (h2 : ¬ 1000 < sizeB bs) (h3 : bs.length < sizeB bs + 6) : Calls Tryz.prog 148 #[v] w (DecP w ([], 0, 2)) := by
  have G := hide (get2 v bs w hb (by omega) h)
  have G2 := hide (fun w hb => get_no v bs (2 + (sizeB bs : Nat)) 4 w hb (by omega) (by omega))
  have HI := hide hb
  have hlt := sizeB_lt bs hb.bytes
  generalize sizeB bs = n at G G2 h2 h3 hlt
  obtain ⟨a, cap, rfl, hlc⟩ := hb.form
  clear hb
  go_enter Tryz.func148, Tryz.ntmps148
  go_wp2_with fail
  refine G.out.mono ?_
  rintro e w1 ⟨rfl, b1⟩
  go_wp2_with fail
  refine (G2.out w1 (HI.out.below b1)).mono ?_
  rintro e w2 ⟨rfl, rfl⟩
  go_wp2
  go_ret3
  exact ⟨_, rfl, IsB.nil _, b1, by simp [Value.ownBlock]⟩

set_option maxHeartbeats 1000000 in
theorem decode_in (v : Value) (bs : List Int) (w : World) (hb : IsB w v bs) (hl : bs.length ≤ 1099511627776) (h : ¬ bs.length < 2) (h2 : ¬ 1000 < sizeB bs) (h3 : ¬ bs.length < sizeB bs + 6) :
    Calls Tryz.prog 148 #[v] w (DecP w (if valB 256 ((bs.drop (sizeB bs + 2)).take 4) ≠ (crcSum (bs.take (sizeB bs + 2)) : Nat) then ([], 0, 3) else ((bs.drop 2).take (sizeB bs), sizeB bs + 6, 0))) := by
  have G := hide (get2 v bs w hb (by omega) h)
  have G2 := fun w hb => get_yes v bs (2 + sizeB bs) 4 w hb (by omega) (by omega) (by omega) (by omega)
  obtain ⟨s, hs⟩ : ∃ s, s = valB 256 ((bs.drop (2 + sizeB bs)).take 4) := ⟨_, rfl⟩
  rw [← hs, show ((2 + sizeB bs : Nat) : Int) = 2 + (sizeB bs : Nat) by omega] at G2
  rw [show sizeB bs + 2 = 2 + sizeB bs by omega, ← hs]
  have hlt := sizeB_lt bs hb.bytes
  have hfl : (bs.take (2 + sizeB bs)).length = 2 + sizeB bs := by simp; omega
  have hcl := crcSum_lt (bs.take (2 + sizeB bs)) (fun z hz => hb.bytes z (List.mem_of_mem_take hz))
  have hC := fun v w hi => crc_any v (bs.take (2 + sizeB bs)) w hi (by omega)
  have hs0 : 0 ≤ s := by rw [hs]; exact valB_nonneg 256 (by omega) _ (fun z hz => (hb.bytes z (List.mem_of_mem_drop (List.mem_of_mem_take hz))).1)
  obtain ⟨c, hc⟩ : ∃ c, c = crcSum (bs.take (2 + sizeB bs)) := ⟨_, rfl⟩
  rw [← hc] at hcl hC ⊢
  obtain ⟨b, off, cap, rfl, hlc, _⟩ := hb.opened (by omega)
  have HG2 := hide G2
  have HC := hide hC
  have HI := hide hb
  have HF := hide fun w (hi : IsB w (.slice (some ⟨b, off, none⟩) bs.length cap) bs) => hi.take (2 + sizeB bs) (by omega)
  have HM := hide fun w (hi : IsB w (.slice (some ⟨b, off, none⟩) bs.length cap) bs) => hi.mid 2 (sizeB bs) (by omega)
  have hml : ((bs.drop 2).take (sizeB bs)).length = sizeB bs := by simp; omega
  have HML := hide hml
  generalize sizeB bs = n at *
  clear hb G2 hs hc hC hml hfl
  by_cases hsc : s = c
  · subst hsc
    rw [if_neg (by simp)]
    go_enter Tryz.func148, Tryz.ntmps148
    go_wp2_with fail
    refine G.out.mono ?_
    rintro e w1 ⟨rfl, b1⟩
    go_wp2_with fail
    refine (HG2.out w1 (HI.out.below b1)).mono ?_
    rintro e w2 ⟨rfl, b2⟩
    have B2 := below_then b1 b2
    clear b1 b2
    go_wp2_with fail
    refine (HC.out _ w2 (HF.out w2 (HI.out.below B2))).mono ?_
    rintro e w3 ⟨rfl, rfl⟩
    go_wp2_with fail
    refine (bclone_any _ _ _ _ _ (HM.out _ (HI.out.below B2)) HML.out (by omega)).mono ?_
    rintro e w4 ⟨g4, cap4, rfl, o4, b4⟩
    go_wp2
    go_ret3
    have hi := o4.isB
    rw [HML.out] at hi
    exact ⟨_, by simp; omega, hi, below_then B2 b4, fun x hx => by simp [Value.ownBlock] at hx; have := o4.base; have := B2.size; omega⟩
  · rw [if_pos (by omega)]
    go_enter Tryz.func148, Tryz.ntmps148
    go_wp2_with fail
    refine G.out.mono ?_
    rintro e w1 ⟨rfl, b1⟩
    go_wp2_with fail
    refine (HG2.out w1 (HI.out.below b1)).mono ?_
    rintro e w2 ⟨rfl, b2⟩
    have B2 := below_then b1 b2
    clear b1 b2
    go_wp2_with fail
    refine (HC.out _ w2 (HF.out w2 (HI.out.below B2))).mono ?_
    rintro e w3 ⟨rfl, rfl⟩
    go_wp2
    go_ret3
    exact ⟨_, rfl, IsB.nil _, B2, by simp [Value.ownBlock]⟩

/-- Decode, of whatever bytes. -/
theorem decode_any (v : Value) (bs : List Int) (w : World) (hb : IsB w v bs) (hl : bs.length ≤ 1099511627776) : Calls Tryz.prog 148 #[v] w (DecP w (decB bs)) := by
  unfold decB
  by_cases h : bs.length < 2
  · rw [if_pos h]
    exact decode_short v bs w hb h
  · rw [if_neg h]
    by_cases h2 : 1000 < sizeB bs
    · rw [if_pos h2]
      exact decode_big v bs w hb hl h h2
    · rw [if_neg h2]
      by_cases h3 : bs.length < sizeB bs + 6
      · rw [if_pos h3]
        exact decode_cut v bs w hb hl h h2 h3
      · rw [if_neg h3]
        exact decode_in v bs w hb hl h h2 h3

end Go.Proofs.YtgpbanjammipiaaGreatDoor

namespace Go.Proofs.YtgpbanjammipiaaGreatDoor
open Go.RowKit Go.Maps Go.ChangeShapes Go.WideShapes Go.ChangeAt

/-- The slice v holds slices of these bytes. -/
def IsBB (w : World) (v : Value) (bss : List (List Int)) : Prop :=
  ∃ (a : Option Addr) (cap : Nat), v = .slice a bss.length cap ∧ bss.length ≤ cap ∧ (a = none → bss = [] ∧ cap = 0) ∧
    ∀ x, a = some x → ∀ j, j < bss.length → ∃ u, w.cell? (x.add j) = some u ∧ IsB w u (bss[j]?.getD [])

theorem IsBB.nil (w : World) : IsBB w (.slice none 0 0) [] := ⟨none, 0, rfl, Nat.le_refl _, fun _ => ⟨rfl, rfl⟩, by simp⟩

theorem IsBB.below {w w' : World} {v : Value} {bss : List (List Int)} (h : IsBB w v bss) (hb : Below w.heap.size w w') : IsBB w' v bss := by
  obtain ⟨a, cap, rfl, h1, h2, h3⟩ := h
  refine ⟨a, cap, rfl, h1, h2, fun x hx j hj => ?_⟩
  obtain ⟨u, hu, hi⟩ := h3 x hx j hj
  exact ⟨u, (World.cell?_of_block (w := w) (hb.block _ (World.block_lt_of_cell? w _ hu))).trans hu, hi.below hb⟩

theorem IsBB.form {w : World} {v : Value} {bss : List (List Int)} (h : IsBB w v bss) : ∃ a cap, v = .slice a bss.length cap ∧ bss.length ≤ cap := by
  obtain ⟨a, cap, rfl, h1, _⟩ := h
  exact ⟨a, cap, rfl, h1⟩

/-- A slice that is not empty leads to memory. -/
theorem IsBB.opened {w : World} {v : Value} {bss : List (List Int)} (h : IsBB w v bss) (h0 : 0 < bss.length) :
    ∃ b off cap, v = .slice (some ⟨b, off, none⟩) bss.length cap ∧ bss.length ≤ cap ∧ ∀ j, j < bss.length → ∃ a c, w.cell? ⟨b, off + j, none⟩ = some (.slice a (bss[j]?.getD []).length c) ∧ IsB w (.slice a (bss[j]?.getD []).length c) (bss[j]?.getD []) := by
  obtain ⟨a, cap, rfl, h1, h2, h3⟩ := h
  cases a with
  | none => simp [(h2 rfl).1] at h0
  | some x =>
    obtain ⟨b, off, spot⟩ := x
    obtain ⟨u, hc, _⟩ := h3 _ rfl 0 h0
    have hspot : spot = none := by simpa [Addr.add] using World.cell?_spot hc
    subst hspot
    refine ⟨b, off, cap, rfl, h1, fun j hj => ?_⟩
    obtain ⟨u, hu, hi⟩ := h3 _ rfl j hj
    rw [Addr.add_lit] at hu
    obtain ⟨a, c, rfl, _⟩ := hi.form
    exact ⟨a, c, hu, hi⟩

/-! ### Rows of the call's own -/

theorem Tryz.infoBytes : (Tryz.prog.info? 46).map (fun i => (i.zero, i.size, i.bytes)) = some (some (.slice none 0 0), 1, 24) := by kernel_rfl

/-- The slice v, nil or a row of its own, holds slices of these bytes. -/
def RowT (w : World) (v : Value) (bss : List (List Int)) : Prop :=
  ∃ us : List Value, w.ownsRow 0 46 1 v us.length us ∧ us.length = bss.length ∧ ∀ (j : Nat) u, us[j]? = some u → IsB w u (bss[j]?.getD []) ∧ (bss[j]?.getD [] ≠ [] → ∀ x ∈ own u, x ∉ own v)

theorem RowT.nil (w : World) : RowT w (.slice none 0 0) [] := ⟨[], World.ownsRow_nil w 0 _ _, rfl, by simp⟩

/-- A new row of no slices. -/
theorem RowT.empty (w : World) : RowT (w.alloc (.cells #[] 46)) (.slice (some ⟨w.heap.size, 0, none⟩) 0 0) [] :=
  ⟨[], World.ownsRow_made w #[] 0 (Nat.zero_le _) (by unfold maxLen; omega) rfl, rfl, by simp⟩

theorem RowT.form {w : World} {v : Value} {bss : List (List Int)} (h : RowT w v bss) : (v = .slice none 0 0 ∧ bss = []) ∨ ∃ g cap, v = .slice (some ⟨g, 0, none⟩) bss.length cap := by
  obtain ⟨us, ⟨h1, h2⟩, hl, h3⟩ := h
  rcases h2 with ⟨rfl, h⟩ | ⟨g, cap, cur, rfl, hb, hgg, rest⟩
  · exact .inl ⟨rfl, List.eq_nil_of_length_eq_zero (by omega)⟩
  · exact .inr ⟨g, cap, by rw [hl]⟩

theorem RowT.slice {w : World} {v : Value} {bss : List (List Int)} (h : RowT w v bss) : ∃ a cap, v = .slice a bss.length cap := by
  rcases h.form with ⟨rfl, rfl⟩ | ⟨g, cap, rfl⟩
  · exact ⟨_, _, rfl⟩
  · exact ⟨_, _, rfl⟩

theorem RowT.lt {w : World} {v : Value} {bss : List (List Int)} (h : RowT w v bss) : ∀ x ∈ own v, x < w.heap.size := by
  obtain ⟨us, h1, _⟩ := h
  exact fun x hx => (h1.lt x (by simpa [own] using hx)).2

theorem RowT.isBB {w : World} {v : Value} {bss : List (List Int)} (h : RowT w v bss) : IsBB w v bss := by
  obtain ⟨us, hr, hl, h3⟩ := h
  rcases hr.2 with ⟨rfl, h⟩ | ⟨g, cap, cur, rfl, hb, hgg, hn, hm, hs, ht⟩
  · obtain rfl : bss = [] := List.eq_nil_of_length_eq_zero (by omega)
    exact IsBB.nil w
  · refine ⟨some ⟨g, 0, none⟩, cap, by rw [hl], by omega, by simp, fun x hx j hj => ?_⟩
    simp only [Option.some.injEq] at hx
    subst hx
    have hju : j < us.length := by omega
    have hu := List.getElem?_eq_getElem hju
    exact ⟨us[j], World.ownsRow.cells hr (g := g) rfl j _ hu, (h3 j _ hu).1⟩

theorem RowT.kept {fp : List Nat} {w w' : World} {v : Value} {bss : List (List Int)} (h : RowT w v bss) (hk : Kept fp w w') (hv : ∀ x ∈ own v, x ∉ fp) (ht : ∀ x < w.heap.size, x ∈ fp → x ∈ own v) : RowT w' v bss := by
  obtain ⟨us, hr, hl, h3⟩ := h
  refine ⟨us, ownsRow_kept hr hk hv, hl, fun j u hu => ⟨(h3 j u hu).1.kept hk fun hne x hx hxf => ?_, (h3 j u hu).2⟩⟩
  exact (h3 j u hu).2 hne x hx (ht x ((h3 j u hu).1.lt hne x hx) hxf)

theorem RowT.below {w w' : World} {v : Value} {bss : List (List Int)} (h : RowT w v bss) (hb : Below w.heap.size w w') : RowT w' v bss :=
  h.kept (Kept.of_below (fp := []) hb) (by simp) (by simp)

/-- A slot of the row is written. -/
theorem RowT.stored {w : World} {g cap : Nat} {bss : List (List Int)} (h : RowT w (.slice (some ⟨g, 0, none⟩) bss.length cap) bss) (j : Nat) (hj : j < bss.length) (u : Value) (bs : List Int) (hu : IsB w u bs) (hd : bs ≠ [] → ∀ x ∈ own u, x ≠ g) :
    RowT (w.setCell ⟨g, j, none⟩ u) (.slice (some ⟨g, 0, none⟩) bss.length cap) (bss.set j bs) := by
  obtain ⟨us, hr, hl, h3⟩ := h
  have hk : Kept [g] w (w.setCell ⟨g, j, none⟩ u) := (Kept.refl _ _).setCell (.inl (by simp)) _
  rw [hl] at hr
  have hs := (World.ownsRow.stored hr j u).1
  refine ⟨us.set j u, by simpa [hl] using hs, by simp [hl], fun i y hy => ?_⟩
  have hi : i < us.length := by simpa using (List.getElem?_eq_some_iff.1 hy).1
  by_cases e : i = j
  · subst e
    rw [List.getElem?_set_self hi] at hy
    simp only [Option.some.injEq] at hy
    subst hy
    rw [List.getElem?_set_self (by omega)]
    exact ⟨hu.kept hk (fun hne x hx => by simpa using hd hne x hx), fun hne x hx => by simpa [Value.ownBlock] using Ne.symm (hd hne x hx)⟩
  · rw [List.getElem?_set_ne (by omega)] at hy
    rw [List.getElem?_set_ne (by omega)]
    have h4 := h3 i y hy
    exact ⟨h4.1.kept hk (fun hne x hx => by simpa [own, Value.ownBlock, eq_comm] using h4.2 hne x hx), h4.2⟩

section
variable {ops : Array Oper} {rest : List Oper} {o : Oper} {a : Act} {Q : Exit → Act → World → Prop}

end

end Go.Proofs.YtgpbanjammipiaaGreatDoor

namespace Go.Proofs.YtgpbanjammipiaaGreatDoor
open Go.RowKit Go.Maps

/-- The blocks of texts, one behind the other. -/
def joinB (l : List (List Int)) : List Int := l.flatMap blkB
/-- Has each of them at most a thousand bytes? -/
def okL (l : List (List Int)) : Bool := l.all (fun t => decide (t.length ≤ 1000))

theorem joinB_snoc (l : List (List Int)) (t : List Int) : joinB (l ++ [t]) = joinB l ++ blkB t := by simp [joinB]
theorem joinB_length_le (l : List (List Int)) (h : okL l = true) : (joinB l).length ≤ 1006 * l.length := by
  induction l with
  | nil => simp [joinB]
  | cons t l ih =>
    simp only [okL, List.all_cons, Bool.and_eq_true, decide_eq_true_eq] at h
    have := ih h.2
    simp only [joinB, List.flatMap_cons, List.length_append, blkB_length, List.length_cons] at this ⊢
    omega
theorem okL_snoc (l : List (List Int)) (t : List Int) : okL (l ++ [t]) = (okL l && decide (t.length ≤ 1000)) := by simp [okL]
theorem okL_take (l : List (List Int)) (k : Nat) (h : okL l = true) : okL (l.take k) = true := by
  simp only [okL, List.all_eq_true] at h ⊢
  exact fun x hx => h x (List.mem_of_mem_take hx)

theorem take_snocL (l : List (List Int)) (k : Nat) (h : k < l.length) : l.take (k + 1) = l.take k ++ [l[k]?.getD []] := by
  rw [List.take_succ_eq_append_getElem h]
  simp [h]

/-- What Join leaves. -/
def JoinP (w : World) (R : List Int × Int) (e : Ending) (w' : World) : Prop :=
  ∃ v', e = .returned (.tuple #[v', .int .i64 R.2]) ∧ RowB w' v' R.1 ∧ Below w.heap.size w w' ∧ ∀ x ∈ own v', w.heap.size ≤ x

def joinR (l : List (List Int)) : List Int × Int := if okL l = true then (joinB l, 0) else ([], 1)

end Go.Proofs.YtgpbanjammipiaaGreatDoor

namespace Go.Proofs.YtgpbanjammipiaaGreatDoor
open Go.RowKit Go.Maps

/-- What All tells from a place on, with so many rounds: the texts, the place, the error. -/
def allF : Nat → List Int → Nat → List (List Int) → List (List Int) × Nat × Int
  | 0, _, _, acc => (acc, 0, 0)
  | f + 1, bs, at_, acc => if bs.length ≤ at_ then (acc, 0, 0) else
      if (decB (bs.drop at_)).2.2 = 0 then allF f bs (at_ + (decB (bs.drop at_)).2.1) (acc ++ [(decB (bs.drop at_)).1]) else ([], at_, (decB (bs.drop at_)).2.2)

def allB (bs : List Int) : List (List Int) × Nat × Int := allF (bs.length + 1) bs 0 []

theorem decB_ok (bs : List Int) (h : (decB bs).2.2 = 0) : 6 ≤ (decB bs).2.1 ∧ (decB bs).2.1 ≤ bs.length ∧ (decB bs).1.length + 6 = (decB bs).2.1 ∧ (decB bs).2.1 ≤ 1006 := by
  revert h
  unfold decB
  split
  · simp
  · split
    · simp
    · split
      · simp
      · split
        · simp
        · intro _
          refine ⟨by simp, by simp; omega, ?_, by simp; omega⟩
          simp
          omega

theorem decB_err (bs : List Int) (h : (decB bs).2.2 ≠ 0) : (decB bs).1 = [] ∧ (decB bs).2.1 = 0 ∧ ((decB bs).2.2 = 2 ∨ (decB bs).2.2 = 3) := by
  revert h
  unfold decB
  split
  · simp
  · split
    · simp
    · split
      · simp
      · split
        · simp
        · simp

/-- A slice's end. -/
theorem IsB.drop {w : World} {a : Option Addr} {len cap : Nat} {bs : List Int} (h : IsB w (.slice a len cap) bs) (b off : Nat) (ha : a = some ⟨b, off, none⟩) (p : Nat) (hp : p ≤ len) : IsB w (.slice (some ⟨b, off + p, none⟩) (len - p) (cap - p)) (bs.drop p) := by
  subst ha
  have hl : bs.length = len := by
    obtain ⟨_, _, he, _⟩ := h
    simp at he
    omega
  have := h.mid p (len - p) (by omega)
  rw [List.take_of_length_le (by simp; omega)] at this
  exact this

/-- What All leaves. -/
def AllP (w : World) (R : List (List Int) × Nat × Int) (e : Ending) (w' : World) : Prop :=
  ∃ v', e = .returned (.tuple #[v', .int .i64 R.2.1, .int .i64 R.2.2]) ∧ RowT w' v' R.1 ∧ Below w.heap.size w w'

end Go.Proofs.YtgpbanjammipiaaGreatDoor

namespace Go.Proofs.YtgpbanjammipiaaGreatDoor
open Go.RowKit Go.Maps

/-- The number of the bytes of a number. -/
theorem valB_put (k : Nat) (n : Int) : valB 256 (putB k n) = n % 256 ^ k := by
  induction k generalizing n with
  | zero => simp [putB, valB]
  | succ k ih =>
    rw [putB, valB, ih, Int.pow_succ, Int.mul_comm (256 ^ k) 256]
    have h : (0 : Int) < 256 ^ k := Int.pow_pos (by omega)
    generalize (256 : Int) ^ k = M at h
    have e1 := Int.emod_add_mul_ediv (n / 256) M
    have e2 := Int.emod_add_mul_ediv n 256
    have h1 := Int.emod_nonneg (n / 256) (by omega : M ≠ 0)
    have h2 := Int.emod_lt_of_pos (n / 256) h
    have e3 : n = (n % 256 + 256 * (n / 256 % M)) + 256 * M * (n / 256 / M) := by
      rw [Int.mul_assoc]
      generalize M * (n / 256 / M) = X at e1 ⊢
      omega
    have e4 : (n % 256 + 256 * (n / 256 % M)) % (256 * M) = n % 256 + 256 * (n / 256 % M) := Int.emod_eq_of_lt (by omega) (by
      have : 256 * (n / 256 % M + 1) ≤ 256 * M := Int.mul_le_mul_of_nonneg_left (by omega) (by omega)
      omega)
    conv => rhs; rw [e3, Int.add_mul_emod_self_left, e4]

/-- The bytes of the number of bytes. -/
theorem putB_val (xs : List Int) (h : ∀ z ∈ xs, 0 ≤ z ∧ z ≤ 255) : putB xs.length (valB 256 xs) = xs := by
  induction xs with
  | nil => rfl
  | cons x xs ih =>
    have hx := h x (by simp)
    have hv := valB_nonneg 256 (by omega) xs (fun z hz => (h z (by simp [hz])).1)
    rw [List.length_cons, putB, valB, show (x + 256 * valB 256 xs) % 256 = x by omega, show (x + 256 * valB 256 xs) / 256 = valB 256 xs by omega, ih (fun z hz => h z (by simp [hz]))]

theorem sizeB_blk (t rest : List Int) (hl : t.length ≤ 1000) : sizeB (blkB t ++ rest) = t.length := by
  have e : (blkB t ++ rest).take 2 = putB 2 t.length := by
    rw [blkB, headB, List.append_assoc, List.append_assoc, List.take_append_of_le_length (by rw [putB_length]; omega), List.take_of_length_le (by rw [putB_length]; omega)]
  unfold sizeB
  rw [e, valB_put]
  omega

/-- What was told is read as it was, whatever stands behind it. -/
theorem decB_blk (t rest : List Int) (hl : t.length ≤ 1000) (hb : ∀ z ∈ t, 0 ≤ z ∧ z ≤ 255) : decB (blkB t ++ rest) = (t, t.length + 6, 0) := by
  have hs := sizeB_blk t rest hl
  have hlen : (blkB t ++ rest).length = t.length + 6 + rest.length := by rw [List.length_append, blkB_length]
  have hc := crcSum_lt (headB t) (headB_bytes t hb)
  have e1 : (blkB t ++ rest).take (t.length + 2) = headB t := by
    rw [blkB, List.append_assoc, List.take_append_of_le_length (by rw [headB_length]; omega), List.take_of_length_le (by rw [headB_length]; omega)]
  have e2 : ((blkB t ++ rest).drop (t.length + 2)).take 4 = putB 4 (crcSum (headB t) : Nat) := by
    rw [blkB, List.append_assoc, List.drop_append_of_le_length (by rw [headB_length]; omega), List.drop_of_length_le (by rw [headB_length]; omega), List.nil_append, List.take_append_of_le_length (by rw [putB_length]; omega), List.take_of_length_le (by rw [putB_length]; omega)]
  have e3 : ((blkB t ++ rest).drop 2).take t.length = t := by
    rw [blkB, headB, List.append_assoc, List.append_assoc, List.drop_append_of_le_length (by rw [putB_length]; omega), List.drop_of_length_le (by rw [putB_length]; omega), List.nil_append, List.take_append_of_le_length (by omega), List.take_of_length_le (by omega)]
  unfold decB
  rw [hs, hlen, e1, e2, e3, valB_put, if_neg (by omega), if_neg (by omega), if_neg (by omega), if_neg (by omega)]

/-- Bytes that begin with a block begin with the block of its text. -/
theorem decB_back (bs : List Int) (hb : ∀ z ∈ bs, 0 ≤ z ∧ z ≤ 255) (h : (decB bs).2.2 = 0) : blkB (decB bs).1 = bs.take (decB bs).2.1 ∧ (decB bs).1.length ≤ 1000 := by
  revert h
  unfold decB
  split
  · simp
  · split
    · simp
    · split
      · simp
      · split
        · simp
        · rename_i h1 h2 h3 h4
          intro _
          dsimp only
          have hl : ((bs.drop 2).take (sizeB bs)).length = sizeB bs := by simp; omega
          refine ⟨?_, by omega⟩
          have e1 : putB 2 (sizeB bs : Nat) = bs.take 2 := by
            have := putB_val (bs.take 2) (fun z hz => hb z (List.mem_of_mem_take hz))
            rw [sizeB_eq bs hb, List.length_take, Nat.min_eq_left (by omega)] at this
            exact this
          have e2 : headB ((bs.drop 2).take (sizeB bs)) = bs.take (sizeB bs + 2) := by
            rw [headB, hl, e1, Nat.add_comm, List.take_add]
          have e3 : putB 4 (valB 256 ((bs.drop (sizeB bs + 2)).take 4)) = (bs.drop (sizeB bs + 2)).take 4 := by
            have := putB_val ((bs.drop (sizeB bs + 2)).take 4) (fun z hz => hb z (List.mem_of_mem_drop (List.mem_of_mem_take hz)))
            rw [List.length_take, List.length_drop, Nat.min_eq_left (by omega)] at this
            exact this
          have h5 : valB 256 ((bs.drop (sizeB bs + 2)).take 4) = (crcSum (bs.take (sizeB bs + 2)) : Nat) := by omega
          rw [blkB, e2, ← h5, e3, show sizeB bs + 6 = (sizeB bs + 2) + 4 by omega]
          exact List.take_add.symm

/-- Blocks, one behind the other, are read as their texts. -/
theorem allF_join (l : List (List Int)) (pre : List Int) (f : Nat) (acc : List (List Int)) (hk : okL l = true) (hb : ∀ t ∈ l, ∀ z ∈ t, 0 ≤ z ∧ z ≤ 255) (hf : l.length < f) :
    allF f (pre ++ joinB l) pre.length acc = (acc ++ l, 0, 0) := by
  induction l generalizing pre f acc with
  | nil =>
    obtain ⟨f', rfl⟩ : ∃ f', f = f' + 1 := ⟨f - 1, by simp at hf; omega⟩
    rw [allF, if_pos (by simp [joinB])]
    simp
  | cons t l ih =>
    obtain ⟨f', rfl⟩ : ∃ f', f = f' + 1 := ⟨f - 1, by simp at hf; omega⟩
    simp only [okL, List.all_cons, Bool.and_eq_true, decide_eq_true_eq] at hk
    have ht := hb t (by simp)
    have ej : joinB (t :: l) = blkB t ++ joinB l := by simp [joinB]
    have ed : decB ((pre ++ joinB (t :: l)).drop pre.length) = (t, t.length + 6, 0) := by
      rw [List.drop_left, ej]
      exact decB_blk t _ hk.1 ht
    have hlen : (pre ++ joinB (t :: l)).length = pre.length + (t.length + 6) + (joinB l).length := by
      rw [List.length_append, ej, List.length_append, blkB_length]
      omega
    rw [allF, if_neg (by omega), ed, if_pos rfl]
    have := ih (pre ++ blkB t) f' (acc ++ [t]) (by simpa [okL] using hk.2) (fun x hx => hb x (by simp [hx])) (by simp at hf; omega)
    rw [List.length_append, blkB_length, List.append_assoc, ← ej] at this
    rw [this]
    simp

theorem allB_join (l : List (List Int)) (hk : okL l = true) (hb : ∀ t ∈ l, ∀ z ∈ t, 0 ≤ z ∧ z ≤ 255) : allB (joinB l) = (l, 0, 0) := by
  have hlen : l.length ≤ (joinB l).length := by
    clear hk hb
    induction l with
    | nil => simp
    | cons t l ih =>
      have ej : joinB (t :: l) = blkB t ++ joinB l := by simp [joinB]
      rw [ej, List.length_append, blkB_length, List.length_cons]
      omega
  have := allF_join l [] ((joinB l).length + 1) [] hk hb (by omega)
  simpa [allB] using this

theorem allF_len (f : Nat) (bs : List Int) (k : Nat) (acc : List (List Int)) (h : acc.length ≤ k) (hk : k ≤ bs.length) : (allF f bs k acc).1.length ≤ bs.length ∧ (allF f bs k acc).2.1 ≤ bs.length := by
  induction f generalizing k acc with
  | zero => exact ⟨by simp only [allF]; omega, by simp [allF]⟩
  | succ f ih =>
    rw [allF]
    split
    · exact ⟨by dsimp only; omega, by simp⟩
    · split
      · rename_i h1 h2
        have := decB_ok (bs.drop k) h2
        rw [List.length_drop] at this
        exact ih _ _ (by simp; omega) (by omega)
      · exact ⟨by simp, by dsimp only; omega⟩

theorem allB_len (bs : List Int) : (allB bs).1.length ≤ bs.length ∧ (allB bs).2.1 ≤ bs.length := allF_len _ bs 0 [] (by simp) (by omega)

end Go.Proofs.YtgpbanjammipiaaGreatDoor

namespace Go.Proofs.YtgpbanjammipiaaGreatDoor
open Go.RowKit Go.Maps

def abc : List Int := [97, 98, 99]

end Go.Proofs.YtgpbanjammipiaaGreatDoor

namespace Go.Proofs.YtgpbanjammipiaaGreatDoor
open Go.RowKit Go.Maps

end Go.Proofs.YtgpbanjammipiaaGreatDoor

namespace Go.Proofs.YtgpbanjammipiaaGreatDoor
open Go.RowKit Go.Maps

theorem undrew_below {w w' : World} (b : Below w.drew.heap.size w.drew w') : Below w.heap.size w w' := ⟨b.os, b.tape, b.output, b.size, b.block⟩

section
variable {ops : Array Oper} {o : Oper} {a : Act} {K : Act → World → Prop} {Q : Exit → Act → World → Prop} {E : Prop}

set_option maxRecDepth 100000 in
/-- 'append([]byte{}, b...)': the new row has just been made. -/
theorem step_copyB (w : World) (hgd : o.guard = none) (s x : Operand) (ho : o.op = .call { callee := .builtin .append, args := #[s, x], argTypes := #[46, 46] })
    (cs : List Int) (v : Value) (hs : a.eval s = .slice (some ⟨w.heap.size, 0, none⟩) 0 0) (hx : a.eval x = v) (hv : IsB w v cs) (hlen : cs.length ≤ 1099511627776)
    (h : ∀ g' cap' w', OwnB w.heap.size w' g' cap' cs → Below w.heap.size w w' → K (a.put o.dst (.slice (some ⟨g', 0, none⟩) cs.length cap')) w') :
    if Region.wanted o (yielded ops a.tmps) = true then Oper.wp Tryz.prog o a (w.alloc (.cells #[] 5)) K Q else E := by
  have hw : Region.wanted o (yielded ops a.tmps) = true := by simp [Region.wanted, hgd]
  rw [if_pos hw]
  obtain ⟨i0, hi, hz0, hz1, hz2⟩ := info_parts Tryz.infoU8
  have hown := OwnB.empty w w.heap.size (Nat.le_refl _)
  have hv' := hv.below ((Below.refl _ w).alloc (Nat.le_refl _) (.cells #[] 5))
  obtain ⟨ad, c, rfl, h1, h2, h3, h4⟩ := hv'
  cases ad with
  | none =>
    obtain ⟨rfl, rfl⟩ := h2 rfl
    unfold Oper.wp
    simp only [List.length_nil] at hx
    simp [execOp, ho, resolve, invoke, builtin, hs, hx, Result.andThen]
    have hk := h w.heap.size 0 _ hown ((Below.refl _ w).alloc (Nat.le_refl _) _)
    exact hk
  | some ad =>
    refine wp_append_own _ s x 46 ho w.heap.size 5 i0 (.int .u8 0) 1 1 Tryz.underlying46 hi hz0 hz1 hz2 rfl (by decide) _ 0 _ hs hown.1 ad cs.length c (cs.map (Value.int .u8)) hx (by simp) (cells_news (h3 ad rfl)) (ints_oneCell _ _) (by unfold maxLen; omega) (by omega) (by simp) ?_
    intro v' w' hown' hgrow hnil
    have hsh : ∃ g' cap', v' = .slice (some ⟨g', 0, none⟩) cs.length cap' := by
      rcases hown'.2 with ⟨h0, _⟩ | ⟨g', cap', _, rfl, _⟩
      · simp [h0] at hnil
      · exact ⟨g', cap', by simp⟩
    obtain ⟨g', cap', rfl⟩ := hsh
    refine h g' cap' w' ⟨?_, h4⟩ ?_
    · simpa using hown'
    · exact ((Below.refl _ w).alloc (Nat.le_refl _) _).grown hgrow (by simp) (by intro k hk; simp [Value.ownBlock] at hk; omega)

end

/-- min, of a length and a number. -/
theorem min_len (n k : Nat) (K : Int) (hK : K = (k : Int)) : ∀ (ts : Array TypeId) (t : TypeId) (w : World), (Builtin.min_ ts t #[.int .i64 (n : Int), .int .i64 K]).run Tryz.prog w = .ok (.int .i64 ((min n k : Nat) : Int)) w := fun ts t w => by
  rw [run_min_int2, hK]
  congr 2
  split <;> omega

end Go.Proofs.YtgpbanjammipiaaGreatDoor

namespace Go.Proofs.YtgpbanjammipiaaGreatDoor
open Go.RowKit

theorem valB_append (m : Int) (xs : List Int) (t : Int) : valB m (xs ++ [t]) = valB m xs + m ^ xs.length * t := by
  induction xs with
  | nil => simp [valB]
  | cons x xs ih =>
    rw [List.cons_append, valB, ih, valB, List.length_cons, Int.mul_add, Int.pow_succ, ← Int.mul_assoc, Int.mul_comm m (m ^ xs.length)]
    omega

theorem putB_snoc (k : Nat) (n : Int) : putB (k + 1) n = putB k n ++ [n / 2 ^ (8 * k) % 256] := by
  induction k generalizing n with
  | zero => simp [putB]
  | succ k ih =>
    rw [putB, ih, putB, List.cons_append, show (n / 256) / 2 ^ (8 * k) = n / 2 ^ (8 * (k + 1)) by
      rw [Int.ediv_ediv_of_nonneg (by omega), show (256 : Int) * 2 ^ (8 * k) = 2 ^ (8 * (k + 1)) by rw [show 8 * (k + 1) = 8 * k + 8 by omega, Int.pow_add, Int.mul_comm]; rfl]]

/-- One byte more, as the document's Get reckons it. -/
theorem refGet_step (xs : List Int) (x : Int) (hx : ∀ z ∈ xs, 0 ≤ z ∧ z ≤ 255) (hk : xs.length < 8) (h0 : 0 ≤ x) (h1 : x ≤ 255) :
    IntKind.u64.wrap (valB 256 xs + IntKind.u64.wrap (x * 2 ^ (8 * xs.length))) = valB 256 (xs ++ [x]) := by
  have hn := valB_nonneg 256 (by omega) (xs ++ [x]) (fun z hz => by
    rcases List.mem_append.1 hz with hz | hz
    · exact (hx z hz).1
    · simp at hz
      omega)
  have hl := valB_lt 256 (by omega) (xs ++ [x]) (fun z hz => by
    rcases List.mem_append.1 hz with hz | hz
    · have := hx z hz
      omega
    · simp at hz
      omega)
  have hv := valB_nonneg 256 (by omega) xs (fun z hz => (hx z hz).1)
  have hp : (256 : Int) ^ (xs ++ [x]).length ≤ 18446744073709551616 := by
    have e1 : ((256 : Int)) ^ (xs ++ [x]).length = ((256 ^ (xs ++ [x]).length : Nat) : Int) := by rw [Int.natCast_pow]; rfl
    have := Nat.pow_le_pow_right (show 0 < 256 by omega) (show (xs ++ [x]).length ≤ 8 by simp; omega)
    rw [e1]
    omega
  have e2 : (2 : Int) ^ (8 * xs.length) = 256 ^ xs.length := by rw [Int.pow_mul]; rfl
  rw [valB_append] at hn hl ⊢
  rw [e2, Int.mul_comm x]
  have hm : 0 ≤ 256 ^ xs.length * x := Int.mul_nonneg (Int.le_of_lt (Int.pow_pos (by omega))) h0
  generalize (256 : Int) ^ xs.length * x = M at *
  rw [IntKind.wrap_u64, IntKind.wrap_u64]
  omega

end Go.Proofs.YtgpbanjammipiaaGreatDoor

namespace Go.Proofs.YtgpbanjammipiaaGreatDoor
open Go.RowKit Go.Maps

end Go.Proofs.YtgpbanjammipiaaGreatDoor

namespace Go.Proofs.YtgpbanjammipiaaGreatDoor
open Go.RowKit Go.Maps

/-- Strings that are not the same, in the walk's own form. -/
theorem str_ne {a b : ByteArray} (h : ¬ a = b) : (a.toList == b.toList) = false := by
  rw [beq_eq_false_iff_ne]
  intro e
  rw [ByteArray.toList_eq, ByteArray.toList_eq] at e
  apply h
  cases a
  cases b
  simp at e
  rw [e]

/-- The sum is right just if the bytes are the block of their text. -/
theorem sum_iff (bs : List Int) (hb : ∀ z ∈ bs, 0 ≤ z ∧ z ≤ 255) (h1 : ¬ bs.length < 2) (h2 : ¬ 1000 < sizeB bs) (h3 : ¬ bs.length < sizeB bs + 6) :
    valB 256 ((bs.drop (sizeB bs + 2)).take 4) = (crcSum (bs.take (sizeB bs + 2)) : Nat) ↔ blkB ((bs.drop 2).take (sizeB bs)) = bs.take (sizeB bs + 6) := by
  have hd : decB bs = if valB 256 ((bs.drop (sizeB bs + 2)).take 4) ≠ (crcSum (bs.take (sizeB bs + 2)) : Nat) then ([], 0, 3) else ((bs.drop 2).take (sizeB bs), sizeB bs + 6, 0) := by
    rw [decB, if_neg h1, if_neg h2, if_neg h3]
  have hml : ((bs.drop 2).take (sizeB bs)).length = sizeB bs := by simp; omega
  constructor
  · intro h
    rw [if_neg (by omega)] at hd
    have := (decB_back bs hb (by rw [hd])).1
    rw [hd] at this
    exact this
  · intro h
    have hd2 := decB_blk ((bs.drop 2).take (sizeB bs)) (bs.drop (sizeB bs + 6)) (by omega) (fun z hz => hb z (List.mem_of_mem_drop (List.mem_of_mem_take hz)))
    rw [h, List.take_append_drop] at hd2
    rw [hd2] at hd
    by_cases hv : valB 256 ((bs.drop (sizeB bs + 2)).take 4) = (crcSum (bs.take (sizeB bs + 2)) : Nat)
    · exact hv
    · rw [if_pos hv] at hd
      simp at hd

end Go.Proofs.YtgpbanjammipiaaGreatDoor

namespace Go.Proofs.YtgpbanjammipiaaGreatDoor
open Go.RowKit Go.Maps

/-! ### Files -/

/-- A file in memory: its name, its block, the two slices, and what they hold. -/
structure Fl where
  name : List UInt8
  blk : Nat
  vn : Value
  vs : Value
  now : List Int
  syn : List Int

/-- The blocks of a file. -/
def foot (f : Fl) : List Nat := f.blk :: (own f.vn ++ own f.vs)

structure FileAt (w : World) (f : Fl) : Prop where
  cells : w.heap[f.blk]? = some (.cells #[f.vn, f.vs] 92 (0, 0))
  rnow : RowB w f.vn f.now
  rsyn : RowB w f.vs f.syn
  apart : (foot f).Nodup

theorem FileAt.lt {w : World} {f : Fl} (h : FileAt w f) : ∀ x ∈ foot f, x < w.heap.size := by
  intro x hx
  simp only [foot, List.mem_cons, List.mem_append] at hx
  rcases hx with rfl | hx | hx
  · exact (Array.getElem?_eq_some_iff.1 h.cells).1
  · exact h.rnow.lt x hx
  · exact h.rsyn.lt x hx

theorem FileAt.kept {fp : List Nat} {w w' : World} {f : Fl} (h : FileAt w f) (hk : Kept fp w w') (hf : ∀ x ∈ foot f, x ∉ fp) : FileAt w' f :=
  ⟨(hk.block _ (h.lt _ (by simp [foot])) (hf _ (by simp [foot]))).trans h.cells, h.rnow.kept hk (fun x hx => hf x (by simp only [foot, List.mem_cons, List.mem_append]; exact .inr (.inl hx))), h.rsyn.kept hk (fun x hx => hf x (by simp only [foot, List.mem_cons, List.mem_append]; exact .inr (.inr hx))), h.apart⟩

/-- A block of cells, read and marked. -/
theorem cell_of_heap {w : World} {b : Nat} {cs : Array Value} {t : TypeId} {m : Nat × Nat} (h : w.heap[b]? = some (.cells cs t m)) (o : Nat) : w.cell? ⟨b, o, none⟩ = cs[o]? := by simp [World.cell?, h]
theorem frozen_of_heap {w : World} {b : Nat} {cs : Array Value} {t : TypeId} (h : w.heap[b]? = some (.cells cs t (0, 0))) (o : Nat) : w.frozen? ⟨b, o, none⟩ = false := by simp [World.frozen?, h]
theorem heap_setCell {w : World} {b : Nat} {cs : Array Value} {t : TypeId} {m : Nat × Nat} (h : w.heap[b]? = some (.cells cs t m)) (o : Nat) (v : Value) : (w.setCell ⟨b, o, none⟩ v).heap[b]? = some (.cells (cs.setIfInBounds o v) t m) := by
  simp [World.setCell, Array.getElem?_modify, h]

/-! ### Disks -/

/-- How a pointer to a file reads: as its block's number. -/
def ptrE (v : Value) : Option (DataW Unit × List MemPlace) :=
  match v with
  | .pointer none => some (.nil, [])
  | .pointer (some a) => if a = ⟨a.block, 0, none⟩ then some (.lit (.int .i64 a.block), []) else none
  | _ => none

theorem ptrE_none : ptrE (.pointer none) = some (.nil, []) := rfl
theorem ptrE_some (b : Nat) : ptrE (.pointer (some ⟨b, 0, none⟩)) = some (.lit (.int .i64 b), []) := by simp [ptrE]

theorem ptrE_inv_nil {v : Value} {ps : List MemPlace} (h : ptrE v = some (.nil, ps)) : v = .pointer none := by
  unfold ptrE at h
  split at h
  · rfl
  · split at h <;> simp at h
  · simp at h

theorem ptrE_inv {v : Value} {b : Nat} {ps : List MemPlace} (h : ptrE v = some (.lit (.int .i64 b), ps)) : v = .pointer (some ⟨b, 0, none⟩) := by
  unfold ptrE at h
  split at h
  · simp at h
  · split at h
    · rename_i a e
      simp at h
      rw [e]
      congr 3
      omega
    · simp at h
  · simp at h

/-- The file of a name. -/
def look (fs : List Fl) (n : List UInt8) : Option Fl := fs.find? (fun f => f.name == n)

/-- The datum D is the map of these files' names to their blocks. -/
structure MapIs (D : DataW Unit) (fs : List Fl) : Prop where
  at_ : ∀ n, D.atKey (.string n) .nil = match look fs n with | some f => .lit (.int .i64 f.blk) | none => .nil
  has : ∀ n, Maps.has D (.string n) = (look fs n).isSome
  size : Maps.size D = fs.length

/-- The slice v, nil or a row of its own, holds these truths. -/
def RowK (w : World) (v : Value) (ks : List Bool) : Prop := w.ownsRow 0 4 1 v ks.length (ks.map Value.bool)

theorem RowK.kept {fp : List Nat} {w w' : World} {v : Value} {ks : List Bool} (h : RowK w v ks) (hk : Kept fp w w') (hf : ∀ x ∈ own v, x ∉ fp) : RowK w' v ks := ownsRow_kept h hk hf
theorem RowK.lt {w : World} {v : Value} {ks : List Bool} (h : RowK w v ks) : ∀ x ∈ own v, x < w.heap.size := fun x hx => (World.ownsRow.lt h x (by simpa [own] using hx)).2

/-- What a disk has beside its files. -/
structure Ds where
  room : Int
  used : Int
  ops : Int
  down : Bool
  left : Int
  keep : List Bool

/-- The disk's own block. -/
def diskCells (bm : Nat) (kv : Value) (s : Ds) : Array Value := #[.map (some bm), .int .i64 s.room, .int .i64 s.used, .int .i64 s.ops, .bool s.down, .int .i64 s.left, kv]

/-- The blocks of a disk. -/
def feet (p bm : Nat) (kv : Value) (fs : List Fl) : List Nat := p :: bm :: (own kv ++ fs.flatMap foot)

structure DiskAt (w : World) (p bm : Nat) (kv : Value) (fs : List Fl) (s : Ds) : Prop where
  cells : w.heap[p]? = some (.cells (diskCells bm kv s) 60 (0, 0))
  map : ∃ D, w.ownsMap Tryz.prog 9 ptrE bm fs.length D ∧ MapIs D fs
  files : ∀ f ∈ fs, FileAt w f
  keep : RowK w kv s.keep
  apart : (feet p bm kv fs).Nodup
  sorted : fs.Pairwise (fun f g => f.name < g.name)

end Go.Proofs.YtgpbanjammipiaaGreatDoor

namespace Go.Proofs.YtgpbanjammipiaaGreatDoor
open Go.RowKit Go.Maps

/-- How many sectors so many bytes need. -/
def sec (n : Nat) : Int := ((n + 15) / 16 : Nat)

theorem sec_eq (n : Nat) : sec n = ((n : Int) + 15) / 16 := by unfold sec; omega

theorem sectors_any (n : Nat) (h : n ≤ 1099511627776) (w : World) : Calls Tryz.prog 69 #[.int .i64 n] w fun e w' => e = .returned (.int .i64 (sec n)) ∧ w' = w := by
  rw [sec_eq]
  go_enter Tryz.func69, Tryz.ntmps69
  go_wp2
  go_ret
  refine ⟨?_, rfl⟩
  have e : (n : Int) + 16 - 1 = n + 15 := by omega
  rw [← e]
  rfl

/-- May a name be? -/
def mayB (s : List UInt8) : Bool := decide (1 ≤ s.length) && decide (s.length ≤ 24)

theorem mayBe_any (s : ByteArray) (hs : s.size ≤ maxLen) (w : World) : Calls Tryz.prog 41 #[.string s] w fun e w' => e = .returned (.bool (mayB s.data.toList)) ∧ w' = w := by
  unfold maxLen at hs
  have hm : mayB s.data.toList = (decide (1 ≤ s.size) && decide (s.size ≤ 24)) := by simp [mayB]
  rw [hm]
  clear hm
  by_cases h1 : 1 ≤ s.size
  · by_cases h2 : s.size ≤ 24
    · go_enter Tryz.func41, Tryz.ntmps41
      go_wp2
      go_ret
      simp [h1, h2]
      omega
    · go_enter Tryz.func41, Tryz.ntmps41
      go_wp2
      go_ret
      simp [h1, h2]
      omega
  · go_enter Tryz.func41, Tryz.ntmps41
    go_wp2
    go_ret
    simp

theorem Tryz.addInt64 {a : Addr} {x y s : Int} {w : World} (hc : w.cell? a = some (.int .i64 x)) (hz : w.frozen? a = false) (hs : IntKind.i64.wrap (x + y) = s) :
    (callFunc 90 #[.pointer (some a), .int .i64 y]).run Tryz.prog w = .ok (.value (.int .i64 s)) (w.setCell a (.int .i64 s)) :=
  run_call_add Tryz.func90 (by kernel_rfl) (by kernel_rfl) (by kernel_rfl) .i64 (by kernel_rfl) hc hz (by rw [← hs]; rfl)

theorem add_any (b o : Nat) (x y s : Int) (w : World) (hc : w.cell? ⟨b, o, none⟩ = some (.int .i64 x)) (hz : w.frozen? ⟨b, o, none⟩ = false) (hs : IntKind.i64.wrap (x + y) = s) :
    Calls Tryz.prog 62 #[.pointer (some ⟨b, o, none⟩), .int .i64 y] w fun e w' => e = .returned (.int .i64 s) ∧ w' = w.setCell ⟨b, o, none⟩ (.int .i64 s) := by
  have hr := Tryz.addInt64 hc hz hs
  clear hs
  go_enter Tryz.func62, Tryz.ntmps62
  go_wp2
  go_ret
  exact ⟨rfl, rfl⟩

section
variable {w : World} {p bm : Nat} {kv : Value} {fs : List Fl} {s : Ds}

theorem down_any (h : DiskAt w p bm kv fs s) : Calls Tryz.prog 23 #[.pointer (some ⟨p, 0, none⟩)] w fun e w' => e = .returned (.bool s.down) ∧ w' = w := by
  have c4 := cell_of_heap h.cells 4
  simp [diskCells] at c4
  clear h
  go_enter Tryz.func23, Tryz.ntmps23
  go_wp2
  go_ret
  exact ⟨rfl, rfl⟩

theorem used_any (h : DiskAt w p bm kv fs s) : Calls Tryz.prog 21 #[.pointer (some ⟨p, 0, none⟩)] w fun e w' => e = .returned (.int .i64 s.used) ∧ w' = w := by
  have c4 := cell_of_heap h.cells 2
  simp [diskCells] at c4
  clear h
  go_enter Tryz.func21, Tryz.ntmps21
  go_wp2
  go_ret
  exact ⟨rfl, rfl⟩

end

/-- bytes.Equal. -/
theorem bytesEqual_any (a b : Value) (xs ys : List Int) (w : World) (ha : IsB w a xs) (hb : IsB w b ys) :
    Calls Tryz.prog 160 #[a, b] w fun e w' => e = .returned (.bool (decide (xs = ys))) ∧ w' = w := by
  have c1 := conv_isB ha
  have c2 := conv_isB hb
  have hx := ha.bytes
  have hy := hb.bytes
  obtain ⟨a1, cp1, rfl, _⟩ := ha.form
  obtain ⟨a2, cp2, rfl, _⟩ := hb.form
  clear ha hb
  by_cases e : xs = ys
  · subst e
    go_enter Tryz.func160, Tryz.ntmps160
    go_wp2
    go_ret
    simp
  · have hne : (strOfNums xs).toList ≠ (strOfNums ys).toList := fun h => e (strOfNums_inj hx hy (by
      rw [ByteArray.toList_eq, ByteArray.toList_eq] at h
      generalize strOfNums xs = a at h
      generalize strOfNums ys = b at h
      cases a
      cases b
      simp at h
      rw [h]))
    have HE : Hid (¬ xs = ys) := e
    clear e
    go_enter Tryz.func160, Tryz.ntmps160
    go_wp2
    go_ret
    simp [HE.out, hne]

end Go.Proofs.YtgpbanjammipiaaGreatDoor
