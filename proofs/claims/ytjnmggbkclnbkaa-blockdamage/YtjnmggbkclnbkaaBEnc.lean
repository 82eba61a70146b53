/-
  What block's Encode does. A lemma file: no statement of the seat is proved here.
-/
import Derived.Test.YtjnmggbkclnbkaaGet
import Derived.Test.YtjnmggbkclnbkaaCrc
import Derived.Test.YtjnmggbkclnbkaaPut
import Derived.Test.YtjnmggbkclnbkaaKept
namespace Go.Proofs.Ytjnmggbkclnbkaa
open Go.RowKit

/-- How many bytes a text has, by two bytes, and the text. -/
def headB (t : List Int) : List Int := putB 2 t.length ++ t
/-- The block of a text. -/
def blkB (t : List Int) : List Int := headB t ++ putB 4 (crcSum (headB t) : Nat)

theorem headB_length (t : List Int) : (headB t).length = t.length + 2 := by
  rw [headB, List.length_append, putB_length]
  omega
theorem blkB_length (t : List Int) : (blkB t).length = t.length + 6 := by
  rw [blkB, List.length_append, putB_length, headB_length]
theorem headB_bytes (t : List Int) (h : ∀ z ∈ t, 0 ≤ z ∧ z ≤ 255) : ∀ z ∈ headB t, 0 ≤ z ∧ z ≤ 255 := by
  intro z hz
  rcases List.mem_append.1 hz with hz | hz
  · exact putB_bytes _ _ z hz
  · exact h z hz
theorem blkB_bytes (t : List Int) (h : ∀ z ∈ t, 0 ≤ z ∧ z ≤ 255) : ∀ z ∈ blkB t, 0 ≤ z ∧ z ≤ 255 := by
  intro z hz
  rcases List.mem_append.1 hz with hz | hz
  · exact headB_bytes t h z hz
  · exact putB_bytes _ _ z hz

set_option maxHeartbeats 400000 in
theorem encode_no (v : Value) (bs : List Int) (w : World) (hb : IsB w v bs) (hl : 1000 < bs.length) (hl2 : bs.length ≤ 70368744177664) :
    Calls Try.prog 12 #[v] w fun e w' => e = .returned (.tuple #[.slice none 0 0, .int .i64 1]) ∧ w' = w := by
  obtain ⟨a, cap, rfl, hlc⟩ := hb.form
  clear hb
  go_enter Try.func12, Try.ntmps12
  go_wp2
  go_ret2
  exact ⟨rfl, rfl⟩

set_option maxHeartbeats 1000000 in
theorem encode_go (v : Value) (bs xs : List Int) (w : World) (hb : IsB w v bs) (hl : bs.length ≤ 1000) (hx : Hid (xs = blkB bs)) :
    Calls Try.prog 12 #[v] w fun e w' => ∃ g cap, e = .returned (.tuple #[.slice (some ⟨g, 0, none⟩) xs.length cap, .int .i64 0]) ∧ OwnB w.heap.size w' g cap xs ∧ Below w.heap.size w w' := by
  have P2 := fun w => put_any (.slice none 0 0) [] 2 bs.length w (IsB.nil w) (by simp) (by omega) (by omega)
  obtain ⟨ps, hps⟩ : ∃ ps, ps = [] ++ putB (min (2 : Int) 8).toNat bs.length := ⟨_, rfl⟩
  rw [← hps] at P2
  have hps2 : ps = putB 2 bs.length := by rw [hps]; rfl
  have hpl : ps.length = 2 := by rw [hps2, putB_length]
  obtain ⟨hs, hhs⟩ : ∃ hs, hs = headB bs := ⟨_, rfl⟩
  have hh2 : ps ++ bs = hs := by rw [hhs, hps2]; rfl
  have hhl : ps.length + bs.length = hs.length := by rw [← hh2, List.length_append]
  have hhl2 : hs.length ≤ 1002 := by omega
  have hhb : ∀ z ∈ hs, 0 ≤ z ∧ z ≤ 255 := by rw [hhs]; exact headB_bytes bs hb.bytes
  have hcl := crcSum_lt hs hhb
  have P4 := fun v w h => put_any v hs 4 (crcSum hs : Nat) w h (by omega) (by omega) (by omega)
  have hxe : hs ++ putB (min (4 : Int) 8).toNat (crcSum hs : Nat) = xs := by rw [hx.out, blkB, ← hhs]; rfl
  rw [hxe] at P4
  have HP2 := hide P2
  have HP4 := hide P4
  have HH := hide hh2
  have HHL := hide hhl
  have HI := hide hb
  obtain ⟨c, hc⟩ : ∃ c, c = crcSum hs := ⟨_, rfl⟩
  rw [← hc] at hcl HP4
  have HC := hide hc
  obtain ⟨a, cap, rfl, hlc⟩ := hb.form
  have hpb : ps.length ≤ 2 := by omega
  clear hpl hps hps2 hhs hh2 hhl hhb P2 P4 hxe hb hc hx
  go_enter Try.func12, Try.ntmps12
  go_wp2_with fail
  refine (HP2.out w).mono ?_
  rintro e w1 ⟨g1, cap1, rfl, o1, b1⟩
  have i1 := HI.out.below b1
  have hs1 := b1.size
  go_wp2_with (at_builtin; refine wp_appendB w1 rfl _ _ rfl w.heap.size g1 cap1 ps bs _ rfl o1 rfl i1 (by omega) hs1 ?_; intro g2 cap2 w2 o2 b2; rw [HH.out] at o2; rw [HHL.out])
  have B2 := b1.trans b2
  go_wp2_with fail
  refine (crc_any _ hs w2 o2.isB (by omega)).mono ?_
  rintro e w3 ⟨rfl, rfl⟩
  rw [← HC.out]
  go_wp2_with fail
  refine (HP4.out _ _ o2.isB).mono ?_
  rintro e w4 ⟨g4, cap4, rfl, o4, b4⟩
  go_wp2
  go_ret2
  exact ⟨g4, cap4, rfl, o4.mono B2.size, below_then B2 b4⟩

end Go.Proofs.Ytjnmggbkclnbkaa
