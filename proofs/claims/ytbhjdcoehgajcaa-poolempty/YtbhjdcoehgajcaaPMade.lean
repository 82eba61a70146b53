/-
  What made answers. A lemma file: no statement of the seat is proved here.
-/
import Derived.Test.YtbhjdcoehgajcaaPRow
namespace Go.Proofs.Ytbhjdcoehgajcaa.L.P
open Go.RowKit Go.Maps

section
variable {B : Nat} {w0 w : World} {p : Nat} {rs : List (Value × List Int)}
theorem md1 (h : Rd B w0 w p [] (S7 0 0) rs) : Calls Try.prog 25 #[.pointer (some ⟨p, 0, none⟩), .string ⟨#[97]⟩] w fun e w' => e = .returned (.int .i64 0) ∧ Rd B w0 w' p [([97], [], [])] (S7 0 1) rs := h.create (by decide) ⟨#[97]⟩ (strP 97) mp1
theorem md2 (h : Rd B w0 w p [([97], [], [])] (S7 0 1) rs) : Calls Try.prog 25 #[.pointer (some ⟨p, 0, none⟩), .string ⟨#[98]⟩] w fun e w' => e = .returned (.int .i64 0) ∧ Rd B w0 w' p [([97], [], []), ([98], [], [])] (S7 0 2) rs := h.create (by decide) ⟨#[98]⟩ (strP 98) mp2
theorem md3 (h : Rd B w0 w p [([97], [], []), ([98], [], [])] (S7 0 2) rs) (u : Value) (bs : List Int) (hl : bs.length ≤ 300) (hu : (u, bs) ∈ rs) : Calls Try.prog 26 #[.pointer (some ⟨p, 0, none⟩), .string ⟨#[97]⟩, u] w fun e w' => e = .returned (.int .i64 0) ∧ Rd B w0 w' p [([97], bs, []), ([98], [], [])] (S7 (sec bs.length) 3) rs := h.append (by decide) ⟨#[97]⟩ (strP 97) u bs hu (by omega) (mp3 bs hl)
theorem md4 {cs : List Int} (hc : cs.length ≤ 300) (h : Rd B w0 w p [([97], cs, []), ([98], [], [])] (S7 (sec cs.length) 3) rs) (u : Value) (bs : List Int) (hl : bs.length ≤ 300) (hu : (u, bs) ∈ rs) : Calls Try.prog 26 #[.pointer (some ⟨p, 0, none⟩), .string ⟨#[98]⟩, u] w fun e w' => e = .returned (.int .i64 0) ∧ Rd B w0 w' p [([97], cs, []), ([98], bs, [])] (S7 (sec cs.length + sec bs.length) 4) rs := h.append (by simp only [S7]; omega) ⟨#[98]⟩ (strP 98) u bs hu (by omega) (mp4 cs bs hc hl)
end

theorem row_cell {w : World} {g n cap : Nat} {bs : List Int} (h : RowB w (.slice (some ⟨g, 0, none⟩) n cap) bs) (k : Nat) (hk : k < bs.length) : (∃ z : Int, w.cell? ⟨g, k, none⟩ = some (.int .u8 z)) ∧ w.frozen? ⟨g, k, none⟩ = false := by
  rcases h.form with ⟨e, _⟩ | ⟨g', cap', e, o⟩
  · cases e
  · cases e
    have e := World.ownsRow.cells o.1 (g := g) rfl k (.int .u8 bs[k]) (by simp [hk])
    rw [Addr.add_lit] at e
    have f := World.ownsRow.frozenAt o.1 k
    exact ⟨⟨bs[k], by simpa using e⟩, by simpa using f⟩
theorem partF_length (f : Nat → Int) (a k : Nat) : (partF f a k).length = a := by simp [partF]

set_option maxRecDepth 100000 in
set_option maxHeartbeats 1000000 in
theorem made_any (w0 w : World) (a b : Nat) (ha : a ≤ 300) (hb : b ≤ 300) (h0 : Below w0.heap.size w0 w) : Calls Try.prog 10 #[.int .i64 (a : Int), .int .i64 (b : Int)] w fun e w' => ∃ p, e = .returned (.pointer (some ⟨p, 0, none⟩)) ∧ Sd w0.heap.size w0 w' p [([97], allOf fA a, []), ([98], allOf fB b, [])] (S7 (sec a + sec b) 4) := by
  have NW := hide (Sd.new (B := w0.heap.size) (w0 := w0) 1000 (by omega) w h0 h0.size)
  clear h0
  go_enter Try.func10, Try.ntmps10
  go_wp2_with (first | (go_at_call 24; refine NW.out.mono ?_; rintro e w1 ⟨rfl, d1⟩; have D1 : Hid (Sd w0.heap.size w0 w1 (w.heap.size + 1) [] (S7 0 0)) := d1; clear d1) | (at_make; refine wp_makeB _ rfl _ _ rfl a a a rfl rfl rfl rfl (by omega) ?_; intro w3 r3 b3; have R3 : Hid (Rd w0.heap.size w0 w3 (w.heap.size + 1) [] (S7 0 0) [(.slice (some ⟨w1.heap.size, 0, none⟩) a a, partF fA a 0)]) := Rd.made (Sd.rd D1.out) b3 (by rw [partF_zero]; exact r3) own_newP; clear r3 b3))
  go_loopw [7] (fun i wr => ∃ k : Nat, k ≤ a ∧ i = .int .i64 (k : Int) ∧ Hid (Rd w0.heap.size w0 wr (w.heap.size + 1) [] (S7 0 0) [(.slice (some ⟨w1.heap.size, 0, none⟩) a a, partF fA a k)])) (fun i _ => a - (intOf i).toNat)
  case atStart => exact ⟨0, Nat.zero_le _, rfl, R3⟩
  case round =>
    obtain ⟨k, hk, rfl, H⟩ := hrel
    by_cases hlt : k < a
    · obtain ⟨⟨z0, c0⟩, f0⟩ := row_cell (H.out.at (List.mem_singleton.2 rfl)) k (by rw [partF_length]; exact hlt)
      have H2 : Hid (Rd w0.heap.size w0 (wr.setCell ⟨w1.heap.size, k, none⟩ (.int .u8 ((k : Int) % 256))) (w.heap.size + 1) [] (S7 0 0) [(.slice (some ⟨w1.heap.size, 0, none⟩) a a, partF fA a (k + 1))]) := by
        have := H.out.stored (by simp) k ((k : Int) % 256) (by omega)
        rw [show (k : Int) % 256 = fA k from rfl, partF_step] at this
        exact this
      go_wp2_with fail
      go_roundw
      case rel => exact ⟨k + 1, by omega, by simp, H2⟩
      case measure => simp [intOf]; omega
    · obtain rfl : k = a := by omega
      have H3 := H
      obtain ⟨wo, hwo⟩ : ∃ wo, wo = wr := ⟨wr, rfl⟩
      subst hwo
      rw [partF_all] at H3
      clear H
      go_wp2_with (at_make; refine wp_makeB _ rfl _ _ rfl b b b rfl rfl rfl rfl (by omega) ?_; intro w4 r4 b4; have R4 : Hid (Rd w0.heap.size w0 w4 (w.heap.size + 1) [] (S7 0 0) [(.slice (some ⟨wo.heap.size, 0, none⟩) b b, partF fB b 0), (.slice (some ⟨w1.heap.size, 0, none⟩) k k, allOf fA k)]) := Rd.made H3.out b4 (by rw [partF_zero]; exact r4) own_newP; clear r4 b4)
      have hlt1 : w1.heap.size < wo.heap.size := (H3.out.at (List.mem_singleton.2 rfl)).lt _ (by simp [own, Value.ownBlock])
      have HN : Hid (∀ z ∈ [((Value.slice (some ⟨w1.heap.size, 0, none⟩) k k), allOf fA k)], wo.heap.size ∉ own z.1) := by
        show ∀ z ∈ _, _
        intro z hz
        rw [List.mem_singleton.1 hz]
        simp [own, Value.ownBlock]
        omega
      go_loopw [9] (fun i ws => ∃ j : Nat, j ≤ b ∧ i = .int .i64 (j : Int) ∧ Hid (Rd w0.heap.size w0 ws (w.heap.size + 1) [] (S7 0 0) [(.slice (some ⟨wo.heap.size, 0, none⟩) b b, partF fB b j), (.slice (some ⟨w1.heap.size, 0, none⟩) k k, allOf fA k)])) (fun i _ => b - (intOf i).toNat)
      case atStart => exact ⟨0, Nat.zero_le _, rfl, R4⟩
      case round =>
        obtain ⟨j, hj, rfl, G⟩ := hrel
        by_cases hlj : j < b
        · obtain ⟨⟨z0, c0⟩, f0⟩ := row_cell (G.out.at (List.mem_cons_self ..)) j (by rw [partF_length]; exact hlj)
          have G2 : Hid (Rd w0.heap.size w0 (wr.setCell ⟨wo.heap.size, j, none⟩ (.int .u8 ((7 * (j : Int)) % 256))) (w.heap.size + 1) [] (S7 0 0) [(.slice (some ⟨wo.heap.size, 0, none⟩) b b, partF fB b (j + 1)), (.slice (some ⟨w1.heap.size, 0, none⟩) k k, allOf fA k)]) := by
            have := G.out.stored HN.out j ((7 * (j : Int)) % 256) (by omega)
            rw [show (7 * (j : Int)) % 256 = fB j from rfl, partF_step] at this
            exact this
          go_wp2_with fail
          go_roundw
          case rel => exact ⟨j + 1, by omega, by simp, G2⟩
          case measure => simp [intOf]; omega
        · obtain rfl : j = b := by omega
          have G3 := G
          rw [partF_all] at G3
          have LA := hide (allOf_length fA k)
          have LB := hide (allOf_length fB j)
          clear G HN
          go_wp2_with fail
          refine (md1 G3.out).mono ?_
          rintro e w5 ⟨rfl, d5⟩
          have D5 := hide d5
          clear d5 G3
          go_wp2_with fail
          refine (md2 D5.out).mono ?_
          rintro e w6 ⟨rfl, d6⟩
          have D6 := hide d6
          clear d6 D5
          go_wp2_with fail
          refine (md3 D6.out _ (allOf fA k) (by rw [allOf_length]; exact ha) (by simp)).mono ?_
          rintro e w7 ⟨rfl, d7⟩
          have D7 := hide d7
          clear d7 D6
          go_wp2_with fail
          refine (md4 (by rw [allOf_length]; exact ha) D7.out _ (allOf fB j) (by rw [allOf_length]; exact hb) (by simp)).mono ?_
          rintro e w8 ⟨rfl, d8⟩
          rw [LA.out, LB.out] at d8
          have D8 := hide d8
          clear d8 D7
          go_wp2_with fail
          go_ret
          exact ⟨_, rfl, D8.out.sd⟩

end Go.Proofs.Ytbhjdcoehgajcaa.L.P
