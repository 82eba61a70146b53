/-
  Whether a sector is as it was synced; what stays of a crash. A lemma file: no statement of the seat is proved here.
-/
import Derived.Test.YtbhjdcoehgajcaaDZeros
namespace Go.Proofs.Ytbhjdcoehgajcaa
open Go.RowKit Go.Maps Go.Sort Go.Shelf

/-- The bytes from a on, up to b. -/
def seg (xs : List Int) (a b : Nat) : List Int := (xs.drop a).take (b - a)

/-- Are the bytes from a to b as they were synced? -/
def sameB (now syn : List Int) (a b : Nat) : Bool := decide (b ≤ syn.length) && decide (seg now a b = seg syn a b)

set_option maxRecDepth 100000 in
set_option maxHeartbeats 4000000 in
theorem same_any {w : World} {f : Fl} (h : FileAt w f) (a b : Nat) (hab : a < b) (hb : b ≤ f.now.length) (hl : f.now.length ≤ 1099511627776) (hl2 : f.syn.length ≤ 1099511627776) :
    Calls Try.prog 56 #[.pointer (some ⟨f.blk, 0, none⟩), .int .i64 a, .int .i64 b] w fun e w' => e = .returned (.bool (sameB f.now f.syn a b)) ∧ ∃ n, w' = w.drewN n := by
  have c0 := cell_of_heap h.cells 0
  have c1 := cell_of_heap h.cells 1
  simp at c0 c1
  have hn := h.rnow.isB
  have hs := h.rsyn.isB
  obtain ⟨vn, hvn⟩ : ∃ vn, vn = f.vn := ⟨_, rfl⟩
  obtain ⟨vs, hvs⟩ : ∃ vs, vs = f.vs := ⟨_, rfl⟩
  obtain ⟨now, hnow⟩ : ∃ now, now = f.now := ⟨_, rfl⟩
  obtain ⟨syn, hsyn⟩ : ∃ syn, syn = f.syn := ⟨_, rfl⟩
  obtain ⟨p, hp⟩ : ∃ p, p = f.blk := ⟨_, rfl⟩
  rw [← hvn, ← hp] at c0
  rw [← hvs, ← hp] at c1
  rw [← hvn, ← hnow] at hn
  rw [← hvs, ← hsyn] at hs
  rw [← hnow] at hb hl ⊢
  rw [← hsyn] at hl2 ⊢
  rw [← hp]
  clear hvn hvs hnow hsyn hp h
  obtain ⟨n1, n2, n3, rfl, hnc, hnx⟩ := hn.opened (by omega)
  by_cases h2 : b ≤ syn.length
  · obtain ⟨s1, s2, s3, rfl, hsc, hsx⟩ := hs.opened (by omega)
    have E1 := hide (fun W (hW : ∀ p, W.cell? p = w.cell? p) => bytesEqual_any (.slice (some ⟨n1, n2 + a, none⟩) (b - a) (n3 - a)) (.slice (some ⟨s1, s2 + a, none⟩) (b - a) (s3 - a)) (seg now a b) (seg syn a b) W
      (by have := hn.mid a (b - a) (by omega); obtain ⟨x1, x2, x3, x4, x5, x6, x7⟩ := this; exact ⟨x1, x2, x3, x4, x5, fun x hx j hj => (hW _).trans (x6 x hx j hj), x7⟩)
      (by have := hs.mid a (b - a) (by omega); obtain ⟨x1, x2, x3, x4, x5, x6, x7⟩ := this; exact ⟨x1, x2, x3, x4, x5, fun x hx j hj => (hW _).trans (x6 x hx j hj), x7⟩))
    have hd1 : decide (b ≤ syn.length) = true := by simpa using h2
    have hres : sameB now syn a b = decide (seg now a b = seg syn a b) := by simp [sameB, h2]
    rw [hres]
    clear hres
    generalize decide (seg now a b = seg syn a b) = r at E1 ⊢
    have hi1 : (b : Int) ≤ (syn.length : Int) := by omega
    have hi2 : (a : Int) ≤ (b : Int) := by omega
    have hi3 : (b : Int) ≤ (n3 : Int) := by omega
    have hi4 : (b : Int) ≤ (s3 : Int) := by omega
    have hz1 : ¬ (a : Int) = n3 := by omega
    have hz2 : ¬ (a : Int) = s3 := by omega
    clear hn hs hnx hsx hd1
    go_enter Try.func56, Try.ntmps56
    go_wp2
    go_quiet ((go_at_call 68; exact Calls.quiet_of_same (E1.out _ (fun _ => rfl))))
    go_wp2
    go_ret
    exact ⟨rfl, _, rfl⟩
  · have hd1 : decide ((b : Int) ≤ (syn.length : Int)) = false := by simp; omega
    have hd2 : decide (b ≤ syn.length) = false := by simp; omega
    have hres : sameB now syn a b = false := by simp [sameB, h2]
    rw [hres]
    clear hres
    obtain ⟨a2, cp2, rfl, _⟩ := hs.form
    clear hn hs hnx h2
    go_enter Try.func56, Try.ntmps56
    go_wp2
    go_quiet (fail)
    go_wp2
    go_ret
    exact ⟨rfl, _, rfl⟩

end Go.Proofs.Ytbhjdcoehgajcaa
