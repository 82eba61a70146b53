/-
  The closure of runs.merge: what is left of a row goes on. A lemma file: no statement of the seat is proved here.
-/
import Derived.Test.YtbppjbdcgcmjiaaQMPure
import Derived.Test.YtbppjbdcgcmjiaaQCut
namespace Go.Proofs.Ytbppjbdcgcmjiaa
open Go.RowKit

/-- A merge on its way: the heap in block p, the box of rest in block rb, rest's row in block g. -/
structure MgSt (w0 w : World) (p rb g cap n : Nat) (ls : List (List Rc)) (S : List G.Rc) (fp : List Nat) : Prop where
  heap : G.Hp w p fp S
  row : RowX (fun x => w0.heap.size ≤ x) w (.slice (some ⟨g, 0, none⟩) n cap) ls
  box : w.heap[rb]? = some (.cells #[.slice (some ⟨g, 0, none⟩) n cap] 28 (0, 0))
  new : ∀ x ∈ fp, w0.heap.size ≤ x
  rbn : w0.heap.size ≤ rb
  rbp : rb ∉ fp
  old : g < w0.heap.size
  kept : Kept [g] w0 w

theorem MgSt.stay {w0 w w' : World} {p rb g cap n : Nat} {ls : List (List Rc)} {S : List G.Rc} {fp fq : List Nat} (h : MgSt w0 w p rb g cap n ls S fp) (hk : Kept fq w w') (h1 : ∀ x ∈ fq, w0.heap.size ≤ x) (h2 : ∀ x ∈ fp, x ∉ fq) (h3 : rb ∉ fq) : MgSt w0 w' p rb g cap n ls S fp := by
  have h0 := h.kept.size
  refine ⟨h.heap.kept hk h2, h.row.kept hk (fun x hx hx' => ?_) (fun x _ hx => .inr (h1 x hx)), hk.heap h.box h3, h.new, h.rbn, h.rbp, h.old, ?_⟩
  · simp [own, Value.ownBlock] at hx
    subst hx
    have := h1 _ hx'
    have := h.old
    omega
  · exact h.kept.trans hk (fun x hx => .inr (h1 x hx))

/-- What an operation of the heap leaves. -/
theorem MgSt.heaped {w0 w w' : World} {p rb g cap n : Nat} {ls : List (List Rc)} {S S' : List G.Rc} {fp fp' : List Nat} (h : MgSt w0 w p rb g cap n ls S fp) (h' : G.Hp w' p fp' S') (hk : Kept fp w w') (hn : Newly w fp fp') : MgSt w0 w' p rb g cap n ls S' fp' := by
  have h0 := h.kept.size
  have hrb : rb < w.heap.size := (Array.getElem?_eq_some_iff.1 h.box).1
  refine ⟨h', h.row.kept hk (fun x hx hx' => ?_) (fun x _ hx => .inr (h.new x hx)), hk.heap h.box h.rbp, fun x hx => ?_, h.rbn, fun hx => ?_, h.old, h.kept.trans hk (fun x hx => .inr (h.new x hx))⟩
  · simp [own, Value.ownBlock] at hx
    subst hx
    have := h.new _ hx'
    have := h.old
    omega
  · rcases hn x hx with h1 | h1
    · exact h.new x h1
    · omega
  · rcases hn rb hx with h1 | h1
    · exact h.rbp h1
    · omega

/-- A row goes on. -/
theorem MgSt.stored {w0 w : World} {p rb g cap n : Nat} {ls : List (List Rc)} {S : List G.Rc} {fp : List Nat} (h : MgSt w0 w p rb g cap n ls S fp) (i : Nat) (hi : i < ls.length) (u : Value) (t : List Rc) (hu : IsR w u t) (hd : t ≠ [] → ∀ x ∈ own u, x ≠ g ∧ ¬ w0.heap.size ≤ x) :
    MgSt w0 (w.setCell ⟨g, i, none⟩ u) p rb g cap n (ls.set i t) S fp := by
  have k : Kept [g] w (w.setCell ⟨g, i, none⟩ u) := (Kept.refl _ _).setCell (.inl (by simp)) _
  have ho := h.old
  have hr := h.rbn
  exact ⟨h.heap.kept k (fun x hx hx' => by simp at hx'; have := h.new x hx; omega), h.row.stored i hi u t hu hd, k.heap h.box (by simp; omega), h.new, h.rbn, h.rbp, h.old, h.kept.trans k (Newly.refl _ _)⟩

set_option maxRecDepth 100000 in
set_option maxHeartbeats 2000000 in
theorem next_any {w0 w : World} {p rb g cap n : Nat} {ls : List (List Rc)} {S : List G.Rc} {fp : List Nat} (h : MgSt w0 w p rb g cap n ls S fp) (i : Nat) (hi : i < ls.length) (hS : S.length ≤ 100000) (hl : ∀ l ∈ ls, l.length ≤ 1000000) (hls : ls.length ≤ 1000000) :
    Calls Try.prog 34 #[.int .i64 i, .pointer (some ⟨rb, 0, none⟩), .pointer (some ⟨p, 0, none⟩)] w fun e w' => e = .returned (.tuple #[]) ∧
      ∃ S' ls' fp', MgSt w0 w' p rb g cap n ls' S' fp' ∧ NextIs i S ls S' ls' ∧ Kept (g :: fp) w w' ∧ Newly w fp fp' := by
  obtain ⟨hn, hnc, hf, a, c, hc, hI, hd⟩ := h.row.at i hi
  have hb := cell_of_heap h.box 0
  have hb' : w.cell? ⟨rb, 0, none⟩ = some (.slice (some ⟨g, 0, none⟩) n cap) := hb
  have hin : (i : Int) < (n : Int) := by omega
  obtain ⟨l, hle⟩ : ∃ l, l = ls[i]?.getD [] := ⟨_, rfl⟩
  rw [← hle] at hc hI hd
  have hlb : l.length ≤ 1000000 := by
    rw [hle]
    rw [List.getElem?_eq_getElem hi]
    exact hl _ (List.getElem_mem hi)
  have HL := hide hle
  have HN := hide hn
  have H := hide h
  clear hb hle hn
  cases l with
  | nil =>
    clear h
    simp only [List.length_nil] at hc
    go_enter Try.func34, Try.ntmps34
    go_wp2
    go_end0
    exact ⟨rfl, S, ls, fp, H.out, .inl ⟨HL.out.symm, rfl, rfl⟩, Kept.refl _ _, Newly.refl _ _⟩
  | cons x t =>
    obtain ⟨b, off, c', e, hlc, hcells⟩ := hI.opened (by simp)
    simp only [Value.slice.injEq] at e
    obtain ⟨rfl, _, rfl⟩ := e
    obtain ⟨c1, c2⟩ := hcells 0 (by simp)
    have okx := hI.okAt 0 (by simp)
    simp only [Nat.zero_mul, Nat.add_zero, List.getElem!_cons_zero] at c1 c2 okx
    have hlp : (0 : Int) < ((t.length + 1 : Nat) : Int) := by omega
    obtain ⟨m, hm⟩ : ∃ m, m = t.length + 1 := ⟨_, rfl⟩
    simp only [List.length_cons] at hc hI hd hlc
    rw [← hm] at hc hI hd hlc hlp
    have HM := hide hm
    have HI := hide hI
    have HD := hide hd
    have OKX := hide okx
    clear hm hI hd okx hcells h
    obtain ⟨x1, x2⟩ := x
    dsimp only at c1 c2
    go_enter Try.func34, Try.ntmps34
    have HP := hide (H.out.heap.push hS x1 x2 (i : Int) ⟨OKX.out.1, OKX.out.2, by show (0 : Int) ≤ (i : Int) ∧ (i : Int) < 9223372036854775808; omega⟩)
    go_wp2_with fail
    refine HP.out.mono ?_
    rintro e w3 ⟨rfl, fp', h3, k3, n3⟩
    have m3 := H.out.heaped h3 k3 n3
    have hgf : g ∉ fp := fun hx => by have := H.out.new g hx; have := H.out.old; omega
    have hb3 : w3.cell? ⟨rb, 0, none⟩ = some (.slice (some ⟨g, 0, none⟩) n cap) := cell_of_heap m3.box 0
    have hc3 : w3.cell? ⟨g, i, none⟩ = some (.slice (some ⟨b, off, none⟩) m c) := k3.cell hc hgf
    have hf3 := (m3.row.at i hi).2.2.1
    have M3 := hide m3
    have K3 := hide (And.intro k3 n3)
    have HG := hide hgf
    clear h3 k3 n3 m3 hgf HP
    have hm1 : (1 : Int) ≤ (m : Int) := by omega
    have FIN : Hid (∀ u, IsR w3 u t → (∀ x ∈ own u, x = b) → (∃ S' ls' fp', MgSt w0 (w3.setCell ⟨g, i, none⟩ u).drew p rb g cap n ls' S' fp' ∧ NextIs i S ls S' ls' ∧ Kept (g :: fp) w (w3.setCell ⟨g, i, none⟩ u).drew ∧ Newly w fp fp')) := fun u hu hub => by
      have hbw : b ≠ g ∧ ¬ w0.heap.size ≤ b := HD.out (by simp) b (by simp [own, Value.ownBlock])
      refine ⟨G.insR (x1, x2, (i : Int)) S, ls.set i t, fp', (M3.out.stored i hi u t hu (fun _ x hx => by rw [hub x hx]; exact hbw)).stay (fq := []) (Kept.refl _ _).drew (by simp) (by simp) (by simp), .inr ⟨(x1, x2), t, HL.out.symm, rfl, rfl⟩, ?_, K3.out.2⟩
      exact (((K3.out.1.mono (fun x hx => List.mem_cons_of_mem _ hx))).setCell (.inl (by simp)) _).drew
    have hI3 : IsR w3 (.slice (some ⟨b, off, none⟩) m c) ((x1, x2) :: t) := HI.out.kept K3.out.1 (fun x hx hx' => by
      simp [own, Value.ownBlock] at hx
      subst hx
      exact (HD.out (by simp) x (by simp [own, Value.ownBlock])).2 (H.out.new _ hx'))
    have HT := hide hI3.tail
    clear hI3
    have HT0 : Hid (c = 1 → IsR w3 (.slice (some ⟨b, off, none⟩) (m - 1) 0) t) := fun e => by
      have := HM.out
      have ht : t = [] := List.eq_nil_of_length_eq_zero (by omega)
      subst ht
      simp only [List.length_nil] at this
      subst this
      exact ⟨_, 0, rfl, Nat.le_refl _, by simp, fun x _ j u hu => by simp [flatR] at hu, by simp⟩
    go_wp2
    go_region_with (fail)
    all_goals go_wp2
    all_goals go_end0
    all_goals refine ⟨rfl, FIN.out _ ?_ (by simp [own, Value.ownBlock])⟩
    all_goals first | exact HT.out | exact HT0.out (by assumption)

end Go.Proofs.Ytbppjbdcgcmjiaa
