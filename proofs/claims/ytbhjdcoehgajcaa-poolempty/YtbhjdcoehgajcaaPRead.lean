/-
  Pools: ReadAt. A lemma file: no statement of the seat is proved here.
-/
import Derived.Test.YtbhjdcoehgajcaaPHeld
namespace Go.Proofs.Ytbhjdcoehgajcaa.L.P
open Go.RowKit Go.Maps

theorem read_step {c : List Int} {at_ n D : Nat} (hf : at_ + n ≤ c.length) (hD : D < n) :
    ((c.drop at_).take D ++ zs0 (n - D)).take D ++ (((seg c ((at_ + D) / 64)).drop ((at_ + D) % 64)).take (n - D) ++ ((c.drop at_).take D ++ zs0 (n - D)).drop (D + ((seg c ((at_ + D) / 64)).drop ((at_ + D) % 64)).length)) =
      (c.drop at_).take (min (D + (64 - (at_ + D) % 64)) n) ++ zs0 (n - (D + (64 - (at_ + D) % 64))) := by
  have e0 : ((c.drop at_).take D).length = D := by simp; omega
  have e1 : (seg c ((at_ + D) / 64)).drop ((at_ + D) % 64) = (c.drop (at_ + D)).take (64 - (at_ + D) % 64) := by
    unfold seg
    rw [List.drop_take, List.drop_drop]
    congr 2
    omega
  rw [e1, List.take_append_of_le_length (by omega), List.take_of_length_le (by omega), List.take_take]
  have e2 : ((c.drop at_).take D ++ zs0 (n - D)).drop (D + ((c.drop (at_ + D)).take (64 - (at_ + D) % 64)).length) = zs0 (n - (D + (64 - (at_ + D) % 64))) := by
    have e9 : ((c.drop at_).take D).drop D = [] := List.drop_of_length_le (by omega)
    rw [← List.drop_drop, List.drop_append_of_le_length (by omega), e9, List.nil_append]
    unfold zs0
    rw [List.drop_replicate]
    congr 1
    simp
    omega
  rw [e2, ← List.append_assoc]
  congr 1
  have e3 : min (D + (64 - (at_ + D) % 64)) n = D + min (n - D) (64 - (at_ + D) % 64) := by omega
  rw [e3, List.take_add, List.drop_drop]

/-- While bytes are read: how many are done. -/
def RdI (C : List UInt8 → Option (List Int)) (w2 : World) (fp : List Nat) (q d o : Nat) (fr : Int) (N : Nat) (P : Int) (V : Value) (bx : Nat) (c : List Int) (at_ n : Nat) (done : Nat) (W : World) : Prop :=
  ∃ fp1 N1 l1 s1 ord1 gs1, Pl W fp1 q d o fr N1 l1 s1 ord1 gs1 ∧ PInv C fr l1 s1 ord1 gs1 ∧ N1 ≤ N + done ∧ P ≤ s1.ops ∧ s1.ops ≤ P + 2 * done ∧ Kept (fp ++ own V) w2 W ∧ Newly w2 fp fp1 ∧ W.cell? ⟨bx, 0, none⟩ = some V ∧ done ≤ n + 63 ∧ (0 < done → gs1 ≠ []) ∧
    RowB W V ((c.drop at_).take (min done n) ++ zs0 (n - done))

section
variable {C : List UInt8 → Option (List Int)} {w w' : World} {fp : List Nat} {q d o : Nat} {fr : Int} {N : Nat} {l : List Ab} {s : Ds} {ord : List (Place × Nat)} {gs : List Pg}

theorem eRead1 : ∀ args w, (callFunc 30 args).run Try.prog w = .ok (.enter 30 args) w := enters_of Try.func30 (by kernel_rfl) rfl

/-- One page of what is read. -/
theorem read_page {w2 W : World} {P : Int} {V : Value} {bx at_ n D : Nat} {nm : ByteArray} {c : List Int} (hnm : nm.size ≤ maxLen) (hc : C nm.data.toList = some c) (hfr : fr ≤ 100000) (hN : N + n ≤ 999999) (hP : P + 2 * n ≤ 999000) (hf : at_ + n ≤ c.length) (hcl : c.length ≤ 100000) (hD : D < n)
    (hV : ∃ g, V = .slice (some ⟨g, 0, none⟩) n n) (hb2 : bx < w2.heap.size) (hv2 : ∀ y ∈ own V, y < w2.heap.size ∧ y ∉ fp ∧ y ≠ bx) (hbf : bx ∉ fp) (hI : RdI C w2 fp q d o fr N P V bx c at_ n D W) :
    ∃ k : Place, k.1.1 = nm ∧ k.1.2 = ((at_ + D - (at_ + D) % 64 : Nat) : Int) ∧
      Calls Try.prog 46 #[.pointer (some ⟨q, 0, none⟩), encP k, .int .i64 (min 64 (c.length - (at_ + D - (at_ + D) % 64)) : Nat)] W fun e W1 => ∃ gb, e = .returned (.tuple #[.pointer (some ⟨gb, 0, none⟩), .int .i64 0]) ∧
        Calls Try.prog 30 (#[.pointer (some ⟨gb, 0, none⟩), .int .i64 ((at_ + D) % 64 : Nat), .int .i64 D] ++ #[.pointer (some ⟨bx, 0, none⟩)]) W1 fun e W2 => e = .returned (.tuple #[]) ∧ RdI C w2 fp q d o fr N P V bx c at_ n (D + (64 - (at_ + D) % 64)) W2 := by
  obtain ⟨fp1, N1, l1, s1, ord1, gs1, p1, i1, n1, o1, o2, k1, w1, bc, _, _, br⟩ := hI
  obtain ⟨j, hj⟩ : ∃ j, j = (at_ + D) / 64 := ⟨_, rfl⟩
  have ej : at_ + D - (at_ + D) % 64 = 64 * j := by omega
  rw [ej]
  refine ⟨⟨(nm, ((64 * j : Nat) : Int)), hnm, by simp only; omega, by simp only; omega⟩, rfl, rfl, ?_⟩
  have nin : ∀ y, y < w2.heap.size → y ∉ fp → y ∉ fp1 := fun y h1 h2 e => by
    rcases w1 y e with u | u
    · exact h2 u
    · omega
  refine (hold_any p1 i1 (by omega) (by omega) hfr (k := ⟨(nm, ((64 * j : Nat) : Int)), hnm, by simp only; omega, by simp only; omega⟩) (c := c) (j := j) hc rfl (by omega)).mono ?_
  rintro e W1 ⟨gb, rfl, N2, l2, s2, ord2, a, g, b, ⟨fp2, p2, k2, m2⟩, rfl, hgk, i2, n2, o3, o4, _⟩
  refine ⟨g.blk, rfl, ?_⟩
  obtain ⟨c2, j2, e1, e2, e3, e4⟩ := i2.page g (by simp)
  rw [hgk] at e1 e2
  have ec : some c2 = some c := e1.symm.trans hc
  cases ec
  have e2' : ((64 * j : Nat) : Int) = ((64 * j2 : Nat) : Int) := e2
  have ejj : j2 = j := by omega
  subst ejj
  obtain ⟨g0, _, _, gr, gin, gown⟩ := p2.page (g := g) (by simp)
  obtain ⟨va, vc, hv, _⟩ := gr.isB.form
  obtain ⟨vg, rfl⟩ := hV
  have nin2 : ∀ y, y < w2.heap.size → y ∉ fp → y ∉ fp2 := fun y h1 h2 e => by
    rcases m2 y e with u | u
    · exact nin y h1 h2 u
    · have := k1.size; omega
  have hvv := hv2 vg (by simp [own, Value.ownBlock])
  have bc2 := k2.cell bc (nin bx hb2 hbf)
  have br2 := br.kept k2 (fun y hy => nin y (hv2 y hy).1 (hv2 y hy).2.1)
  have hmin : min D n = D := by omega
  rw [hmin] at br2
  rw [hv] at g0
  have hsl : (seg c j2).length = min 64 (c.length - 64 * j2) := seg_len _ _
  refine (read1_any g.blk ((at_ + D) % 64) D bx n n g.bs.length vc (some ⟨vg, 0, none⟩) va _ g.bs bc2 g0 br2 (by rw [List.length_append, zs0_length]; simp; omega) (hv ▸ gr.isB) (by omega) (by rw [e4, hsl]; omega) (fun e => by
      have := (hv2 bx e).2.2
      exact this rfl) (fun e => by
      simp [own, Value.ownBlock] at e
      exact nin2 vg hvv.1 hvv.2.1 (e ▸ gin))).mono ?_
  rintro e W2 ⟨rfl, r3, k3⟩
  refine ⟨rfl, fp2, N2, l2, s2, ord2, a ++ g :: b, p2.kept k3 (fun y hy e => ?_), i2, by omega, by omega, by omega, ?_, fun y hy => ?_, k3.cell bc2 (fun e => (hv2 bx e).2.2 rfl), by omega, fun _ => by simp, ?_⟩
  · have := hv2 y e
    exact nin2 y this.1 this.2.1 hy
  · exact (k1.trans k2 (fun y hy => (w1 y hy).imp (fun u => by simp [u]) id)).trans k3 (fun y hy => .inl (by simp [hy]))
  · rcases m2 y hy with u | u
    · exact w1 y u
    · exact .inr (Nat.le_trans k1.size u)
  · rw [e4, hj, read_step hf hD] at r3
    exact r3

set_option maxRecDepth 100000 in
set_option maxHeartbeats 1000000 in
/-- ReadAt of bytes that there are. -/
theorem readAt_ok (h : Pl w fp q d o fr N l s ord gs) (hi : PInv C fr l s ord gs) (nm : ByteArray) (hnm : nm.size ≤ maxLen) {c : List Int} (hc : C nm.data.toList = some c) (hfr : fr ≤ 100000) (at_ n : Nat) (hf : at_ + n ≤ c.length) (hN : N + n ≤ 999000) (hP : s.ops + 2 * n ≤ 998000) :
    Calls Try.prog 13 #[.pointer (some ⟨q, 0, none⟩), .string nm, .int .i64 at_, .int .i64 n] w fun e w' => ∃ v, e = .returned (.tuple #[v, .int .i64 0]) ∧ RowB w' v ((c.drop at_).take n) ∧
      ∃ fp' N' l' s' ord' gs', Pl w' fp' q d o fr N' l' s' ord' gs' ∧ PInv C fr l' s' ord' gs' ∧ N' ≤ N + n + 63 ∧ s'.ops ≤ s.ops + 1 + 2 * (n + 63) ∧ Kept fp w w' ∧ Newly w fp fp' ∧ (0 < n → gs' ≠ []) ∧ ∀ y ∈ own v, w.heap.size ≤ y ∧ y ∉ fp' := by
  obtain ⟨⟨x, hx⟩, hcl⟩ := hi.has _ _ hc
  obtain ⟨c2, hc2, hxl, _⟩ := hi.file _ _ hx
  rw [hc] at hc2
  cases hc2
  have hb := begin_eq (l := l) hi.left
  have hz : sizeA (beginA l s) nm.data.toList = ((c.length : Int), 0) := by
    rw [hb]
    unfold sizeA
    rw [err_none (s := { s with ops := s.ops + 1 }) hi.up hx]
    have hx2 : Go.Proofs.Ytbhjdcoehgajcaa.lookA l nm.data.toList = some x := hx
    dsimp only
    rw [hx2]
    dsimp only
    rw [hxl]
  have WI := hide (within_ok h (by omega) nm hnm (at_ : Int) (n : Int) hz (by omega) (by omega) (by omega) (by omega))
  rw [hb] at WI
  have hmf := Try.mf
  have HI := hide hi.begins
  have HC := hide (And.intro hc (And.intro hnm (And.intro hfr (And.intro hf hcl))))
  have HB := hide (And.intro hN hP)
  have hn9 : n ≤ 1000000 := by omega
  clear h hi hx hc hz hb hxl hfr
  go_enter Try.func13, Try.ntmps13
  go_wp2_with (first | (go_at_call 28; refine WI.out.mono ?_; rintro e w1 ⟨rfl, o1⟩; have O1 := hide o1; clear o1) | (at_make; refine wp_makeB _ rfl _ _ rfl n (n : Int) (n : Int) rfl rfl rfl rfl (by omega) ?_; intro w2 r2 b2; have R2 := hide r2; have B2 := hide b2; clear r2 b2))
  obtain ⟨fp1, p1, k1, n1⟩ := O1.out
  have hv1 : ∀ y ∈ own (.slice (some ⟨w1.heap.size, 0, none⟩) n n), y = w1.heap.size := fun y hy => by simp [own, Value.ownBlock] at hy; omega
  have hw12 : w1.heap.size < w2.heap.size := R2.out.lt w1.heap.size (by simp [own, Value.ownBlock])
  have b3 : Below w2.heap.size w2 (w2.alloc (.cells #[.slice (some ⟨w1.heap.size, 0, none⟩) n n] 28)) := (Below.refl _ w2).alloc (Nat.le_refl _) _
  have hc3 : (w2.alloc (.cells #[.slice (some ⟨w1.heap.size, 0, none⟩) n n] 28)).cell? ⟨w2.heap.size, 0, none⟩ = some (.slice (some ⟨w1.heap.size, 0, none⟩) n n) := cell_of_heap (heap_alloc_new w2 (.cells #[.slice (some ⟨w1.heap.size, 0, none⟩) n n] 28)) 0
  have hs3 : (w2.alloc (.cells #[.slice (some ⟨w1.heap.size, 0, none⟩) n n] 28)).heap.size = w2.heap.size + 1 := by simp
  have p3 := (p1.below B2.out).below b3
  have r3 := R2.out.kept (Kept.of_below (fp := []) b3) (by simp)
  have B3 := hide (below_then B2.out b3)
  generalize w2.alloc (.cells #[.slice (some ⟨w1.heap.size, 0, none⟩) n n] 28) = W3 at b3 hc3 hs3 p3 r3 B3 ⊢
  have EA := hide (each_any (w := W3) q at_ n c.length nm (by have := HC.out.2.2.2; omega) hn9 (by have := HC.out.2.2.2; omega) HC.out.2.2.2.1 30 #[.pointer (some ⟨w2.heap.size, 0, none⟩)] eRead1
    (RdI C W3 fp1 q d o fr N (s.ops + 1) (.slice (some ⟨w1.heap.size, 0, none⟩) n n) w2.heap.size c at_ n)
    ⟨fp1, N, l, _, ord, gs, p3, HI.out, Nat.le_refl _, Int.le_refl _, by show s.ops + 1 ≤ s.ops + 1 + 2 * ((0 : Nat) : Int); omega, Kept.refl _ _, Newly.refl _ _, hc3, by omega, fun h => absurd h (Nat.lt_irrefl _), by simpa using r3⟩
    (fun done W hd hI => read_page HC.out.2.1 HC.out.1 HC.out.2.2.1 (by have := HB.out.1; omega) (by have := HB.out.2; omega) HC.out.2.2.2.1 HC.out.2.2.2.2 hd ⟨_, rfl⟩ (by omega)
      (fun y hy => ⟨by rw [hv1 y hy]; omega, fun e => by have := p1.lt y e; rw [hv1 y hy] at this; omega, by rw [hv1 y hy]; omega⟩) (fun e => by have := p1.lt _ e; omega) hI))
  have K1 := hide (And.intro k1 (And.intro n1 p1.lt))
  clear p1 k1 n1 hc3 p3 r3 b3
  refine EA.out.mono ?_
  rintro e W4 ⟨rfl, done, hdn, fp4, N4, l4, s4, ord4, gs4, p4, i4, n4, o4, o5, k4, m4, c4, d4, g4, r4⟩
  have Z4 := hide (And.intro p4 (And.intro i4 (And.intro n4 (And.intro o5 (And.intro k4 (And.intro m4 (And.intro g4 r4)))))))
  clear p4 i4 n4 o4 o5 k4 m4 r4 g4 EA
  go_wp2_with fail
  go_ret2
  obtain ⟨p4, i4, n4, o5, k4, m4, g4, r4⟩ := Z4.out
  obtain ⟨k1, n1, lt1⟩ := K1.out
  rw [Nat.min_eq_right hdn, Nat.sub_eq_zero_of_le hdn] at r4
  have hw1 := k1.size
  have q1 : Kept fp w W3 := k1.trans (Kept.of_below (fp := fp) B3.out) (Newly.refl _ _)
  have hs1 := B3.out.size
  refine ⟨_, rfl, by simpa [zs0] using r4, fp4, N4, l4, s4, ord4, gs4, p4, i4, by omega, by omega, q1.trans k4 (fun y hy => ?_), n1.trans m4 q1.size, fun h0 => g4 (by omega), fun y hy => ⟨by rw [hv1 y hy]; exact hw1, fun e => ?_⟩⟩
  · rcases List.mem_append.1 hy with u | u
    · exact n1 y u
    · exact .inr (by rw [hv1 y u]; exact hw1)
  · rcases m4 y e with u | u
    · have := lt1 y u
      rw [hv1 y hy] at this
      omega
    · rw [hv1 y hy] at u
      omega

end
end Go.Proofs.Ytbhjdcoehgajcaa.L.P
