/-
  Pools: WriteAt, page by page. A lemma file: no statement of the seat is proved here.
-/
import Derived.Test.YtbhjdcoehgajcaaPWrite
namespace Go.Proofs.Ytbhjdcoehgajcaa.L.P
open Go.RowKit Go.Maps

section
variable {C : List UInt8 → Option (List Int)} {w w' : World} {fp : List Nat} {q d o : Nat} {fr : Int} {N : Nat} {l : List Ab} {s : Ds} {ord : List (Place × Nat)} {gs : List Pg}

theorem Pl.page2 (h : Pl w fp q d o fr N l s ord gs) {g : Pg} (hg : g ∈ gs) : w.heap[g.blk]? = some (.cells #[g.v, .bool g.dirty] 63 (0, 0)) ∧ g.blk ∉ own g.v := by
  obtain ⟨fd, fo, bm, h1, h2, h3, rfl, a1, a2, a3⟩ := h
  refine ⟨(h3.pages g hg).1, fun e => ?_⟩
  obtain ⟨a, b, rfl⟩ := List.append_of_mem hg
  have hap := h3.apart
  simp only [pfeet, List.flatMap_append, List.flatMap_cons, List.nodup_cons, List.mem_cons, List.mem_append, not_or, List.nodup_append] at hap
  obtain ⟨_, _, _, ⟨hng, _⟩, _⟩ := hap
  simp only [Pg.feet, List.nodup_cons] at hng
  exact hng.1 e

theorem Pl.write {a b : List Pg} {g : Pg} {w2 : World} {bs : List Int} (h : Pl w fp q d o fr N l s ord (a ++ g :: b)) (hk : Kept (own g.v) w w2) (hr : RowB w2 g.v bs) :
    Pl (w2.setCell ⟨g.blk, 1, none⟩ (.bool true)) fp q d o fr N l s ord (a ++ { g with bs := bs, dirty := true } :: b) ∧ Kept fp w (w2.setCell ⟨g.blk, 1, none⟩ (.bool true)) := by
  obtain ⟨fd, fo, bm, h1, h2, h3, rfl, a1, a2, a3⟩ := h
  have p2 := h3.setBytes hk hr
  obtain ⟨p3, k3⟩ := p2.setDirty true
  have hin : ∀ x ∈ own g.v, x ∈ pfeet q bm (a ++ g :: b) := fun x hx => pfeet_own (by simp) hx
  have hb : g.blk ∈ pfeet q bm (a ++ g :: b) := pfeet_blk (by simp)
  have ef : pfeet q bm (a ++ { g with bs := bs, dirty := true } :: b) = pfeet q bm (a ++ g :: b) := by simp [pfeet, Pg.feet]
  refine ⟨⟨fd, fo, bm, (h1.kept hk (fun x hx e => a2 x hx (hin x e))).kept k3 (fun x hx e => a2 x hx (by simp at e; exact e ▸ hb)), (h2.kept hk (fun x hx e => a3 x hx (hin x e))).kept k3 (fun x hx e => a3 x hx (by simp at e; exact e ▸ hb)), p3, by rw [ef], a1, by rw [ef]; exact a2, by rw [ef]; exact a3⟩, ?_⟩
  exact (hk.mono (fun x hx => by have := hin x hx; simp [this])).trans k3 (fun x hx => .inl (by simp at hx; subst hx; simp [hb]))

theorem eWrite1 : ∀ args w, (callFunc 31 args).run Try.prog w = .ok (.enter 31 args) w := enters_of Try.func31 (by kernel_rfl) rfl

/-- While bytes are written: how many are done. -/
def WrI (C : List UInt8 → Option (List Int)) (w2 : World) (fp : List Nat) (q d o : Nat) (fr : Int) (N : Nat) (P : Int) (U : Value) (bx : Nat) (nm : List UInt8) (c buf : List Int) (at_ : Nat) (done : Nat) (W : World) : Prop :=
  ∃ fp1 N1 l1 s1 ord1 gs1, Pl W fp1 q d o fr N1 l1 s1 ord1 gs1 ∧ PInv (putC C nm (putA c at_ (buf.take (min done buf.length)))) fr l1 s1 ord1 gs1 ∧ N1 ≤ N + done ∧ P ≤ s1.ops ∧ s1.ops ≤ P + 2 * done ∧ Kept fp w2 W ∧ Newly w2 fp fp1 ∧ W.cell? ⟨bx, 0, none⟩ = some U ∧ done ≤ buf.length + 63

theorem write_page {w2 W : World} {P : Int} {ua : Option Addr} {bx at_ uc D : Nat} {nm : ByteArray} {c buf : List Int} (hnm : nm.size ≤ maxLen) (hfr : fr ≤ 100000) (hN : N + buf.length ≤ 999999) (hP : P + 2 * buf.length ≤ 999000) (hf : at_ + buf.length ≤ c.length) (hcl : c.length ≤ 100000) (hD : D < buf.length)
    (hb2 : bx < w2.heap.size) (hbf : bx ∉ fp) (hu : IsB w2 (.slice ua buf.length uc) buf) (hux : ∀ x ∈ own (.slice ua buf.length uc), x ∉ fp) (hI : WrI C w2 fp q d o fr N P (.slice ua buf.length uc) bx nm.data.toList c buf at_ D W) :
    ∃ k : Place, k.1.1 = nm ∧ k.1.2 = ((at_ + D - (at_ + D) % 64 : Nat) : Int) ∧
      Calls Try.prog 46 #[.pointer (some ⟨q, 0, none⟩), encP k, .int .i64 (min 64 (c.length - (at_ + D - (at_ + D) % 64)) : Nat)] W fun e W1 => ∃ gb, e = .returned (.tuple #[.pointer (some ⟨gb, 0, none⟩), .int .i64 0]) ∧
        Calls Try.prog 31 (#[.pointer (some ⟨gb, 0, none⟩), .int .i64 ((at_ + D) % 64 : Nat), .int .i64 D] ++ #[.pointer (some ⟨bx, 0, none⟩)]) W1 fun e W2 => e = .returned (.tuple #[]) ∧ WrI C w2 fp q d o fr N P (.slice ua buf.length uc) bx nm.data.toList c buf at_ (D + (64 - (at_ + D) % 64)) W2 := by
  obtain ⟨fp1, N1, l1, s1, ord1, gs1, p1, i1, n1, o1, o2, k1, w1, bc, _⟩ := hI
  obtain ⟨j, hj⟩ : ∃ j, j = (at_ + D) / 64 := ⟨_, rfl⟩
  have ej : at_ + D - (at_ + D) % 64 = 64 * j := by omega
  have hmin : min D buf.length = D := by omega
  rw [hmin] at i1
  have hcD := write_len (c := c) (buf := buf) (at_ := at_) (D := D) hf (by omega)
  rw [ej]
  refine ⟨⟨(nm, ((64 * j : Nat) : Int)), hnm, by simp only; omega, by simp only; omega⟩, rfl, rfl, ?_⟩
  have nin : ∀ y, y < w2.heap.size → y ∉ fp → y ∉ fp1 := fun y h1 h2 e => by
    rcases w1 y e with u | u
    · exact h2 u
    · omega
  have hcc : putC C nm.data.toList (putA c at_ (buf.take D)) nm.data.toList = some (putA c at_ (buf.take D)) := by unfold putC; rw [if_pos rfl]
  have ha := hold_any p1 i1 (by omega) (by omega) hfr (k := ⟨(nm, ((64 * j : Nat) : Int)), hnm, by simp only; omega, by simp only; omega⟩) (c := putA c at_ (buf.take D)) (j := j) hcc rfl (by rw [hcD]; omega)
  rw [hcD] at ha
  refine ha.mono ?_
  rintro e W1 ⟨gb, rfl, N2, l2, s2, ord2, a, g, b, ⟨fp2, p2, k2, m2⟩, rfl, hgk, i2, n2, o3, o4, _⟩
  refine ⟨g.blk, rfl, ?_⟩
  obtain ⟨c2, j2, e1, e2, e3, e4⟩ := i2.page g (by simp)
  rw [hgk] at e1 e2
  have ec : some c2 = some (putA c at_ (buf.take D)) := e1.symm.trans hcc
  cases ec
  have e2' : ((64 * j : Nat) : Int) = ((64 * j2 : Nat) : Int) := e2
  have ejj : j2 = j := by omega
  subst ejj
  obtain ⟨g0, _, _, gr, gin, gown⟩ := p2.page (g := g) (by simp)
  obtain ⟨gc, gnb⟩ := p2.page2 (g := g) (by simp)
  obtain ⟨va, vc, hv, _⟩ := gr.isB.form
  have nin2 : ∀ y, y < w2.heap.size → y ∉ fp → y ∉ fp2 := fun y h1 h2 e => by
    rcases m2 y e with u | u
    · exact nin y h1 h2 u
    · have := k1.size; omega
  have bc2 := k2.cell bc (nin bx hb2 hbf)
  have hne : buf ≠ [] := fun e => by rw [e] at hD; simp at hD
  have hu2 := (hu.kept k1 (fun _ => hux)).kept k2 (fun _ y hy => nin y (hu.lt hne y hy) (hux y hy))
  have hsl : (seg (putA c at_ (buf.take D)) j2).length = min 64 (c.length - 64 * j2) := by rw [seg_len, hcD]
  have gv := hv
  rw [hv] at g0 gc
  refine (write1_any g.blk ((at_ + D) % 64) D bx buf.length uc g.bs.length vc ua va buf g.bs bc2 g0 (hv ▸ gr) rfl hu2 (by omega) (by rw [e4, hsl]; omega) (fun e => nin2 bx hb2 hbf (gown bx (by rw [hv]; exact e))) (fun e => gnb (by rw [hv]; exact e)) gc).mono ?_
  rintro e W2 ⟨rfl, w3, rfl, r3, k3⟩
  rw [← hv] at r3 k3
  obtain ⟨p4, k4⟩ := p2.write k3 r3
  have hnd := p2.facts.2.2
  have hstep := write_same (c := c) (buf := buf) (at_ := at_) (D := D) hf hD
  have i4 := i2.write hnd (c2 := putA c at_ (buf.take (min (D + (64 - (at_ + D) % 64)) buf.length))) (j := j2) (by rw [hgk]; exact hcc) (by rw [hgk]) (by rw [write_len hf (by omega), hcD]) (fun i hi => write_other hf hD (by rw [← hj]; exact hi))
  have hname : g.key.1.1.data.toList = nm.data.toList := by rw [hgk]
  rw [hname] at i4
  have ebs : g.bs.take ((at_ + D) % 64) ++ ((buf.drop D).take (g.bs.length - (at_ + D) % 64) ++ g.bs.drop ((at_ + D) % 64 + (buf.drop D).length)) = seg (putA c at_ (buf.take (min (D + (64 - (at_ + D) % 64)) buf.length))) j2 := by
    rw [e4, hj]
    exact hstep
  rw [ebs] at p4
  have epp : putC (putC C nm.data.toList (putA c at_ (buf.take D))) nm.data.toList (putA c at_ (buf.take (min (D + (64 - (at_ + D) % 64)) buf.length))) = putC C nm.data.toList (putA c at_ (buf.take (min (D + (64 - (at_ + D) % 64)) buf.length))) := by
    funext y
    unfold putC
    split <;> rfl
  refine ⟨rfl, fp2, N2, l2, s2, ord2, _, p4, by rw [← epp]; exact i4, by omega, by omega, by omega, ?_, fun y hy => ?_, k4.cell bc2 (nin2 bx hb2 hbf), by omega⟩
  · exact (k1.trans k2 w1).trans k4 (fun y hy => by
      rcases m2 y hy with u | u
      · exact w1 y u
      · exact .inr (Nat.le_trans k1.size u))
  · rcases m2 y hy with u | u
    · exact w1 y u
    · exact .inr (Nat.le_trans k1.size u)

set_option maxRecDepth 100000 in
set_option maxHeartbeats 1000000 in
/-- WriteAt of bytes that fit. -/
theorem writeAt_ok (h : Pl w fp q d o fr N l s ord gs) (hi : PInv C fr l s ord gs) (nm : ByteArray) (hnm : nm.size ≤ maxLen) {c : List Int} (hc : C nm.data.toList = some c) (hfr : fr ≤ 100000) (at_ : Nat) (ua : Option Addr) (uc : Nat) (buf : List Int) (hu : IsB w (.slice ua buf.length uc) buf) (hux : ∀ x ∈ own (.slice ua buf.length uc), x ∉ fp) (hf : at_ + buf.length ≤ c.length) (hN : N + buf.length ≤ 999000) (hP : s.ops + 2 * buf.length ≤ 998000) :
    Calls Try.prog 14 #[.pointer (some ⟨q, 0, none⟩), .string nm, .int .i64 at_, .slice ua buf.length uc] w fun e w' => e = .returned (.int .i64 0) ∧
      ∃ fp' N' l' s' ord' gs', Pl w' fp' q d o fr N' l' s' ord' gs' ∧ PInv (putC C nm.data.toList (putA c at_ buf)) fr l' s' ord' gs' ∧ N' ≤ N + buf.length + 63 ∧ s'.ops ≤ s.ops + 1 + 2 * (buf.length + 63) ∧ Kept fp w w' ∧ Newly w fp fp' := by
  obtain ⟨⟨x, hx⟩, hcl⟩ := hi.has _ _ hc
  obtain ⟨c2, hc2, hxl, _⟩ := hi.file _ _ hx
  rw [hc] at hc2
  cases hc2
  have hb := begin_eq (l := l) hi.left
  have hz : sizeA (beginA l s) nm.data.toList = ((c.length : Int), 0) := by
    rw [hb]
    unfold sizeA
    rw [err_none (s := { s with ops := s.ops + 1 }) hi.up hx]
    have hx2 : Go.Proofs.Ytbhjdcoehgajcaa.lookA l nm.data.toList = some x := hx
    dsimp only
    rw [hx2]
    dsimp only
    rw [hxl]
  have b0 : Below w.heap.size w (w.alloc (.cells #[.slice ua buf.length uc] 28)) := (Below.refl _ w).alloc (Nat.le_refl _) _
  have hc0 : (w.alloc (.cells #[.slice ua buf.length uc] 28)).cell? ⟨w.heap.size, 0, none⟩ = some (.slice ua buf.length uc) := cell_of_heap (heap_alloc_new w (.cells #[.slice ua buf.length uc] 28)) 0
  obtain ⟨n, hn⟩ : ∃ n, n = buf.length := ⟨_, rfl⟩
  have WI := hide (within_ok (h.below b0) (by omega) nm hnm (at_ : Int) (buf.length : Int) hz (by omega) (by omega) (by omega) (by omega))
  rw [hb] at WI
  have hmf := Try.mf
  have HI : Hid (PInv (putC C nm.data.toList (putA c at_ (buf.take (min 0 buf.length)))) fr l { s with ops := s.ops + 1 } ord gs) := by
    have e : putC C nm.data.toList (putA c at_ (buf.take (min 0 buf.length))) = C := by
      funext y
      unfold putC
      split
      · rename_i e
        rw [e, hc]
        simp [putA]
      · rfl
    rw [e]
    exact hi.begins
  have HC := hide (And.intro hnm (And.intro hfr (And.intro hf hcl)))
  have HB := hide (And.intro hN hP)
  have HU := hide (And.intro (hu.below b0) hux)
  have HL := hide h.lt
  have HS : Hid ((w.alloc (.cells #[.slice ua buf.length uc] 28)).heap.size = w.heap.size + 1) := by show _ = _; simp
  have B0 := hide b0
  have hn9 : buf.length ≤ 1000000 := by omega
  clear h hi hx hc hz hb hxl hfr hu hux b0
  generalize hW0 : w.alloc (.cells #[.slice ua buf.length uc] 28) = W0 at WI hc0 HU HS B0
  have HW0 := hide hW0
  go_enter Try.func14, Try.ntmps14
  go_wp2_with fail
  refine WI.out.mono ?_
  rintro e w1 ⟨rfl, o1⟩
  obtain ⟨fp1, p1, k1, n1⟩ := o1
  have nf : w.heap.size ∉ fp := fun e => by have := HL.out _ e; omega
  have hc1 := k1.cell hc0 nf
  have nf1 : ∀ y, y < W0.heap.size → y ∉ fp → y ∉ fp1 := fun y h1 h2 e => by
    rcases n1 y e with u | u
    · exact h2 u
    · omega
  have hs0 := HS.out
  have hk1 := k1.size
  have hu1 := HU.out.1.kept k1 (fun _ => HU.out.2)
  have hux1 : ∀ x ∈ own (.slice ua buf.length uc), buf ≠ [] → x ∉ fp1 := fun x hx hne => nf1 x (HU.out.1.lt hne x hx) (HU.out.2 x hx)
  have EA : Hid (Calls Try.prog 29 #[.pointer (some ⟨q, 0, none⟩), .string nm, .int .i64 at_, .int .i64 (buf.length : Int), .int .i64 (c.length : Int), .func (.func 31) #[] #[.pointer (some ⟨w.heap.size, 0, none⟩)]] w1 fun e w' => e = .returned (.int .i64 0) ∧ ∃ done, buf.length ≤ done ∧ WrI C w1 fp1 q d o fr N (s.ops + 1) (.slice ua buf.length uc) w.heap.size nm.data.toList c buf at_ done w') :=
    each_any (w := w1) q at_ buf.length c.length nm (by have := HC.out.2.2; omega) hn9 (by have := HC.out.2.2; omega) HC.out.2.2.1 31 #[.pointer (some ⟨w.heap.size, 0, none⟩)] eWrite1
      (WrI C w1 fp1 q d o fr N (s.ops + 1) (.slice ua buf.length uc) w.heap.size nm.data.toList c buf at_)
      ⟨fp1, N, l, _, ord, gs, p1, HI.out, Nat.le_refl _, Int.le_refl _, by show s.ops + 1 ≤ s.ops + 1 + 2 * ((0 : Nat) : Int); omega, Kept.refl _ _, Newly.refl _ _, hc1, by omega⟩
      (fun done W hd hI => write_page HC.out.1 HC.out.2.1 (by have := HB.out.1; omega) (by have := HB.out.2; omega) HC.out.2.2.1 HC.out.2.2.2 hd (by omega) (nf1 _ (by omega) nf) hu1
        (fun x hx => hux1 x hx (fun e => by rw [e] at hd; simp at hd)) hI)
  have K1 := hide (And.intro k1 n1)
  clear p1 k1 n1 hu1 hux1 hc0 hW0
  go_wp2_with fail
  refine EA.out.mono ?_
  rintro e W4 ⟨rfl, done, hdn, fp4, N4, l4, s4, ord4, gs4, p4, i4, n4, o4, o5, k4, m4, c4, d4⟩
  have Z4 := hide (And.intro p4 (And.intro i4 (And.intro n4 (And.intro o5 (And.intro k4 m4)))))
  clear p4 i4 n4 o4 o5 k4 m4 EA
  go_wp2_with fail
  go_ret
  obtain ⟨p4, i4, n4, o5, k4, m4⟩ := Z4.out
  obtain ⟨k1, n1⟩ := K1.out
  rw [Nat.min_eq_right hdn, List.take_length] at i4
  have q1 : Kept fp w w1 := (Kept.of_below (fp := fp) B0.out).trans k1 (Newly.refl _ _)
  have q2 : Newly w fp fp1 := fun y hy => (n1 y hy).imp id (fun u => Nat.le_trans B0.out.size u)
  exact ⟨rfl, fp4, N4, l4, s4, ord4, gs4, p4, i4, by omega, by omega, q1.trans k4 q2, q2.trans m4 q1.size⟩

end
end Go.Proofs.Ytbhjdcoehgajcaa.L.P
