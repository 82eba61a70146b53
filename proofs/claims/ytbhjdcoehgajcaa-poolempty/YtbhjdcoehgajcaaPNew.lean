/-
  Pools: New; ReadAt and WriteAt of what there is not; what is flushed. A lemma file: no statement of the seat is proved here.
-/
import Derived.Test.YtbhjdcoehgajcaaPFlush
namespace Go.Proofs.Ytbhjdcoehgajcaa.L.P
open Go.RowKit Go.Maps

theorem seg_ext {a b : List Int} (h : ∀ j, seg a j = seg b j) : a = b := by
  apply List.ext_getElem?
  intro i
  have := congrArg (fun x : List Int => x[i % 64]?) (h (i / 64))
  simp only [seg_get] at this
  rw [if_pos (by omega), if_pos (by omega)] at this
  have e : 64 * (i / 64) + i % 64 = i := by omega
  rwa [e] at this

section
variable {C : List UInt8 → Option (List Int)} {w w' : World} {fp : List Nat} {q d o : Nat} {fr : Int} {N : Nat} {l : List Ab} {s : Ds} {ord : List (Place × Nat)} {gs : List Pg}

/-- A file without dirty pages is on the disk as it is by the pool. -/
theorem PInv.onDisk (h : PInv C fr l s ord gs) {nm : List UInt8} {c : List Int} (hc : C nm = some c) (hd : ∀ g ∈ gs, g.key.1.1.data.toList = nm → g.dirty = false) : ∃ x, DLook l nm = some x ∧ x.2.1 = c := by
  obtain ⟨⟨x, hx⟩, _⟩ := h.has _ _ hc
  obtain ⟨c2, hc2, _, hs⟩ := h.file _ _ hx
  rw [hc] at hc2
  cases hc2
  exact ⟨x, hx, seg_ext fun j => hs j fun g hg hgd e => by rw [hd g hg e.1] at hgd; cases hgd⟩

/-- A pool that holds nothing. -/
theorem PInv.new {n : Int} (hup : s.down = false) (hleft : s.left = 0) (hlen : ∀ nm x, DLook l nm = some x → x.2.1.length ≤ 100000) : PInv (fun nm => (DLook l nm).map fun x => x.2.1) (max n 1) l s [] [] := by
  refine ⟨hup, hleft, by simp, fun nm x hx => ⟨x.2.1, by rw [hx]; rfl, rfl, fun _ _ => rfl⟩, fun nm c hc => ?_, by simp, by simp, by simp; omega, by omega⟩
  obtain ⟨x, hx, rfl⟩ := Option.map_eq_some_iff.1 hc
  exact ⟨⟨x, hx⟩, hlen nm x hx⟩

set_option maxRecDepth 100000 in
set_option maxHeartbeats 1000000 in
theorem new_pool {fd : List Nat} (hd : Dk w fd d l s) (n : Int) : Calls Try.prog 11 #[.pointer (some ⟨d, 0, none⟩), .int .i64 n] w fun e w' => ∃ q o fp, e = .returned (.pointer (some ⟨q, 0, none⟩)) ∧ Pl w' fp q d o (max n 1) 0 l s [] [] ∧ Below w.heap.size w w' ∧ Newly w fd fp := by
  have NW := hide (fun W => new_any n W)
  have HD := hide hd
  have hmm := @run_makeMap Try.prog
  clear hd
  go_enter Try.func11, Try.ntmps11
  go_wp2_with (go_at_call 27; refine (NW.out _).mono ?_; rintro e w1 ⟨o, fo, rfl, c1, b1, f1⟩; have C1 := hide c1; have B1 := hide b1; have F1 := hide f1; clear c1 b1 f1)
  go_ret
  have e1 : (w1.alloc (.map #[] 0)).heap.size = w1.heap.size + 1 := by simp
  have b2 : Below w1.heap.size w1 (w1.alloc (.map #[] 0)) := (Below.refl _ w1).alloc (Nat.le_refl _) _
  have b3 : Below w1.heap.size w1 ((w1.alloc (.map #[] 0)).alloc (.cells #[.pointer (some ⟨d, 0, none⟩), .pointer (some ⟨o, 0, none⟩), .map (some w1.heap.size)] 57)) := b2.alloc (by rw [e1]; omega) _
  have hcell := heap_alloc_new (w1.alloc (.map #[] 0)) (.cells #[.pointer (some ⟨d, 0, none⟩), .pointer (some ⟨o, 0, none⟩), .map (some w1.heap.size)] 57)
  rw [e1] at hcell
  have hlt := HD.out.lt
  have hsz := B1.out.size
  have hol := C1.out.lt
  refine ⟨w1.heap.size + 1, o, fd ++ (fo ++ pfeet (w1.heap.size + 1) w1.heap.size []), by simp, ⟨fd, fo, w1.heap.size, (HD.out.below B1.out).below b3, C1.out.below b3, ⟨hcell, ⟨.map [], (World.ownsMap_made w1 Try.prog 54 ptrE).alloc _, MapIs.empty⟩, by simp, by simp [pfeet], by simp⟩, rfl, fun x hx e => ?_, fun x hx e => ?_, fun x hx e => ?_⟩, below_then B1.out b3, fun x hx => ?_⟩
  · have := hlt x hx
    have := F1.out x e
    omega
  · have := hlt x hx
    simp [pfeet] at e
    omega
  · have := hol x hx
    simp [pfeet] at e
    omega
  · simp only [List.mem_append] at hx
    rcases hx with hx | hx | hx
    · exact .inl hx
    · exact .inr (F1.out x hx)
    · simp [pfeet] at hx
      exact .inr (by omega)

set_option maxRecDepth 100000 in
set_option maxHeartbeats 400000 in
theorem readAt_no (nm : ByteArray) (at_ n k z : Int) (hk : k ≠ 0) {R : World → Prop} (hw : Calls Try.prog 28 #[.pointer (some ⟨q, 0, none⟩), .string nm, .int .i64 at_, .int .i64 n] w fun e w' => e = .returned (.tuple #[.int .i64 z, .int .i64 k]) ∧ R w') :
    Calls Try.prog 13 #[.pointer (some ⟨q, 0, none⟩), .string nm, .int .i64 at_, .int .i64 n] w fun e w' => e = .returned (.tuple #[.slice none 0 0, .int .i64 k]) ∧ R w' := by
  have W := hide hw
  have hk2 : (k == 0) = false := by simpa using hk
  clear hw
  go_enter Try.func13, Try.ntmps13
  go_wp2_with (go_at_call 28; refine W.out.mono ?_; rintro e w1 ⟨rfl, r1⟩; have R1 := hide r1; clear r1)
  go_ret2
  exact ⟨rfl, R1.out⟩

set_option maxRecDepth 100000 in
set_option maxHeartbeats 400000 in
theorem writeAt_no (nm : ByteArray) (at_ k z : Int) (ua : Option Addr) (n uc : Nat) (hk : k ≠ 0) {R : World → Prop} (hw : Calls Try.prog 28 #[.pointer (some ⟨q, 0, none⟩), .string nm, .int .i64 at_, .int .i64 n] (w.alloc (.cells #[.slice ua n uc] 28)) fun e w' => e = .returned (.tuple #[.int .i64 z, .int .i64 k]) ∧ R w') :
    Calls Try.prog 14 #[.pointer (some ⟨q, 0, none⟩), .string nm, .int .i64 at_, .slice ua n uc] w fun e w' => e = .returned (.int .i64 k) ∧ R w' := by
  have W := hide hw
  have hk2 : (k == 0) = false := by simpa using hk
  clear hw
  go_enter Try.func14, Try.ntmps14
  go_wp2_with (go_at_call 28; refine W.out.mono ?_; rintro e w1 ⟨rfl, r1⟩; have R1 := hide r1; clear r1)
  go_ret
  exact ⟨rfl, R1.out⟩

end
end Go.Proofs.Ytbhjdcoehgajcaa.L.P
