/-
  What shown answers. A lemma file: no statement of the seat is proved here.
-/
import Derived.Test.YtbhjdcoehgajcaaPArg
namespace Go.Proofs.Ytbhjdcoehgajcaa.L.P
open Go.RowKit Go.Maps

/-- The disk of shown, by what it has done. -/
def S6 (used ops : Int) : Ds := { room := 100, used := used, ops := ops, down := false, left := 0, keep := [] }

theorem sp1 : createA (beginA [] (S6 0 0)) [102] = (0, ([([102], [], [])], S6 0 1)) := by kernel_rfl
theorem sp2 : appendA (beginA [([102], [], [])] (S6 0 1)) [102] (zs0 130) = (0, ([([102], zs0 130, [])], S6 9 2)) := by kernel_rfl

def Cf (c : List Int) : List UInt8 → Option (List Int) := fun x => if x = [102] then some c else none

theorem Cf_look (c : List Int) : (fun nm => (DLook [([102], c, [])] nm).map fun x => x.2.1) = Cf c := by
  funext nm
  unfold Cf DLook Go.Proofs.Ytbhjdcoehgajcaa.lookA
  by_cases h : nm = [102]
  · subst h
    rfl
  · rw [if_neg h]
    have h2 : ¬ ([102] : List UInt8) = nm := fun e => h e.symm
    simp [h2]

theorem Cf_put (c c' : List Int) : putC (Cf c) [102] c' = Cf c' := by
  funext x
  unfold putC Cf
  split <;> rfl

theorem Cf_has (c : List Int) : Cf c [102] = some c := rfl
theorem Cf_no (c : List Int) : Cf c [103] = none := rfl

def ab2 : List Int := [97, 98]
theorem put_ab : ((putA (zs0 130) 63 ab2).drop 62).take 4 = [0, 97, 98, 0] := by decide +kernel
theorem put_ab2 : ((putA (zs0 130) 63 ab2).drop 63).take 2 = [97, 98] := by decide +kernel
theorem put_len130 : (putA (zs0 130) 63 ab2).length = 130 := by decide +kernel

section
variable {B : Nat} {w0 w w1 : World} {p : Nat}
theorem sf1 (h : Sd B w0 w p [] (S6 0 0)) : Calls Try.prog 25 #[.pointer (some ⟨p, 0, none⟩), .string ⟨#[102]⟩] w fun e w' => e = .returned (.int .i64 0) ∧ Sd B w0 w' p [([102], [], [])] (S6 0 1) :=
  h.create (by decide) ⟨#[102]⟩ (strP 102) sp1
theorem sf2 (h : Sd B w0 w p [([102], [], [])] (S6 0 1)) (u : Value) (hb : Below w.heap.size w w1) (hu : RowB w1 u (zs0 130)) (hux : ∀ x ∈ own u, w.heap.size ≤ x) : Calls Try.prog 26 #[.pointer (some ⟨p, 0, none⟩), .string ⟨#[102]⟩, u] w1 fun e w' => e = .returned (.int .i64 0) ∧ Sd B w0 w' p [([102], zs0 130, [])] (S6 9 2) :=
  h.appendN (by decide) ⟨#[102]⟩ (strP 102) u _ hb hu.isB (by rw [zs0_length]; omega) hux sp2
end

section
variable {w0 w w' : World} {hs : List Nat} {q d : Nat} {fr : Int} {C : List UInt8 → Option (List Int)} {D : List UInt8 → Prop} {E : Prop} {m : Nat}
theorem Lp.less {h2 : List Nat} (h : Lp w0 w hs q d fr C D E m) (hh : ∀ x ∈ h2, x ∈ hs) : Lp w0 w h2 q d fr C D E m := by
  obtain ⟨fp, o, N, l, s, ord, gs, p, i, a1, a2, a3, a4, a5, a6, a7⟩ := h
  exact ⟨fp, o, N, l, s, ord, gs, p, i, a1, a2, a3, a4, a5, a6, fun x hx => a7 x (hh x hx)⟩

theorem sf3 (h : Lp w0 w [] q d (max 1 1) (Cf (zs0 130)) D E 2) : Calls Try.prog 14 #[.pointer (some ⟨q, 0, none⟩), .string ⟨#[102]⟩, .int .i64 63, .slice (some ⟨w.heap.size, 0, none⟩) 2 2] (w.alloc (.cells #[.int .u8 97, .int .u8 98] 5 (2, 3))) fun e w' => e = .returned (.int .i64 0) ∧
    Lp w0 w' [] q d (max 1 1) (Cf (putA (zs0 130) 63 ab2)) (fun _ => True) False 133 := by
  have h2 := h.hold ((Below.refl _ w).alloc (Nat.le_refl _) (.cells #[.int .u8 97, .int .u8 98] 5 (2, 3))) [w.heap.size] (by simp)
  refine (h2.write ⟨#[102]⟩ (strP 102) (Cf_has _) (by decide) 63 (some ⟨w.heap.size, 0, none⟩) 2 ab2 (isB_new w ab2 (2, 3) (by decide)) (by simp [own, Value.ownBlock]) (by rw [zs0_length]; decide) (by decide)).mono ?_
  rintro e w' ⟨rfl, l, _⟩
  have e : putC (Cf (zs0 130)) (⟨#[102]⟩ : ByteArray).data.toList (putA (zs0 130) 63 ab2) = Cf (putA (zs0 130) 63 ab2) := Cf_put _ _
  rw [e] at l
  exact ⟨rfl, l.less (by simp)⟩

theorem sf4 (h : Lp w0 w [] q d (max 1 1) (Cf (putA (zs0 130) 63 ab2)) D E 133) : Calls Try.prog 13 #[.pointer (some ⟨q, 0, none⟩), .string ⟨#[102]⟩, .int .i64 62, .int .i64 4] w fun e w' => ∃ a c, e = .returned (.tuple #[.slice a 4 c, .int .i64 0]) ∧
    RowB w' (.slice a 4 c) [0, 97, 98, 0] ∧ Lp w0 w' (own (.slice a 4 c)) q d (max 1 1) (Cf (putA (zs0 130) 63 ab2)) (fun _ => True) True 268 := by
  refine (h.read ⟨#[102]⟩ (strP 102) (Cf_has _) (by decide) 62 4 (by rw [put_len130]; decide) (by decide)).mono ?_
  rintro e w' ⟨v, rfl, r, l, _⟩
  rw [put_ab] at r
  obtain ⟨a, c, rfl, _⟩ := r.isB.form
  obtain ⟨fp, o, N, l, s, ord, gs, p, i, a1, a2, a3, a4, a5, a6, a7⟩ := l
  exact ⟨a, c, rfl, r, fp, o, N, l, s, ord, gs, p, i, a1, a2, a3, fun _ => a4 (by decide), a5, a6, fun x hx => a7 x (by simpa using hx)⟩

theorem sf5 (h : Lp w0 w hs q d (max 1 1) C D True m) : Calls Try.prog 17 #[.pointer (some ⟨q, 0, none⟩)] w fun e w' => e = .returned (.int .i64 1) ∧ w' = w := by
  refine h.resident.mono ?_
  rintro e w' ⟨n, rfl, rfl, h1, h2⟩
  have : n = 1 := by have := h2 trivial; omega
  subst this
  exact ⟨rfl, rfl⟩

theorem sf6 (h : Lp w0 w hs q d (max 1 1) C D E 268) : Calls Try.prog 15 #[.pointer (some ⟨q, 0, none⟩), .string ⟨#[102]⟩] w fun e w' => e = .returned (.int .i64 0) ∧ Lp w0 w' hs q d (max 1 1) C (fun x => x ≠ [102]) E 269 ∧ Beside hs w w' := by
  refine (h.flush (by decide) (by decide) ⟨#[102]⟩).mono ?_
  rintro e w' ⟨rfl, ⟨fp, o, N, l, s, ord, gs, p, i, a1, a2, a3, a4, a5, a6, a7⟩, b⟩
  exact ⟨rfl, ⟨fp, o, N, l, s, ord, gs, p, i, a1, a2, fun g hg hd => (a3 g hg hd).2, a4, a5, a6, a7⟩, b⟩

theorem sf7 (h : Lp w0 w hs q d (max 1 1) (Cf (putA (zs0 130) 63 ab2)) (fun x => x ≠ [102]) E 269) : Calls Try.prog 16 #[.pointer (some ⟨d, 0, none⟩), .string ⟨#[102]⟩, .int .i64 63, .int .i64 2] w fun e w' => ∃ a c, e = .returned (.tuple #[.slice a 2 c, .int .i64 0]) ∧
    RowB w' (.slice a 2 c) [97, 98] ∧ Lp w0 w' (hs ++ own (.slice a 2 c)) q d (max 1 1) (Cf (putA (zs0 130) 63 ab2)) (fun x => x ≠ [102]) E 270 ∧ Beside hs w w' := by
  refine (h.dread (by decide) ⟨#[102]⟩ (strP 102) (Cf_has _) (fun e => e rfl) 63 2 (by rw [put_len130]; decide)).mono ?_
  rintro e w' ⟨v, rfl, r, l, b, _⟩
  rw [put_ab2] at r
  obtain ⟨a, c, rfl, _⟩ := r.isB.form
  exact ⟨a, c, rfl, r, l, b⟩

theorem sf8 (h : Lp w0 w hs q d (max 1 1) (Cf (putA (zs0 130) 63 ab2)) D E 270) : Calls Try.prog 13 #[.pointer (some ⟨q, 0, none⟩), .string ⟨#[102]⟩, .int .i64 129, .int .i64 2] w fun e w' => e = .returned (.tuple #[.slice none 0 0, .int .i64 1]) ∧ Lp w0 w' hs q d (max 1 1) (Cf (putA (zs0 130) 63 ab2)) D E 271 ∧ Beside hs w w' :=
  h.read_arg (by decide) ⟨#[102]⟩ (strP 102) (Cf_has _) 129 2 (by decide) (by rw [put_len130]; decide)

theorem sf9 (h : Lp w0 w hs q d (max 1 1) (Cf (putA (zs0 130) 63 ab2)) D E 271) : Calls Try.prog 13 #[.pointer (some ⟨q, 0, none⟩), .string ⟨#[103]⟩, .int .i64 0, .int .i64 0] w fun e w' => e = .returned (.tuple #[.slice none 0 0, .int .i64 4]) ∧ Lp w0 w' hs q d (max 1 1) (Cf (putA (zs0 130) 63 ab2)) D E 272 ∧ Beside hs w w' :=
  h.read_none (by decide) ⟨#[103]⟩ (strP 103) (Cf_no _) 0 0

theorem sf10 {c : List Int} (h : Lp w0 w hs q d (max 1 1) (Cf c) (fun x => x ≠ [102]) E m) : Calls Try.prog 18 #[.pointer (some ⟨q, 0, none⟩)] w fun e w' => e = .returned (.int .i64 0) ∧ Below w.heap.size w w' := by
  refine (h.dirty (by decide)).mono ?_
  rintro e w' ⟨n, rfl, hb, _, h0⟩
  have : n = 0 := h0 fun x c2 hx hn => by
    unfold Cf at hx
    rw [if_neg hn] at hx
    cases hx
  subst this
  exact ⟨rfl, hb⟩
end

theorem own_newP {n m : Nat} {w : World} : ∀ x ∈ own (.slice (some ⟨w.heap.size, 0, none⟩) n m), w.heap.size ≤ x := by
  intro x hx
  simp [own, Value.ownBlock] at hx
  omega

set_option maxRecDepth 100000 in
set_option maxHeartbeats 2000000 in
theorem shown_any (w : World) : Calls Try.prog 9 #[] w fun e w' => e = .returned (.bool true) ∧ Below w.heap.size w w' := by
  have kc := fun (w : World) (C : Array Value) (n c : Nat) => Lib.run_convert_bytes_const (P := Try.prog) w 28 5 C n c Try.underlying28 Try.underlying5
  have NW := hide (Sd.new (B := w.heap.size) (w0 := w) 100 (by omega) w (Below.refl _ _) (Nat.le_refl _))
  go_enter Try.func9, Try.ntmps9
  go_wp2_with (go_at_call 24; refine NW.out.mono ?_; rintro e w1 ⟨rfl, d1⟩; have D1 : Hid (Sd w.heap.size w w1 (w.heap.size + 1) [] (S6 0 0)) := d1; clear d1)
  go_wp2_with (first | (go_at_call 25; refine (sf1 D1.out).mono ?_; rintro e w2 ⟨rfl, d2⟩; have D2 := hide d2; clear d2) | (at_make; refine wp_makeB _ rfl _ _ rfl 130 130 130 rfl rfl rfl rfl (by omega) ?_; intro w3 r3 b3; have R3 := hide r3; have B3 := hide b3; clear r3 b3))
  go_wp2_with (go_at_call 26; refine (sf2 D2.out _ B3.out R3.out own_newP).mono ?_; rintro e w4 ⟨rfl, d4⟩; have D4 := hide d4; clear d4)
  go_wp2_with fail
  refine (Lp.new (m := 2) (C := Cf (zs0 130)) D4.out 1 rfl rfl (fun nm x hx => ?_) (by decide) (Cf_look _)).mono ?_
  · unfold DLook Go.Proofs.Ytbhjdcoehgajcaa.lookA at hx
    have := List.mem_of_find?_eq_some hx
    simp at this
    subst this
    simp [zs0_length]
  rintro e w5 ⟨q, rfl, l5⟩
  have L5 := hide l5
  clear l5 D4 R3 B3 D2 D1 NW
  go_wp2_with fail
  refine (sf3 L5.out).mono ?_
  rintro e w6 ⟨rfl, l6⟩
  have L6 := hide l6
  clear l6 L5 kc
  go_wp2_with fail
  refine (sf4 L6.out).mono ?_
  rintro e w7 ⟨a7, c7, rfl, r7, l7⟩
  have L7 := hide l7
  have R7 := hide r7
  clear l7 L6 r7
  go_wp2_with (go_at_call 17; refine (sf5 L7.out).mono ?_; rintro e w8 ⟨rfl, rfl⟩)
  go_wp2_with (go_at_call 15; refine (sf6 L7.out).mono ?_; rintro e w9 ⟨rfl, l9, b9⟩; have L9 := hide l9; have R9 := hide (b9.row R7.out (fun x h => h)); clear l9 b9 R7 L7)
  go_wp2_with fail
  refine (sf7 L9.out).mono ?_
  rintro e w10 ⟨a10, c10, rfl, r10, l10, b10⟩
  have L10 := hide l10
  have Q10 := hide r10
  have R10 := hide (b10.row R9.out (fun x h => h))
  clear l10 r10 b10 L9 R9
  go_wp2_with fail
  refine (sf8 L10.out).mono ?_
  rintro e w11 ⟨rfl, l11, b11⟩
  have L11 := hide l11
  have Q11 := hide (b11.row Q10.out (fun x h => List.mem_append_right _ h))
  have R11 := hide (b11.row R10.out (fun x h => List.mem_append_left _ h))
  clear l11 b11 L10 Q10 R10
  go_wp2_with fail
  refine (sf9 L11.out).mono ?_
  rintro e w12 ⟨rfl, l12, b12⟩
  have L12 := hide l12
  have c12 : (convert 28 9 (.slice a7 4 c7)).run Try.prog w12 = .ok (.string ⟨#[0, 97, 98, 0]⟩) w12 := conv_isB (b12.row R11.out (fun x h => List.mem_append_left _ h)).isB
  have d12 : (convert 28 9 (.slice a10 2 c10)).run Try.prog w12 = .ok (.string ⟨#[97, 98]⟩) w12 := conv_isB (b12.row Q11.out (fun x h => List.mem_append_right _ h)).isB
  clear l12 b12 L11 Q11 R11
  go_wp2_with (go_at_call 18; refine (sf10 L12.out).mono ?_; rintro e w13 ⟨rfl, b13⟩; have B13 := hide b13; clear b13)
  go_ret
  exact ⟨rfl, L12.out.bel.trans (B13.out.mono L12.out.bel.size)⟩

end Go.Proofs.Ytbhjdcoehgajcaa.L.P
