/-
  What the statements of layer 4 ask in any case: it is so. A lemma file: no statement of the seat is proved here.
-/
import Derived.Lib.SlBytesConst
import Derived.Test.YtjnmggbkclnbkaaBPure
namespace Go.Proofs.Ytjnmggbkclnbkaa
open Go.RowKit Go.Maps

/-- So many 0s. -/
def zs0 (n : Nat) : List Int := List.replicate n 0

theorem zs0_length (n : Nat) : (zs0 n).length = n := List.length_replicate

/-- 'make([]byte, n)'. -/
theorem wp_makeB {ops : Array Oper} {rest : List Oper} {o : Oper} {a : Act} {Q : Exit → Act → World → Prop} (w : World) (hg : o.guard = none) (x y : Operand) (hop : o.op = Op.makeSlice 25 x y) (n : Nat) (L C : Int)
    (hl : a.eval x = .int .i64 L) (hc : a.eval y = .int .i64 C) (hL : L = (n : Int)) (hC : C = (n : Int)) (hn : n ≤ 1099511627776)
    (h : ∀ w', RowB w' (.slice (some ⟨w.heap.size, 0, none⟩) n n) (zs0 n) → Below w.heap.size w w' → wpList Try.prog ops Q rest (a.put o.dst (.slice (some ⟨w.heap.size, 0, none⟩) n n)) w') :
    wpList Try.prog ops Q (o :: rest) a w := by
  obtain ⟨i0, hi, hz0, hz1, hz2⟩ := info_parts Try.infoU8
  refine wpList_make_full w hg x y 25 hop 0 5 i0 (.int .u8 0) 1 Try.underlying25 hi hz0 hz1 .i64 .i64 L C n hl hc hL hC (by rw [hz2]; omega) (by unfold maxLen; omega) (Nat.zero_le _) ?_
  intro w' hown hgr
  refine h w' ⟨?_, ?_⟩ (⟨hgr.os, hgr.tape, hgr.output, hgr.size, fun k hk => hgr.block k hk (by simp)⟩ : Below w.heap.size w w')
  · have e : (madeCells (Value.int .u8 0).cells (n * 1)).toList = (List.replicate n (0 : Int)).map (Value.int .u8) := by
      simp [madeCells, Value.cells]
      apply List.ext_getElem?
      intro i
      by_cases hi : i < n
      · simp [hi, Nat.mod_one]
      · simp [hi]
    rw [e] at hown
    unfold zs0
    simpa using hown
  · intro z hz
    unfold zs0 at hz
    rw [(List.mem_replicate.1 hz).2]
    omega

def abc : List Int := [97, 98, 99]

set_option maxRecDepth 100000 in
set_option maxHeartbeats 1000000 in
theorem shown_any (w : World) : Calls Try.prog 10 #[] w fun e w' => e = .returned (.bool true) ∧ Below w.heap.size w w' := by
  have kc := fun (w : World) (C : Array Value) (n c : Nat) => Lib.run_convert_bytes_const (P := Try.prog) w 25 5 C n c Try.underlying25 Try.underlying5
  go_enter Try.func10, Try.ntmps10
  go_wp2_with fail
  obtain ⟨xs, hxs⟩ : ∃ xs, xs = blkB abc := ⟨_, rfl⟩
  have HX := hide hxs
  have HXL : Hid (xs.length = 9) := by show _ = _; rw [hxs, blkB_length]; rfl
  have hxl : xs.length ≤ 9 := by have := HXL.out; omega
  have HD : Hid (decB (xs ++ [7]) = (abc, 9, 0)) := by
    show _ = _
    rw [hxs, decB_blk abc [7] (by decide) (by decide)]
    rfl
  clear hxs
  refine (encode_go _ abc xs _ (IsB.new w abc (3, 4) (by decide)) (by decide) HX).mono ?_
  rintro e w1 ⟨g1, cap1, rfl, o1, b1⟩
  have B1 := hide (below_after (Below.refl _ w) b1)
  have O1 := hide o1
  have E1 := hide (OwnB.empty w1 w1.heap.size (Nat.le_refl _))
  have I1 := hide (o1.isB.below ((Below.refl _ w1).alloc (Nat.le_refl _) (.cells #[] 5)))
  clear o1 b1
  go_wp2_with (at_builtin; first | (refine wp_appendB _ rfl _ _ rfl w1.heap.size w1.heap.size 0 [] xs _ rfl E1.out rfl I1.out (by simp; omega) (by simp) ?_; intro g2 cap2 w2 o2 b2; rw [List.nil_append] at o2; have B2 := hide (below_then B1.out (((Below.refl _ w1).alloc (Nat.le_refl _) _).trans b2)); have hs2 := b2.size; have hs2' : w1.heap.size ≤ w2.heap.size := (by simp at hs2; omega); clear hs2) | (refine wp_push w2 rfl _ _ rfl w1.heap.size g2 cap2 xs 7 rfl o2 rfl (by omega) (by omega) hs2' ?_; intro g3 cap3 w3 o3 b3))
  have B3 := hide (B2.out.trans (b3.mono B1.out.size))
  have hi := o3.isB
  rw [List.length_append, List.length_singleton] at hi
  have hD := decode_any _ (xs ++ [7]) w3 hi (by simp; omega)
  rw [HD.out] at hD
  have O3 := hide (O1.out.below (Below.trans (((Below.refl _ w1).alloc (Nat.le_refl _) _)) (b2.trans b3)))
  refine hD.mono ?_
  rintro e w4 ⟨v4, rfl, i4, b4, _⟩
  obtain ⟨a4, cap4, rfl, _⟩ := i4.form
  have B4 := hide (below_then B3.out b4)
  have I4 := hide i4
  have L4 : Hid (abc.length = 3) := rfl
  clear hD hi i4 b4 o2 b2 o3 b3 B2 O3 E1 I1 B3
  go_wp2_with fail
  refine (decode_any _ [120] _ (IsB.new w4 [120] (1, 2) (by simp)) (by simp)).mono ?_
  rw [show decB [120] = ([], 0, 2) by decide +kernel]
  rintro e w5 ⟨v5, rfl, i5, b5, _⟩
  obtain ⟨a5, cap5, rfl, _⟩ := i5.form
  have B5 := hide (below_after B4.out b5)
  have I5 := hide ((I4.out.below ((Below.refl _ w4).alloc (Nat.le_refl _) _)).below b5)
  clear i5 b5 B4 I4
  go_wp2_with (at_make; refine wp_makeB w5 rfl _ _ rfl 1001 1001 1001 rfl rfl rfl rfl (by omega) ?_; intro w6 r6 b6)
  have B6 := hide (below_then B5.out b6)
  have I6 := hide (I5.out.below b6)
  have i6 := r6.isB
  clear r6 b6 B5 I5
  have hN := encode_no _ (zs0 1001) w6 i6 (by rw [zs0_length]; omega) (by rw [zs0_length]; omega)
  refine hN.mono ?_
  rintro e w7 ⟨rfl, rfl⟩
  have c7 : (convert 25 9 (.slice a4 abc.length cap4)).run Try.prog w7 = .ok (.string ⟨#[97, 98, 99]⟩) w7 := conv_isB I6.out
  have hx9 := HXL.out
  clear hN i6 I6
  go_wp2
  go_ret
  exact ⟨rfl, B6.out⟩

end Go.Proofs.Ytjnmggbkclnbkaa
