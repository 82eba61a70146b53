/-
  'append(row, make([]byte, n)...)': a row that is made longer by 0s. A lemma file: no statement of the seat is proved here.
-/
import Derived.Test.YtbhjdcoehgajcaaDClone
import Derived.Lib.AppendZeros
namespace Go.Proofs.Ytbhjdcoehgajcaa
open Go.RowKit Go.Maps Go.Sort Go.Shelf

theorem zeros_u8 (n : Nat) : Builtin.zeroCells (Value.int .u8 0).cells n = ((List.replicate n (0 : Int)).map (Value.int .u8)).toArray := by
  apply Array.ext'
  simp [Builtin.zeroCells, Value.cells]
  apply List.ext_getElem?
  intro i
  by_cases h : i < n
  · simp [h, Nat.mod_one]
  · simp [h]

theorem run_zeros_room (w : World) (ty : TypeId) (g sLen sCap n : Nat) (cur : Array Value) (hg : w.heap[g]? = some (.cells cur 5 (0, 0))) (h0 : 0 < n) (hroom : sLen + n ≤ sCap) (hfit : sCap ≤ cur.size) (hl : sLen + n ≤ 1099511627776) :
    (Builtin.append_ #[28, 3] ty #[.slice (some ⟨g, 0, none⟩) sLen sCap, .int .i64 n]).run Try.prog w =
      .ok (.slice (some ⟨g, 0, none⟩) (sLen + n) sCap) (w.setRow g (cur.toList.take sLen ++ (List.replicate n (0 : Int)).map (Value.int .u8) ++ cur.toList.drop (sLen + n)).toArray) := by
  obtain ⟨i0, hi, hz0, hz1, hz2⟩ := info_parts Try.infoU8
  have hst := run_storeCells_at Try.prog g sLen 5 ((List.replicate n (0 : Int)).map (Value.int .u8)) 0 cur w hg (by simp; omega) (ints_oneCell _ _)
  simp only [Nat.add_zero, List.length_map, List.length_replicate] at hst
  have hw : IntKind.i64.wrap (n : Int) = n := by rw [IntKind.wrap_i64]; omega
  have hneg : ¬ ((n : Int) < 0) := by omega
  have h48 : ¬ (281474976710656 < (n : Int)) := by omega
  have hn : n ≠ 0 := by omega
  have hzz := zeros_u8 n
  simp only [List.map_replicate] at hst hzz ⊢
  simp [Builtin.append_, run_underlying Try.underlying28, run_underlying Try.underlying3, sizeOf, typeInfo, zeroValue, hi, hz0, hz1, hz2, asInt, asIntOf, hw, hneg, h48, hn, hroom, hzz, Addr.add_lit, hst]

theorem run_zeros_grow (w : World) (ty : TypeId) (s : Option Addr) (sLen sCap n : Nat) (olds : List Value) (hlo : olds.length = sLen) (holds : ∀ a, s = some a → ∀ j v, olds[j]? = some v → w.cell? (a.add j) = some v) (hnone : s = none → sLen = 0)
    (h0 : 0 < n) (hg : sCap < sLen + n) (hl : sLen + n ≤ 1099511627776) :
    (Builtin.append_ #[28, 3] ty #[.slice s sLen sCap, .int .i64 n]).run Try.prog w =
      .ok (.slice (some ⟨w.heap.size, 0, none⟩) (sLen + n) (grownCap w (sLen + n) sCap 5))
        (w.drew.alloc (.cells (olds.toArray ++ ((List.replicate n (0 : Int)).map (Value.int .u8)).toArray ++ Builtin.zeroCells (Value.int .u8 0).cells (grownCap w (sLen + n) sCap 5 - (sLen + n))) 5)) := by
  obtain ⟨i0, hi, hz0, hz1, hz2⟩ := info_parts Try.infoU8
  have hw : IntKind.i64.wrap (n : Int) = n := by rw [IntKind.wrap_i64]; omega
  have hneg : ¬ ((n : Int) < 0) := by omega
  have h48 : ¬ (281474976710656 < (n : Int)) := by omega
  have hn : n ≠ 0 := by omega
  have hroom : ¬ (sLen + n ≤ sCap) := by omega
  have h63' : ¬ (9223372036854775807 < ((sLen : Int) + (n : Int))) := by omega
  have h48' : ¬ (281474976710656 < Builtin.nextslicecap (sLen + n) sCap) := by
    have := growslice_fits (bytes := 1) hg (by omega)
    omega
  have hfo : (Builtin.firstCells 1 sLen (.slice s sLen sCap)).run Try.prog w.drew = .ok olds.toArray w.drew := by
    cases s with
    | none =>
      obtain rfl : olds = [] := List.eq_nil_of_length_eq_zero (by rw [hlo]; exact hnone rfl)
      exact run_firstCells_none (P := Try.prog) w.drew 1 sLen sLen sCap
    | some a => exact run_firstCells_some (P := Try.prog) w.drew 1 sLen a sLen sCap olds (by omega) (by simpa using holds a rfl)
  have hzz := zeros_u8 n
  simp only [List.map_replicate] at hzz ⊢
  simp [Builtin.append_, run_underlying Try.underlying28, run_underlying Try.underlying3, sizeOf, typeInfo, zeroValue, hi, hz0, hz1, hz2, asInt, asIntOf, hw, hneg, h48, hn, hroom, h63', h48', hzz, hfo, Question.forced, newRow, grownCap]

/-- 'append(row, make([]byte, n)...)'. -/
theorem RowB.zeros {w : World} {v : Value} {bs : List Int} (h : RowB w v bs) (n : Nat) (h0 : 0 < n) (hlen : bs.length + n ≤ 1099511627776) (ty : TypeId) :
    ∃ v' w', (Builtin.append_ #[28, 3] ty #[v, .int .i64 n]).run Try.prog w = .ok v' w' ∧ RowB w' v' (bs ++ List.replicate n 0) ∧ Kept (own v) w w' ∧ Newly w (own v) (own v') := by
  have hby : ∀ z ∈ bs ++ List.replicate n (0 : Int), 0 ≤ z ∧ z ≤ 255 := by
    intro z hz
    rcases List.mem_append.1 hz with hz | hz
    · exact h.2 z hz
    · rw [(List.mem_replicate.1 hz).2]
      omega
  have grown : ∀ old : Nat, old < bs.length + n → RowB (w.drew.alloc (.cells ((bs.map (Value.int .u8)).toArray ++ ((List.replicate n (0 : Int)).map (Value.int .u8)).toArray ++ Builtin.zeroCells (Value.int .u8 0).cells (grownCap w (bs.length + n) old 5 - (bs.length + n))) 5))
      (.slice (some ⟨w.heap.size, 0, none⟩) (bs.length + n) (grownCap w (bs.length + n) old 5)) (bs ++ List.replicate n 0) := by
    intro old ho
    have hge := grownCap_ge w (bs.length + n) old 5
    have hcm : grownCap w (bs.length + n) old 5 ≤ maxLen := grownCap_le_maxLen w (bs.length + n) old 5 (by unfold maxLen; omega)
    have e1 : (bs ++ List.replicate n (0 : Int)).length = bs.length + n := by simp
    refine ⟨⟨by simp, .inr ⟨w.heap.size, _, _, by rw [e1], Nat.zero_le _, heap_alloc_new w.drew _, by rw [e1]; exact hge, hcm, ?_, ?_⟩⟩, hby⟩
    · simp [size_zeroCells, Value.cells]
      omega
    · simp only [Array.toList_append, List.map_append, Nat.mul_one, e1]
      exact List.take_left' (by simp)
  have keptN : ∀ o : Obj, Kept (own v) w (w.drew.alloc o) := fun o => (Kept.refl _ w).drew.alloc o
  have newN : ∀ l c : Nat, Newly w (own v) (own (.slice (some ⟨w.heap.size, 0, none⟩) l c)) := fun l c x hx => by
    simp [own, Value.ownBlock] at hx
    exact .inr (by omega)
  rcases h.1.2 with ⟨rfl, e⟩ | ⟨g, cap, cur, rfl, hbg, hg, hnc, hcm, hcs, htake⟩
  · obtain rfl : bs = [] := List.eq_nil_of_length_eq_zero e
    have hr := run_zeros_grow w ty none 0 0 n [] rfl (by simp) (fun _ => rfl) h0 (by omega) (by simpa using hlen)
    have hgr := grown 0 (by simpa using h0)
    simp only [List.length_nil, Nat.zero_add, List.map_nil, List.nil_append] at hgr hr ⊢
    exact ⟨_, _, hr, hgr, keptN _, newN _ _⟩
  · by_cases hroom : bs.length + n ≤ cap
    · have hr := run_zeros_room w ty g bs.length cap n cur hg h0 hroom (by omega) hlen
      refine ⟨_, _, hr, ⟨⟨by simp, .inr ⟨g, cap, _, by simp, hbg, setRow_heap w g cur _ _ _ hg, by simpa using hroom, hcm, ?_, ?_⟩⟩, hby⟩, ⟨rfl, rfl, rfl, by simp, fun k _ hk => setRow_other w g k _ (fun e => hk (by simp [own, Value.ownBlock, e]))⟩, Newly.of_sub fun x hx => by simpa [own, Value.ownBlock] using hx⟩
      · simp
        omega
      · rw [Nat.mul_one] at htake
        have e1 : (bs ++ List.replicate n (0 : Int)).length = bs.length + n := by simp
        simp only [htake, List.map_append, Nat.mul_one, e1]
        exact List.take_left' (by simp)
    · have hcells : ∀ j u, (bs.map (Value.int .u8))[j]? = some u → w.cell? ((⟨g, 0, none⟩ : Addr).add j) = some u := h.1.cells (g := g) rfl
      have hr := run_zeros_grow w ty (some ⟨g, 0, none⟩) bs.length cap n (bs.map (Value.int .u8)) (by simp) (fun a ha => by simp at ha; subst ha; exact hcells) (by simp) h0 (by omega) hlen
      exact ⟨_, _, hr, grown cap (by omega), keptN _, newN _ _⟩

section
variable {ops : Array Oper} {rest : List Oper} {o : Oper} {a : Act} {Q : Exit → Act → World → Prop}

theorem wp_zeros (w : World) (hgd : o.guard = none) (s x : Operand) (ho : o.op = .call { callee := .builtin .append, args := #[s, x], argTypes := #[28, 3] })
    (v : Value) (bs : List Int) (n m : Nat) (z : Int) (hs : a.eval s = v) (hrow : RowB w v bs) (hx : a.eval x = .int .i64 z) (hz : z = n) (h0 : 0 < n) (hm : m = bs.length + n) (hlen : bs.length + n ≤ 1099511627776)
    (h : ∀ g cap w', RowB w' (.slice (some ⟨g, 0, none⟩) m cap) (bs ++ List.replicate n 0) → m ≤ cap → Kept (own v) w w' → Newly w (own v) (own (.slice (some ⟨g, 0, none⟩) m cap)) → wpList Try.prog ops Q rest (a.put o.dst (.slice (some ⟨g, 0, none⟩) m cap)) w') :
    wpList Try.prog ops Q (o :: rest) a w := by
  subst hz
  obtain ⟨v', w', hr, h2, h3, h4⟩ := hrow.zeros n h0 hlen o.type
  have e : (bs ++ List.replicate n (0 : Int)).length = m := by simp [hm]
  rcases h2.form with ⟨_, h⟩ | ⟨g, cap, rfl, ho2⟩
  · rw [h] at e
    simp at e
    omega
  · have hc := ho2.len_le
    rw [e] at hc h2 h4 hr
    exact Lib.wpList_append_run w hgd s x _ _ ho v (.int .i64 n) hs hx _ w' hr (h g cap w' h2 hc h3 h4)
end

end Go.Proofs.Ytbhjdcoehgajcaa
