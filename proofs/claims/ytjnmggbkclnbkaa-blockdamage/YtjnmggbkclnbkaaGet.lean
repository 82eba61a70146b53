/-
  What octets' Get does. A lemma file: no statement of the seat is proved here.
-/
import Derived.Test.YtjnmggbkclnbkaaBack
namespace Go.Proofs.Ytjnmggbkclnbkaa
open Go.RowKit Go.Shelf

attribute [local go_sem] Oper.semAt_some

set_option maxHeartbeats 400000 in
theorem get_no (v : Value) (bs : List Int) (at_ size : Int) (w : World) (hb : IsB w v bs) (hl : bs.length ≤ 140737488355328)
    (h : at_ < 0 ∨ size < 1 ∨ 8 < size ∨ (bs.length : Int) - size < at_) :
    Calls Try.prog 25 #[v, .int .i64 at_, .int .i64 size] w fun e w' => e = .returned (.tuple #[.int .u64 0, .bool false]) ∧ w' = w := by
  obtain ⟨a, cap, rfl, hlc⟩ := hb.form
  clear hb
  by_cases h1 : at_ < 0
  · go_enter Try.func25, Try.ntmps25
    go_wp2
    go_ret2
    exact ⟨rfl, rfl⟩
  · by_cases h2 : size < 1
    · go_enter Try.func25, Try.ntmps25
      go_wp2
      go_ret2
      exact ⟨rfl, rfl⟩
    · by_cases h3 : 8 < size
      · go_enter Try.func25, Try.ntmps25
        go_wp2
        go_ret2
        exact ⟨rfl, rfl⟩
      · have h4 : (bs.length : Int) - size < at_ := by omega
        go_enter Try.func25, Try.ntmps25
        go_wp2
        go_ret2
        exact ⟨rfl, rfl⟩

/-- The number of digits to the base m, the lowest first. -/
def valB (m : Int) : List Int → Int
  | [] => 0
  | x :: xs => x + m * valB m xs

theorem valB_nonneg (m : Int) (hm : 0 ≤ m) (xs : List Int) (h : ∀ z ∈ xs, 0 ≤ z) : 0 ≤ valB m xs := by
  induction xs with
  | nil => simp [valB]
  | cons x xs ih =>
    have h1 := h x (by simp)
    have h2 := Int.mul_nonneg hm (ih fun z hz => h z (by simp [hz]))
    simp only [valB]
    omega

/-- One digit more, as the loop reckons it. -/
def getStep (m n x : Int) : Int := bits .or .u64 (IntKind.u64.wrap (n * m)) (IntKind.u64.wrap x)
def getFold (m : Int) (xs : List Int) : Int := xs.foldl (getStep m) 0
theorem getFold_snoc (m : Int) (xs : List Int) (x : Int) : getFold m (xs ++ [x]) = getStep m (getFold m xs) x := by simp [getFold]

theorem getStep_eq (i : Nat) (n x : Int) (hx0 : 0 ≤ x) (hx1 : x < (2 ^ i : Nat)) (hn : 0 ≤ n) (ht : x + (2 ^ i : Nat) * n < 18446744073709551616) : getStep ((2 ^ i : Nat) : Int) n x = x + (2 ^ i : Nat) * n := by
  obtain ⟨k, rfl⟩ := Int.eq_ofNat_of_zero_le hn
  obtain ⟨y, rfl⟩ := Int.eq_ofNat_of_zero_le hx0
  have hy : y < 2 ^ i := by omega
  have ht' : y + 2 ^ i * k < 18446744073709551616 := by
    have : ((y + 2 ^ i * k : Nat) : Int) < 18446744073709551616 := by rw [Int.natCast_add, Int.natCast_mul]; exact ht
    omega
  unfold getStep
  rw [IntKind.wrap_u64, IntKind.wrap_u64, show ((k : Int) * ((2 ^ i : Nat) : Int)) = ((2 ^ i * k : Nat) : Int) by rw [Int.natCast_mul, Int.mul_comm],
    show ((2 ^ i * k : Nat) : Int) % 18446744073709551616 = ((2 ^ i * k : Nat) : Int) by omega, show (y : Int) % 18446744073709551616 = (y : Int) by omega, u64_or_nat _ _ (by omega) (by omega), ← Nat.two_pow_add_eq_or_of_lt hy]
  rw [Int.natCast_add, Int.natCast_mul]
  omega

theorem getFold_reverse (i : Nat) (xs : List Int) (h : ∀ z ∈ xs, 0 ≤ z ∧ z < (2 ^ i : Nat)) (ht : valB (2 ^ i : Nat) xs < 18446744073709551616) : getFold ((2 ^ i : Nat) : Int) xs.reverse = valB (2 ^ i : Nat) xs := by
  induction xs with
  | nil => rfl
  | cons x xs ih =>
    have h1 := h x (by simp)
    have h2 := valB_nonneg ((2 ^ i : Nat) : Int) (by omega) xs (fun z hz => (h z (by simp [hz])).1)
    have h3 : valB ((2 ^ i : Nat) : Int) xs ≤ ((2 ^ i : Nat) : Int) * valB ((2 ^ i : Nat) : Int) xs := by
      have hp : (1 : Int) ≤ ((2 ^ i : Nat) : Int) := by have := Nat.pow_pos (n := i) (a := 2) (by omega); omega
      have := Int.mul_le_mul_of_nonneg_right hp h2
      omega
    simp only [valB] at ht
    rw [List.reverse_cons, getFold_snoc, ih (fun z hz => h z (by simp [hz])) (by omega), getStep_eq i _ x h1.1 h1.2 h2 ht]
    rfl

theorem downto_snd (bs : List Int) : (downto bs bs.length).map Prod.snd = bs.reverse := by
  apply List.ext_getElem
  · simp [downto]
  · intro j h1 h2
    simp [downto] at h1
    simp [downto, List.getElem_reverse, show bs.length - 1 - j < bs.length by omega]

theorem valB_lt (m : Int) (hm : 1 ≤ m) (xs : List Int) (h : ∀ z ∈ xs, 0 ≤ z ∧ z < m) : valB m xs < m ^ xs.length := by
  induction xs with
  | nil => simp [valB]
  | cons x xs ih =>
    have h1 := h x (by simp)
    have h2 := ih (fun z hz => h z (by simp [hz]))
    simp only [valB, List.length_cons]
    rw [Int.pow_succ]
    have h3 : m * (valB m xs + 1) ≤ m * m ^ xs.length := Int.mul_le_mul_of_nonneg_left (by omega) (by omega)
    rw [Int.mul_add] at h3
    rw [Int.mul_comm (m ^ xs.length)]
    omega

set_option maxRecDepth 100000 in
set_option maxHeartbeats 2000000 in
theorem get_in (F : Fence) (n : Nat) (hf1 : F.fn 25) (hf2 : F.fn 29) (hf3 : F.fn 30) (hro : F.round = none) (hn : 3 ≤ n)
    (v : Value) (bs : List Int) (p s : Nat) (w : World) (hb : IsB w v bs) (hl : bs.length ≤ 140737488355328) (h1 : 1 ≤ s) (h2 : s ≤ 8) (h3 : p + s ≤ bs.length) :
    CallsIn F n Try.prog 25 #[v, .int .i64 p, .int .i64 s] w fun e w' => e = .returned (.tuple #[.int .u64 (getFold 256 ((bs.drop p).take s).reverse), .bool true]) ∧ Below w.heap.size w w' := by
  have hn1 : 1 ≤ n := by omega
  obtain ⟨b, off, cap, rfl, hlc, hc⟩ := hb.opened (by omega)
  refine callsIn_of_wp_marks Try.func25 rfl hf1 ?_ hro
  simp only [Try.ntmps25, List.size_toArray, List.length_cons, List.length_nil, Nat.reduceAdd, Nat.reduceSub, Array.replicate_succ, Array.replicate_zero, List.push_toArray, List.append_toArray, List.nil_append, List.cons_append]
  gi_wp2_with (gi_at_call 29; refine (back_in F (n - 1) hf2 hro _ _ _ _).mono ?_; rintro e w' ⟨rfl, rfl⟩)
  have hm := hb.mid p s h3
  have bS := Boxed.new w 43 (.int .u64 0)
  have bN := Boxed.new (w.alloc (.cells #[.int .u64 0] 43)) 25 (.slice (some ⟨b, off + p, none⟩) s (cap - p))
  rw [World.size_alloc] at bN
  have hB0 : Below w.heap.size w ((w.alloc (.cells #[.int .u64 0] 43)).alloc (.cells #[.slice (some ⟨b, off + p, none⟩) s (cap - p)] 25)) := ((Below.refl _ w).alloc (Nat.le_refl _) _).alloc (by simp) _
  have hms : ((bs.drop p).take s).length = s := by simp; omega
  refine wpIn_rangeFunc_ownG hro hn1 (gf := 30) (lb := #[.pointer (some ⟨w.heap.size + 1, 0, none⟩)]) rfl hf3 (enters_of Try.func30 (by kernel_rfl) rfl)
    (back_stops F (n - 1) hf3 hro (by omega) (w.heap.size + 1) _ ((bs.drop p).take s) (by rw [hms]; omega) w _ (by simp) bN.cell hm hB0) keepB_t (keepB_b (by simp; omega) (by simp)) (Below.refl _ _) (fun _ => rfl)
    (fun pre W => (W.cell? ⟨w.heap.size, 0, none⟩ = some (.int .u64 (getFold 256 (pre.map Prod.snd))) ∧ W.frozen? ⟨w.heap.size, 0, none⟩ = false) ∧ Below w.heap.size w W)
    (fun _ _ _ => False)
    (OwnFrom.and (Own.from (fun s A B row hs hg hr => ⟨cell_kept hs.1 hg hr, (frozen_kept hs.1 hg hr).trans hs.2⟩) _) (ownFrom_below (Nat.le_refl _) (by simp; omega)))
    (fun _ _ _ _ _ hs _ _ => hs)
    ⟨⟨(bS.alloc _).cell, (bS.alloc _).frozen⟩, hB0⟩
    ?a1 ?assign ?body ?done ?stop
  case assign =>
    intro l x W K hK
    gi_wp2
    exact hK
  case body =>
    rintro l pre x W ⟨⟨hc, hf⟩, hB⟩ _
    gi_wp2
    exact ⟨(KeepsOthers.setCell _ _ _).from _, ⟨(Below.refl w.heap.size W).setCell (p := ⟨w.heap.size, 0, none⟩) (Nat.le_refl _) _, World.cell?_of_block (w := W) (Below.heap_setCell _ _ _ _ (by simp))⟩,
      ⟨by rw [List.map_append, List.map_cons, List.map_nil, getFold_snoc]; exact World.cell?_setCell_same' _ _ _ (by rw [hc]; rfl), by rw [World.frozen?_setCell]; exact hf⟩, hB.setCell (p := ⟨w.heap.size, 0, none⟩) (Nat.le_refl _) _⟩
  case done =>
    rintro D ys W hD rfl ⟨⟨hc, _⟩, hB⟩ hK
    rw [downto_snd] at hc
    gi_wp2
    refine ⟨by simp, .inl ⟨_, _, rfl, run_takeDeferred hK, ?_⟩⟩
    exact ⟨_, results_tmp2 rfl _ _ _, rfl, hB.trans (belowK_b (w := w) (Nat.le_refl _) W D _ _ (by simp at hD; omega) hK rfl rfl)⟩
  case stop =>
    rintro D c pre W _ _ h _
    exact h.elim

/-- Get, where there are so many bytes. -/
theorem get_yes (v : Value) (bs : List Int) (p s : Nat) (w : World) (hb : IsB w v bs) (hl : bs.length ≤ 140737488355328) (h1 : 1 ≤ s) (h2 : s ≤ 8) (h3 : p + s ≤ bs.length) :
    Calls Try.prog 25 #[v, .int .i64 p, .int .i64 s] w fun e w' => e = .returned (.tuple #[.int .u64 (valB 256 ((bs.drop p).take s)), .bool true]) ∧ Below w.heap.size w w' := by
  have hd : ∀ z ∈ (bs.drop p).take s, 0 ≤ z ∧ z < ((2 ^ 8 : Nat) : Int) := fun z hz => by
    have := hb.bytes z (List.mem_of_mem_drop (List.mem_of_mem_take hz))
    omega
  have hlt := valB_lt ((2 ^ 8 : Nat) : Int) (by omega) _ hd
  have hlen : ((bs.drop p).take s).length = s := by simp; omega
  rw [hlen] at hlt
  have hp : ((2 ^ 8 : Nat) : Int) ^ s ≤ 18446744073709551616 := by
    rw [← Int.natCast_pow]
    have := Nat.pow_le_pow_right (show 0 < 2 ^ 8 by omega) h2
    omega
  have e := getFold_reverse 8 _ hd (by omega)
  have hg := callsIn_wide.1 (get_in Fence.wide 3 trivial trivial trivial rfl (Nat.le_refl _) v bs p s w hb hl h1 h2 h3)
  rw [show (256 : Int) = ((2 ^ 8 : Nat) : Int) from rfl, ← e]
  exact hg

end Go.Proofs.Ytjnmggbkclnbkaa
