/-
  What octets' Get and GetVar do. A lemma file: no statement of the seat is proved here.
-/
import Derived.Test.YtoneaaafdgllbaaBack
namespace Go.Proofs.Ytoneaaafdgllbaa
open Go.RowKit Go.Shelf

attribute [local go_sem] Oper.semAt_some

set_option maxHeartbeats 400000 in
theorem get_no (v : Value) (bs : List Int) (at_ size : Int) (w : World) (hb : IsB w v bs) (hl : bs.length ≤ 140737488355328)
    (h : at_ < 0 ∨ size < 1 ∨ 8 < size ∨ (bs.length : Int) - size < at_) :
    Calls Try.prog 14 #[v, .int .i64 at_, .int .i64 size] w fun e w' => e = .returned (.tuple #[.int .u64 0, .bool false]) ∧ w' = w := by
  obtain ⟨a, cap, rfl, hlc⟩ := hb.form
  clear hb
  by_cases h1 : at_ < 0
  · go_enter Try.func14, Try.ntmps14
    go_wp2
    go_ret2
    exact ⟨rfl, rfl⟩
  · by_cases h2 : size < 1
    · go_enter Try.func14, Try.ntmps14
      go_wp2
      go_ret2
      exact ⟨rfl, rfl⟩
    · by_cases h3 : 8 < size
      · go_enter Try.func14, Try.ntmps14
        go_wp2
        go_ret2
        exact ⟨rfl, rfl⟩
      · have h4 : (bs.length : Int) - size < at_ := by omega
        go_enter Try.func14, Try.ntmps14
        go_wp2
        go_ret2
        exact ⟨rfl, rfl⟩

/-- The number of digits to the base m, the lowest first. -/
def valB (m : Int) : List Int → Int
  | [] => 0
  | x :: xs => x + m * valB m xs

theorem valB_nonneg (m : Int) (hm : 0 ≤ m) (xs : List Int) (h : ∀ z ∈ xs, 0 ≤ z) : 0 ≤ valB m xs := by
  induction xs with
  | nil => simp [valB]
  | cons x xs ih =>
    have h1 := h x (by simp)
    have h2 := Int.mul_nonneg hm (ih fun z hz => h z (by simp [hz]))
    simp only [valB]
    omega

/-- One digit more, as the loop reckons it. -/
def getStep (m n x : Int) : Int := bits .or .u64 (IntKind.u64.wrap (n * m)) (IntKind.u64.wrap x)
def getFold (m : Int) (xs : List Int) : Int := xs.foldl (getStep m) 0
theorem getFold_snoc (m : Int) (xs : List Int) (x : Int) : getFold m (xs ++ [x]) = getStep m (getFold m xs) x := by simp [getFold]

theorem getStep_eq (i : Nat) (n x : Int) (hx0 : 0 ≤ x) (hx1 : x < (2 ^ i : Nat)) (hn : 0 ≤ n) (ht : x + (2 ^ i : Nat) * n < 18446744073709551616) : getStep ((2 ^ i : Nat) : Int) n x = x + (2 ^ i : Nat) * n := by
  obtain ⟨k, rfl⟩ := Int.eq_ofNat_of_zero_le hn
  obtain ⟨y, rfl⟩ := Int.eq_ofNat_of_zero_le hx0
  have hy : y < 2 ^ i := by omega
  have ht' : y + 2 ^ i * k < 18446744073709551616 := by
    have : ((y + 2 ^ i * k : Nat) : Int) < 18446744073709551616 := by rw [Int.natCast_add, Int.natCast_mul]; exact ht
    omega
  unfold getStep
  rw [IntKind.wrap_u64, IntKind.wrap_u64, show ((k : Int) * ((2 ^ i : Nat) : Int)) = ((2 ^ i * k : Nat) : Int) by rw [Int.natCast_mul, Int.mul_comm],
    show ((2 ^ i * k : Nat) : Int) % 18446744073709551616 = ((2 ^ i * k : Nat) : Int) by omega, show (y : Int) % 18446744073709551616 = (y : Int) by omega, u64_or_nat _ _ (by omega) (by omega), ← Nat.two_pow_add_eq_or_of_lt hy]
  rw [Int.natCast_add, Int.natCast_mul]
  omega

theorem getFold_reverse (i : Nat) (xs : List Int) (h : ∀ z ∈ xs, 0 ≤ z ∧ z < (2 ^ i : Nat)) (ht : valB (2 ^ i : Nat) xs < 18446744073709551616) : getFold ((2 ^ i : Nat) : Int) xs.reverse = valB (2 ^ i : Nat) xs := by
  induction xs with
  | nil => rfl
  | cons x xs ih =>
    have h1 := h x (by simp)
    have h2 := valB_nonneg ((2 ^ i : Nat) : Int) (by omega) xs (fun z hz => (h z (by simp [hz])).1)
    have h3 : valB ((2 ^ i : Nat) : Int) xs ≤ ((2 ^ i : Nat) : Int) * valB ((2 ^ i : Nat) : Int) xs := by
      have hp : (1 : Int) ≤ ((2 ^ i : Nat) : Int) := by have := Nat.pow_pos (n := i) (a := 2) (by omega); omega
      have := Int.mul_le_mul_of_nonneg_right hp h2
      omega
    simp only [valB] at ht
    rw [List.reverse_cons, getFold_snoc, ih (fun z hz => h z (by simp [hz])) (by omega), getStep_eq i _ x h1.1 h1.2 h2 ht]
    rfl

theorem downto_snd (bs : List Int) : (downto bs bs.length).map Prod.snd = bs.reverse := by
  apply List.ext_getElem
  · simp [downto]
  · intro j h1 h2
    simp [downto] at h1
    simp [downto, List.getElem_reverse, show bs.length - 1 - j < bs.length by omega]

theorem valB_lt (m : Int) (hm : 1 ≤ m) (xs : List Int) (h : ∀ z ∈ xs, 0 ≤ z ∧ z < m) : valB m xs < m ^ xs.length := by
  induction xs with
  | nil => simp [valB]
  | cons x xs ih =>
    have h1 := h x (by simp)
    have h2 := ih (fun z hz => h z (by simp [hz]))
    simp only [valB, List.length_cons]
    rw [Int.pow_succ]
    have h3 : m * (valB m xs + 1) ≤ m * m ^ xs.length := Int.mul_le_mul_of_nonneg_left (by omega) (by omega)
    rw [Int.mul_add] at h3
    rw [Int.mul_comm (m ^ xs.length)]
    omega

set_option maxRecDepth 100000 in
set_option maxHeartbeats 2000000 in
theorem get_in (F : Fence) (n : Nat) (hf1 : F.fn 14) (hf2 : F.fn 24) (hf3 : F.fn 28) (hro : F.round = none) (hn : 3 ≤ n)
    (v : Value) (bs : List Int) (p s : Nat) (w : World) (hb : IsB w v bs) (hl : bs.length ≤ 140737488355328) (h1 : 1 ≤ s) (h2 : s ≤ 8) (h3 : p + s ≤ bs.length) :
    CallsIn F n Try.prog 14 #[v, .int .i64 p, .int .i64 s] w fun e w' => e = .returned (.tuple #[.int .u64 (getFold 256 ((bs.drop p).take s).reverse), .bool true]) ∧ Below w.heap.size w w' := by
  have hn1 : 1 ≤ n := by omega
  obtain ⟨b, off, cap, rfl, hlc, hc⟩ := hb.opened (by omega)
  refine callsIn_of_wp_marks Try.func14 rfl hf1 ?_ hro
  simp only [Try.ntmps14, List.size_toArray, List.length_cons, List.length_nil, Nat.reduceAdd, Nat.reduceSub, Array.replicate_succ, Array.replicate_zero, List.push_toArray, List.append_toArray, List.nil_append, List.cons_append]
  gi_wp2_with (gi_at_call 24; refine (back_in F (n - 1) hf2 hro _ _ _ _).mono ?_; rintro e w' ⟨rfl, rfl⟩)
  have hm := hb.mid p s h3
  have bS := Boxed.new w 23 (.int .u64 0)
  have bN := Boxed.new (w.alloc (.cells #[.int .u64 0] 23)) 22 (.slice (some ⟨b, off + p, none⟩) s (cap - p))
  rw [World.size_alloc] at bN
  have hB0 : Below w.heap.size w ((w.alloc (.cells #[.int .u64 0] 23)).alloc (.cells #[.slice (some ⟨b, off + p, none⟩) s (cap - p)] 22)) := ((Below.refl _ w).alloc (Nat.le_refl _) _).alloc (by simp) _
  have hms : ((bs.drop p).take s).length = s := by simp; omega
  refine wpIn_rangeFunc_ownG hro hn1 (gf := 28) (lb := #[.pointer (some ⟨w.heap.size + 1, 0, none⟩)]) rfl hf3 (enters_of Try.func28 (by kernel_rfl) rfl)
    (back_stops F (n - 1) hf3 hro (by omega) (w.heap.size + 1) _ ((bs.drop p).take s) (by rw [hms]; omega) w _ (by simp) bN.cell hm hB0) keepB_t (keepB_b (by simp; omega) (by simp)) (Below.refl _ _) (fun _ => rfl)
    (fun pre W => (W.cell? ⟨w.heap.size, 0, none⟩ = some (.int .u64 (getFold 256 (pre.map Prod.snd))) ∧ W.frozen? ⟨w.heap.size, 0, none⟩ = false) ∧ Below w.heap.size w W)
    (fun _ _ _ => False)
    (OwnFrom.and (Own.from (fun s A B row hs hg hr => ⟨cell_kept hs.1 hg hr, (frozen_kept hs.1 hg hr).trans hs.2⟩) _) (ownFrom_below (Nat.le_refl _) (by simp; omega)))
    (fun _ _ _ _ _ hs _ _ => hs)
    ⟨⟨(bS.alloc _).cell, (bS.alloc _).frozen⟩, hB0⟩
    ?a1 ?assign ?body ?done ?stop
  case assign =>
    intro l x W K hK
    gi_wp2
    exact hK
  case body =>
    rintro l pre x W ⟨⟨hc, hf⟩, hB⟩ _
    gi_wp2
    exact ⟨(KeepsOthers.setCell _ _ _).from _, ⟨(Below.refl w.heap.size W).setCell (p := ⟨w.heap.size, 0, none⟩) (Nat.le_refl _) _, World.cell?_of_block (w := W) (Below.heap_setCell _ _ _ _ (by simp))⟩,
      ⟨by rw [List.map_append, List.map_cons, List.map_nil, getFold_snoc]; exact World.cell?_setCell_same' _ _ _ (by rw [hc]; rfl), by rw [World.frozen?_setCell]; exact hf⟩, hB.setCell (p := ⟨w.heap.size, 0, none⟩) (Nat.le_refl _) _⟩
  case done =>
    rintro D ys W hD rfl ⟨⟨hc, _⟩, hB⟩ hK
    rw [downto_snd] at hc
    gi_wp2
    refine ⟨by simp, .inl ⟨_, _, rfl, run_takeDeferred hK, ?_⟩⟩
    exact ⟨_, results_tmp2 rfl _ _ _, rfl, hB.trans (belowK_b (w := w) (Nat.le_refl _) W D _ _ (by simp at hD; omega) hK rfl rfl)⟩
  case stop =>
    rintro D c pre W _ _ h _
    exact h.elim

/-- Get, where there are so many bytes. -/
theorem get_yes (v : Value) (bs : List Int) (p s : Nat) (w : World) (hb : IsB w v bs) (hl : bs.length ≤ 140737488355328) (h1 : 1 ≤ s) (h2 : s ≤ 8) (h3 : p + s ≤ bs.length) :
    Calls Try.prog 14 #[v, .int .i64 p, .int .i64 s] w fun e w' => e = .returned (.tuple #[.int .u64 (valB 256 ((bs.drop p).take s)), .bool true]) ∧ Below w.heap.size w w' := by
  have hd : ∀ z ∈ (bs.drop p).take s, 0 ≤ z ∧ z < ((2 ^ 8 : Nat) : Int) := fun z hz => by
    have := hb.bytes z (List.mem_of_mem_drop (List.mem_of_mem_take hz))
    omega
  have hlt := valB_lt ((2 ^ 8 : Nat) : Int) (by omega) _ hd
  have hlen : ((bs.drop p).take s).length = s := by simp; omega
  rw [hlen] at hlt
  have hp : ((2 ^ 8 : Nat) : Int) ^ s ≤ 18446744073709551616 := by
    rw [← Int.natCast_pow]
    have := Nat.pow_le_pow_right (show 0 < 2 ^ 8 by omega) h2
    omega
  have e := getFold_reverse 8 _ hd (by omega)
  have hg := callsIn_wide.1 (get_in Fence.wide 3 trivial trivial trivial rfl (Nat.le_refl _) v bs p s w hb hl h1 h2 h3)
  rw [show (256 : Int) = ((2 ^ 8 : Nat) : Int) from rfl, ← e]
  exact hg

/-- How many bytes the number has that the bytes begin with, of at most so many; 0, if it has no end. -/
def digN : Nat → List Int → Nat
  | 0, _ => 0
  | _ + 1, [] => 0
  | f + 1, x :: xs => if x < 128 then 1 else if digN f xs = 0 then 0 else digN f xs + 1

theorem digN_le (f : Nat) (bs : List Int) : digN f bs ≤ bs.length ∧ digN f bs ≤ f := by
  induction f generalizing bs with
  | zero => simp [digN]
  | succ f ih =>
    cases bs with
    | nil => simp [digN]
    | cons x xs =>
      have := ih xs
      simp only [digN, List.length_cons]
      split
      · omega
      · split <;> omega

theorem digN_found (f : Nat) (bs : List Int) (k : Nat) (hk : k < f) (hl : k < bs.length) (h1 : ∀ j, j < k → 128 ≤ bs[j]?.getD 0) (h2 : bs[k]?.getD 0 < 128) : digN f bs = k + 1 := by
  induction f generalizing bs k with
  | zero => omega
  | succ f ih =>
    cases bs with
    | nil => simp at hl
    | cons x xs =>
      cases k with
      | zero =>
        simp at h2
        simp [digN, h2]
      | succ k =>
        have h0 := h1 0 (by omega)
        simp at h0
        have := ih xs k (by omega) (by simpa using hl) (fun j hj => by have := h1 (j + 1) (by omega); simpa using this) (by simpa using h2)
        simp only [digN]
        rw [if_neg (by omega), this, if_neg (by omega)]

theorem digN_none (f : Nat) (bs : List Int) (h1 : ∀ j, j < f → j < bs.length → 128 ≤ bs[j]?.getD 0) : digN f bs = 0 := by
  induction f generalizing bs with
  | zero => rfl
  | succ f ih =>
    cases bs with
    | nil => rfl
    | cons x xs =>
      have h0 := h1 0 (by omega) (by simp)
      simp at h0
      have := ih xs (fun j hj hl => by have := h1 (j + 1) (by omega) (by simpa using hl); simpa using this)
      simp only [digN]
      rw [if_neg (by omega), this, if_pos rfl]

set_option maxHeartbeats 400000 in
theorem digits_any (v : Value) (bs : List Int) (w : World) (hb : IsB w v bs) (hl : bs.length ≤ 140737488355328) :
    Calls Try.prog 25 #[v] w fun e w' => e = .returned (.int .i64 (digN 10 bs)) ∧ w' = w := by
  have hop := hb.opened
  obtain ⟨a, cap, rfl, hlc⟩ := hb.form
  clear hb
  by_cases h10 : (bs.length : Int) ≤ 10
  · go_enter Try.func25, Try.ntmps25
    go_wp2
    go_loop [2, 3, 7] (fun _ _ i => ∃ k : Nat, k ≤ bs.length ∧ i = .int .i64 k ∧ ∀ j, j < k → 128 ≤ bs[j]?.getD 0) (fun _ _ i => bs.length - (intOf i).toNat)
    case atStart => exact ⟨0, Nat.zero_le _, rfl, fun j hj => by omega⟩
    case round =>
      obtain ⟨k, hk, rfl, hall⟩ := hrel
      by_cases hlt : k < bs.length
      · obtain ⟨b, off, cap', he, _, hc⟩ := hop (by omega)
        simp only [Value.slice.injEq, true_and] at he
        obtain ⟨rfl, rfl⟩ := he
        obtain ⟨x, hx⟩ : ∃ x, x = bs[k]?.getD 0 := ⟨_, rfl⟩
        have hc0 := hc k (by omega)
        rw [← hx] at hc0
        have HX : Hid (x = bs[k]?.getD 0) := hx
        have HA : Hid (∀ j, j < k → 128 ≤ bs[j]?.getD 0) := hall
        clear hx hc hop hall
        by_cases h128 : x < 128
        · have HD : Hid (digN 10 bs = k + 1) := digN_found 10 bs k (by omega) (by omega) HA.out (by rw [← HX.out]; exact h128)
          go_wp2
          go_ret
          refine ⟨?_, rfl⟩
          rw [HD.out]
          rfl
        · go_wp2
          go_round
          case rel => exact ⟨k + 1, by omega, by go_num, fun j hj => by by_cases e : j = k; (subst e; rw [← HX.out]; omega); exact HA.out j (by omega)⟩
          case measure => simp [intOf]; omega
      · have HD : Hid (digN 10 bs = 0) := digN_none 10 bs (fun j hj hjl => hall j (by omega))
        go_wp2
        go_ret
        refine ⟨?_, rfl⟩
        rw [HD.out]
        rfl
  · go_enter Try.func25, Try.ntmps25
    go_wp2
    go_loop [2, 3, 7] (fun _ _ i => ∃ k : Nat, k ≤ 10 ∧ i = .int .i64 k ∧ ∀ j, j < k → 128 ≤ bs[j]?.getD 0) (fun _ _ i => 10 - (intOf i).toNat)
    case atStart => exact ⟨0, Nat.zero_le _, rfl, fun j hj => by omega⟩
    case round =>
      obtain ⟨k, hk, rfl, hall⟩ := hrel
      by_cases hlt : k < 10
      · obtain ⟨b, off, cap', he, _, hc⟩ := hop (by omega)
        simp only [Value.slice.injEq, true_and] at he
        obtain ⟨rfl, rfl⟩ := he
        obtain ⟨x, hx⟩ : ∃ x, x = bs[k]?.getD 0 := ⟨_, rfl⟩
        have hc0 := hc k (by omega)
        rw [← hx] at hc0
        have HX : Hid (x = bs[k]?.getD 0) := hx
        have HA : Hid (∀ j, j < k → 128 ≤ bs[j]?.getD 0) := hall
        clear hx hc hop hall
        by_cases h128 : x < 128
        · have HD : Hid (digN 10 bs = k + 1) := digN_found 10 bs k (by omega) (by omega) HA.out (by rw [← HX.out]; exact h128)
          go_wp2
          go_ret
          refine ⟨?_, rfl⟩
          rw [HD.out]
          rfl
        · go_wp2
          go_round
          case rel => exact ⟨k + 1, by omega, by go_num, fun j hj => by by_cases e : j = k; (subst e; rw [← HX.out]; omega); exact HA.out j (by omega)⟩
          case measure => simp [intOf]; omega
      · have HD : Hid (digN 10 bs = 0) := digN_none 10 bs (fun j hj hjl => hall j (by omega))
        go_wp2
        go_ret
        refine ⟨?_, rfl⟩
        rw [HD.out]
        rfl

/-- Are these digits as few as can be? -/
def shortB (xs : List Int) : Bool := decide (xs.length = 1 ∨ 1 < xs.length ∧ xs[xs.length - 1]?.getD 0 ≠ 0)
/-- Are they above 64 bits? -/
def greatB (xs : List Int) : Bool := decide (xs.length = 10 ∧ (1 : Int) < xs[9]?.getD 0)

set_option maxHeartbeats 400000 in
theorem shortest_any (v : Value) (xs : List Int) (w : World) (hb : IsB w v xs) (hl : xs.length ≤ 140737488355328) :
    Calls Try.prog 26 #[v] w fun e w' => e = .returned (.bool (shortB xs)) ∧ w' = w := by
  have hop := hb.opened
  obtain ⟨a, cap, rfl, hlc⟩ := hb.form
  clear hb
  by_cases h1 : xs.length = 1
  · have hv : shortB xs = true := by simp [shortB, h1]
    have ht : ((xs.length : Int) == 1) = true := by simp [h1]
    clear h1
    rw [hv]
    go_enter Try.func26, Try.ntmps26
    go_wp2
    go_ret
    exact ⟨rfl, rfl⟩
  · have ht : ((xs.length : Int) == 1) = false := by simp; omega
    by_cases h2 : 1 < xs.length
    · obtain ⟨b, off, cap', he, _, hc⟩ := hop (by omega)
      simp only [Value.slice.injEq, true_and] at he
      obtain ⟨rfl, rfl⟩ := he
      obtain ⟨x, hx⟩ : ∃ x, x = xs[xs.length - 1]?.getD 0 := ⟨_, rfl⟩
      have hc0 := hc (xs.length - 1) (by omega)
      rw [← hx] at hc0
      have HX : Hid (x = xs[xs.length - 1]?.getD 0) := hx
      have ht2 : (1 : Int) < (xs.length : Int) := by omega
      clear hx hc hop
      by_cases h3 : x = 0
      · have hv : shortB xs = false := by simp [shortB, h1, ← HX.out, h3]
        have ht3 : (x != 0) = false := by simp [h3]
        have H3 : Hid (x = 0) := h3
        clear h3 h1
        rw [hv]
        go_enter Try.func26, Try.ntmps26
        go_wp2
        go_ret
        exact ⟨rfl, rfl⟩
      · have hv : shortB xs = true := by simp [shortB, h2, ← HX.out, h3]
        have ht3 : (x != 0) = true := by simp [h3]
        clear h3 h1
        rw [hv]
        go_enter Try.func26, Try.ntmps26
        go_wp2
        go_ret
        exact ⟨rfl, rfl⟩
    · have hv : shortB xs = false := by simp [shortB, h1, h2]
      have ht2 : ¬ (1 : Int) < (xs.length : Int) := by omega
      clear h1 h2
      rw [hv]
      go_enter Try.func26, Try.ntmps26
      go_wp2
      go_ret
      exact ⟨rfl, rfl⟩

set_option maxHeartbeats 400000 in
theorem tooGreat_any (v : Value) (xs : List Int) (w : World) (hb : IsB w v xs) :
    Calls Try.prog 27 #[v] w fun e w' => e = .returned (.bool (greatB xs)) ∧ w' = w := by
  have hop := hb.opened
  obtain ⟨a, cap, rfl, hlc⟩ := hb.form
  clear hb
  by_cases h1 : xs.length = 10
  · have ht : ((xs.length : Int) == 10) = true := by simp [h1]
    obtain ⟨b, off, cap', he, _, hc⟩ := hop (by omega)
    simp only [Value.slice.injEq, true_and] at he
    obtain ⟨rfl, rfl⟩ := he
    obtain ⟨x, hx⟩ : ∃ x, x = xs[9]?.getD 0 := ⟨_, rfl⟩
    have hc0 := hc 9 (by omega)
    rw [← hx] at hc0
    have HX : Hid (x = xs[9]?.getD 0) := hx
    have hlen : 9 < xs.length := by omega
    clear hx hc hop
    by_cases h3 : 1 < x
    · have hv : greatB xs = true := by unfold greatB; rw [← HX.out]; simp [h1]; omega
      clear h1
      rw [hv]
      go_enter Try.func27, Try.ntmps27
      go_wp2
      go_ret
      exact ⟨rfl, rfl⟩
    · have hv : greatB xs = false := by unfold greatB; rw [← HX.out]; simp [h1]; omega
      clear h1
      rw [hv]
      go_enter Try.func27, Try.ntmps27
      go_wp2
      go_ret
      exact ⟨rfl, rfl⟩
  · have ht : ((xs.length : Int) == 10) = false := by simp; omega
    have hv : greatB xs = false := by simp [greatB, h1]
    clear h1
    rw [hv]
    go_enter Try.func27, Try.ntmps27
    go_wp2
    go_ret
    exact ⟨rfl, rfl⟩

/-- May a number have these digits? -/
def okV (bs : List Int) : Bool := shortB (bs.take (digN 10 bs)) && !greatB (bs.take (digN 10 bs))

set_option maxHeartbeats 400000 in
theorem getVar_no (v : Value) (bs : List Int) (w : World) (hb : IsB w v bs) (hl : bs.length ≤ 140737488355328) (hk : okV bs = false) :
    Calls Try.prog 17 #[v] w fun e w' => e = .returned (.tuple #[.int .u64 0, .int .i64 0, .bool false]) ∧ w' = w := by
  have hdl := digN_le 10 bs
  obtain ⟨d, hd⟩ : ∃ d, d = digN 10 bs := ⟨_, rfl⟩
  have HK : Hid (okV bs = false) := hk
  clear hk
  have hD := digits_any v bs w hb hl
  rw [← hd] at hdl hD
  have htl : (bs.take d).length ≤ 140737488355328 := by simp; omega
  obtain ⟨a, cap, rfl, hlc⟩ := hb.form
  have ht := hb.take d hdl.1
  have hS := shortest_any _ _ w ht htl
  have hG := tooGreat_any _ _ w ht
  have HD := hide hD
  have HS := hide hS
  have HG := hide hG
  have HE : Hid (d = digN 10 bs) := hd
  clear hD hS hG hd
  cases hs : shortB (bs.take d) with
  | false =>
    rw [hs] at HS
    go_enter Try.func17, Try.ntmps17
    go_wp2_with (first | (go_at_call 25; refine HD.out.mono ?_; rintro e w' ⟨rfl, rfl⟩) | (go_at_call 26; refine HS.out.mono ?_; rintro e w' ⟨rfl, rfl⟩))
    go_ret3
    exact ⟨rfl, rfl⟩
  | true =>
    rw [hs] at HS
    have hg : greatB (bs.take d) = true := by
      have := HK.out
      rw [okV, ← HE.out, hs] at this
      simpa using this
    rw [hg] at HG
    go_enter Try.func17, Try.ntmps17
    go_wp2_with (first | (go_at_call 25; refine HD.out.mono ?_; rintro e w' ⟨rfl, rfl⟩) | (go_at_call 26; refine HS.out.mono ?_; rintro e w' ⟨rfl, rfl⟩) | (go_at_call 27; refine HG.out.mono ?_; rintro e w' ⟨rfl, rfl⟩))
    go_ret3
    exact ⟨rfl, rfl⟩

/-- The digits' own numbers. -/
def lowB (xs : List Int) : List Int := xs.map fun x => bits .andNot .u8 x 128

theorem lowB_snoc (xs : List Int) (x : Int) : lowB (xs ++ [x]) = lowB xs ++ [bits .andNot .u8 x 128] := by simp [lowB]
theorem lowB_reverse (xs : List Int) : lowB xs.reverse = (lowB xs).reverse := by simp [lowB]

set_option maxRecDepth 100000 in
set_option maxHeartbeats 2000000 in
theorem getVar_go (v : Value) (bs : List Int) (w : World) (hb : IsB w v bs) (hl : bs.length ≤ 140737488355328) (hk : okV bs = true) :
    Calls Try.prog 17 #[v] w fun e w' => e = .returned (.tuple #[.int .u64 (getFold 128 (lowB (bs.take (digN 10 bs))).reverse), .int .i64 (digN 10 bs), .bool true]) ∧ Below w.heap.size w w' := by
  have hdl := digN_le 10 bs
  obtain ⟨d, hd⟩ : ∃ d, d = digN 10 bs := ⟨_, rfl⟩
  have hD := digits_any v bs w hb hl
  rw [← hd] at hdl hD ⊢
  have htl : (bs.take d).length ≤ 140737488355328 := by simp; omega
  obtain ⟨a, cap, rfl, hlc⟩ := hb.form
  have ht := hb.take d hdl.1
  have hS := shortest_any _ _ w ht htl
  have hG := tooGreat_any _ _ w ht
  rw [okV, ← hd] at hk
  simp only [Bool.and_eq_true, Bool.not_eq_true'] at hk
  rw [hk.1] at hS
  rw [hk.2] at hG
  have hdl2 := hdl.1
  have HD := hide (callsIn_wide (n := 2).2 hD)
  have HS := hide (callsIn_wide (n := 2).2 hS)
  have HG := hide (callsIn_wide (n := 2).2 hG)
  clear hD hS hG hd hk hdl
  refine (callsIn_wide (n := 3)).1 ?_
  refine callsIn_of_wp_marks Try.func17 rfl trivial ?_ rfl
  simp only [Try.ntmps17, List.size_toArray, List.length_cons, List.length_nil, Nat.reduceAdd, Nat.reduceSub, Array.replicate_succ, Array.replicate_zero, List.push_toArray, List.append_toArray, List.nil_append, List.cons_append]
  gi_wp2_with (first | (refine ⟨trivial, ?_⟩; gi_at_call 25; refine HD.out.mono ?_; rintro e w' ⟨rfl, rfl⟩) | (refine ⟨trivial, ?_⟩; gi_at_call 26; refine HS.out.mono ?_; rintro e w' ⟨rfl, rfl⟩) | (refine ⟨trivial, ?_⟩; gi_at_call 27; refine HG.out.mono ?_; rintro e w' ⟨rfl, rfl⟩) | (refine ⟨trivial, ?_⟩; gi_at_call 24; refine (back_in Fence.wide 2 trivial rfl _ _ _ _).mono ?_; rintro e w' ⟨rfl, rfl⟩))
  have hms : (bs.take d).length = d := by simp; omega
  have bS := Boxed.new w' 23 (.int .u64 0)
  have bN := Boxed.new (w'.alloc (.cells #[.int .u64 0] 23)) 22 (.slice a d cap)
  rw [World.size_alloc] at bN
  have hB0 : Below w'.heap.size w' ((w'.alloc (.cells #[.int .u64 0] 23)).alloc (.cells #[.slice a d cap] 22)) := ((Below.refl _ w').alloc (Nat.le_refl _) _).alloc (by simp) _
  refine wpIn_rangeFunc_ownG rfl (by omega) (gf := 28) (lb := #[.pointer (some ⟨w'.heap.size + 1, 0, none⟩)]) rfl trivial (enters_of Try.func28 (by kernel_rfl) rfl)
    (back_stops Fence.wide 2 trivial rfl (by omega) (w'.heap.size + 1) _ (bs.take d) htl w' _ (by simp) bN.cell ht hB0) keepB_t (keepB_b (by simp; omega) (by simp)) (Below.refl _ _) (fun _ => rfl)
    (fun pre W => (W.cell? ⟨w'.heap.size, 0, none⟩ = some (.int .u64 (getFold 128 (lowB (pre.map Prod.snd)))) ∧ W.frozen? ⟨w'.heap.size, 0, none⟩ = false) ∧ Below w'.heap.size w' W)
    (fun _ _ _ => False)
    (OwnFrom.and (Own.from (fun s A B row hs hg hr => ⟨cell_kept hs.1 hg hr, (frozen_kept hs.1 hg hr).trans hs.2⟩) _) (ownFrom_below (Nat.le_refl _) (by simp; omega)))
    (fun _ _ _ _ _ hs _ _ => hs)
    ⟨⟨(bS.alloc _).cell, (bS.alloc _).frozen⟩, hB0⟩
    ?a1 ?assign ?body ?done ?stop
  case assign =>
    intro l x W K hK
    gi_wp2
    exact hK
  case body =>
    rintro l pre x W ⟨⟨hc, hf⟩, hB⟩ _
    gi_wp2
    exact ⟨(KeepsOthers.setCell _ _ _).from _, ⟨(Below.refl w'.heap.size W).setCell (p := ⟨w'.heap.size, 0, none⟩) (Nat.le_refl _) _, World.cell?_of_block (w := W) (Below.heap_setCell _ _ _ _ (by simp))⟩,
      ⟨by rw [List.map_append, List.map_cons, List.map_nil, lowB_snoc, getFold_snoc]; exact World.cell?_setCell_same' _ _ _ (by rw [hc]; rfl), by rw [World.frozen?_setCell]; exact hf⟩, hB.setCell (p := ⟨w'.heap.size, 0, none⟩) (Nat.le_refl _) _⟩
  case done =>
    rintro D ys W hD rfl ⟨⟨hc, _⟩, hB⟩ hK
    rw [downto_snd, lowB_reverse] at hc
    gi_wp2
    refine ⟨by simp, .inl ⟨_, _, rfl, run_takeDeferred hK, ?_⟩⟩
    exact ⟨_, results_tmp3 rfl _ _ _, rfl, hB.trans (belowK_b (w := w') (Nat.le_refl _) W D _ _ (by simp at hD; omega) hK rfl rfl)⟩
  case stop =>
    rintro D c pre W _ _ h _
    exact h.elim

end Go.Proofs.Ytoneaaafdgllbaa
