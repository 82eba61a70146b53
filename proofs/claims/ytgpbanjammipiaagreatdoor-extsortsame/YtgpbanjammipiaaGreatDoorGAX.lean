/-
  Lemma texts, one behind the other: XNil, XSortE, XPassB, XSortP, XPassW. No statement of the seat is proved here.
-/
import Derived.Test.YtgpbanjammipiaaGreatDoorGAW
import Derived.Test.YtgpbanjammipiaaGreatDoorGAL
import Derived.Test.YtgpbanjammipiaaGreatDoorGAV
namespace Go.Proofs.YtgpbanjammipiaaGreatDoor
open Go.RowKit Go.Shelf

attribute [local go_sem] Oper.semAt_some

theorem cell_alloc {w : World} {p : Addr} {v : Value} (h : w.cell? p = some v) (o : Obj) : (w.alloc o).cell? p = some v := ((Kept.refl [] w).alloc o).cell h (by simp)

/-- What the range over no pieces keeps. -/
def CutN (w : World) (W : World) : Prop := (∃ cv, W.heap[w.heap.size + 1]? = some (.cells #[cv] 66 (0, 0))) ∧ Below w.heap.size w W ∧ w.heap.size + 4 ≤ W.heap.size

theorem CutN.own (w : World) : OwnFrom (w.heap.size + 4) (fun (_ : List Nat) W => CutN w W) := fun pre W W' row h hg hr => by
  obtain ⟨⟨cv, h1⟩, h5, h6⟩ := h
  have k : Kept row.toList W W' := Kept.of_grown hg
  refine ⟨⟨cv, k.heap h1 (fun hm => ?_)⟩, ?_, Nat.le_trans h6 hg.size⟩
  · simp at hm
    have := (hr _ hm).1
    omega
  · refine h5.grown hg h5.size (fun x e => ?_)
    have := (hr x e).1
    omega

set_option maxRecDepth 100000 in
set_option maxHeartbeats 2000000 in
theorem cutNil_any (n : Nat) (how : Int) (w : World) (hn : 0 < n) (hn1 : n ≤ 100000) (hh : mayH how = true) :
    Calls Tryz.prog 30 #[.slice none 0 0, .int .i64 n, .int .i64 how] w fun e w' => ∃ cv, e = .returned (.tuple #[cv, .int .i64 0]) ∧ Below w.heap.size w w' := by
  have KN := hide (fun w => known_any how w)
  rw [hh] at KN
  have hb1 : ¬ ((n : Int) < 1) := by omega
  have hfw : ∀ f, Fence.wide.fn f := fun _ => trivial
  refine (callsIn_wide (n := 4)).1 (callsIn_of_wp_marks Tryz.func30 rfl trivial ?_ rfl)
  simp only [Tryz.ntmps30, List.size_toArray, List.length_cons, List.length_nil, Nat.reduceAdd, Nat.reduceSub, Array.replicate_succ, Array.replicate_zero, List.push_toArray, List.append_toArray, List.nil_append, List.cons_append]
  gi_wp2_with (first | (gi_at_call 49; refine (callsIn_wide.2 (KN.out _)).mono ?_; rintro e w' ⟨rfl, rfl⟩) | (gi_at_call 50; refine (chunk_in _ none 0 0 n hn _).mono ?_; rintro e w' ⟨rfl, rfl⟩))
  have hb0 : Below w.heap.size w ((((w.alloc (.cells #[.int .i64 how] 3)).alloc (.cells #[.slice none 0 0] 66)).alloc (.cells #[.slice none 0 0] 22)).alloc (.cells #[.int .i64 n] 3)) := ((((Below.refl _ w).alloc (Nat.le_refl _) _).alloc (by simp) _).alloc (by simp; omega) _).alloc (by simp; omega) _
  have hs0 : CutN w ((((w.alloc (.cells #[.int .i64 how] 3)).alloc (.cells #[.slice none 0 0] 66)).alloc (.cells #[.slice none 0 0] 22)).alloc (.cells #[.int .i64 n] 3)) := by
    have e2 := heap_alloc_new (w.alloc (.cells #[.int .i64 how] 3)) (.cells #[.slice none 0 0] 66)
    have k2 : ∀ (W : World) (x : Nat) o o', W.heap[x]? = some o → (W.alloc o').heap[x]? = some o := fun W x o o' h => ((Kept.refl [] W).alloc o').heap h (by simp)
    rw [World.size_alloc] at e2
    exact ⟨⟨.slice none 0 0, k2 _ _ _ _ (k2 _ _ _ _ e2)⟩, hb0, by simp⟩
  have hc1 := cell_of_heap (heap_alloc_new ((w.alloc (.cells #[.int .i64 how] 3)).alloc (.cells #[.slice none 0 0] 66)) (.cells #[.slice none 0 0] 22)) 0
  have hc2 := cell_of_heap (heap_alloc_new (((w.alloc (.cells #[.int .i64 how] 3)).alloc (.cells #[.slice none 0 0] 66)).alloc (.cells #[.slice none 0 0] 22)) (.cells #[.int .i64 n] 3)) 0
  simp only [World.size_alloc] at hc1 hc2
  have hc1' := cell_alloc hc1 (.cells #[.int .i64 n] 3)
  refine wpIn_rangeFunc_ownG rfl (by omega) (gf := 72) (lb := #[.pointer (some ⟨w.heap.size + 1 + 1, 0, none⟩), .pointer (some ⟨w.heap.size + 1 + 1 + 1, 0, none⟩)]) rfl trivial (enters_of Tryz.func72 (by kernel_rfl) rfl)
    (chunk_stops 3 (by omega) (w.heap.size + 1 + 1) (w.heap.size + 1 + 1 + 1) 0 0 0 0 n none (fun h => by omega) (Nat.le_refl _) (by omega) hn (by omega) w.heap.size _ hc1' hc2) keepC_t (keepC_b (by simp; omega) (by simp) (by simp)) (Below.refl _ _) (fun _ => rfl)
    (fun _ W => CutN w W)
    (fun _ _ _ => False)
    (by have := CutN.own w; simpa using this)
    (fun _ _ _ _ _ hs _ _ => hs)
    hs0
    ?a1 ?assign ?body ?done ?stop
  case assign =>
    intro l₀ x W K hK
    gi_wp2
    exact hK
  case body =>
    rintro l₀ pre x W hST hpl
    have h0 : pcN 0 n = 0 := by unfold pcN; exact Nat.div_eq_of_lt (by omega)
    rw [h0] at hpl
    exact absurd hpl (by omega)
  case done =>
    rintro D ys W hD _ hST hK
    obtain ⟨⟨cv, q1⟩, q5, q6⟩ := hST
    have c1 : W.cell? ⟨w.heap.size + 1, 0, none⟩ = some cv := cell_of_heap q1 0
    have Q5 := hide q5
    clear q1 q5 hc1 hc2 hc1' hs0 hb0
    gi_wp2
    refine ⟨by simp, .inl ⟨_, _, rfl, run_takeDeferred hK, ?_⟩⟩
    have kD : Kept [D] W (W.putObj D (.deferred none)) := Kept.of_grown (grownBy_putObj' W D _)
    refine ⟨_, results_tmp2 rfl _ _ _, cv, rfl, ?_⟩
    exact Q5.out.trans (kD.below Q5.out.size (fun x hx => by simp at hx hD; omega))
  case stop =>
    rintro D c pre W _ _ h _
    exact h.elim

set_option maxRecDepth 100000 in
theorem cut_no (v : Value) (n how : Int) (w : World) (hh : mayH how = false ∨ n < 1) :
    Calls Tryz.prog 30 #[v, .int .i64 n, .int .i64 how] w fun e w' => e = .returned (.tuple #[.slice none 0 0, .int .i64 1]) ∧ Below w.heap.size w w' := by
  have KN := hide (fun w => known_any how w)
  have hb0 : Below w.heap.size w (w.alloc (.cells #[.int .i64 how] 3)) := (Below.refl _ w).alloc (Nat.le_refl _) _
  have HB := hide hb0
  clear hb0
  cases hk : mayH how with
  | false =>
    rw [hk] at KN
    clear hh hk
    go_enter Tryz.func30, Tryz.ntmps30
    go_wp2_with fail
    refine (KN.out _).mono ?_
    rintro e w1 ⟨rfl, rfl⟩
    go_wp2
    go_ret2
    exact ⟨rfl, HB.out⟩
  | true =>
    rw [hk] at KN hh
    have hn : n < 1 := by
      rcases hh with h | h
      · cases h
      · exact h
    clear hh hk
    go_enter Tryz.func30, Tryz.ntmps30
    go_wp2_with fail
    refine (KN.out _).mono ?_
    rintro e w1 ⟨rfl, rfl⟩
    go_wp2
    go_ret2
    exact ⟨rfl, HB.out⟩

end Go.Proofs.YtgpbanjammipiaaGreatDoor

namespace Go.Proofs.YtgpbanjammipiaaGreatDoor
open Go.RowKit Go.Maps

section
variable {w : World} {fd : List Nat} {p : Nat} {A : Dsk} {inn out temp : ByteArray}

set_option maxRecDepth 100000 in
set_option maxHeartbeats 4000000 in
/-- A budget, a fan or a how that may not be. -/
theorem sort_arg (w : World) (d : Value) (s1 s2 s3 : ByteArray) (budget fan how : Int) (hb : budget ≤ 100000) (h : budget < 1 ∨ fan < 2 ∨ mayH how = false) :
    Calls Tryz.prog 14 #[d, .string s1, .string s2, .string s3, .int .i64 budget, .int .i64 fan, .int .i64 how] w fun e w' => e = .returned (.tuple #[.int .i64 0, .int .i64 1]) ∧ Below w.heap.size w w' := by
  by_cases h1 : mayH how = false ∨ budget < 1
  · have CN := hide (cut_no (.slice none 0 0) budget how w h1)
    clear h h1
    go_enter Tryz.func14, Tryz.ntmps14
    go_wp2_with fail
    refine CN.out.mono ?_
    rintro e w1 ⟨rfl, b1⟩
    have HB := hide b1
    clear b1
    go_wp2
    go_ret2
    exact ⟨rfl, HB.out⟩
  · have h2 : mayH how = true := by
      cases hm : mayH how with
      | true => rfl
      | false => exact absurd (.inl hm) h1
    have h3 : ¬ budget < 1 := fun e => h1 (.inr e)
    have hf : fan < 2 := by
      rcases h with h | h | h
      · exact absurd h h3
      · exact h
      · rw [h2] at h; cases h
    obtain ⟨n, rfl⟩ : ∃ n : Nat, budget = (n : Int) := ⟨budget.toNat, by omega⟩
    have CN := hide (cutNil_any n how w (by omega) (by omega) h2)
    clear h h1 h2 h3
    go_enter Tryz.func14, Tryz.ntmps14
    go_wp2_with fail
    refine CN.out.mono ?_
    rintro e w1 ⟨cv, rfl, b1⟩
    have HB := hide b1
    clear b1
    go_wp2
    go_ret2
    exact ⟨rfl, HB.out⟩

set_option maxRecDepth 100000 in
set_option maxHeartbeats 4000000 in
/-- No file in. -/
theorem sort_noin (d : Dk w fd p A.1 A.2) (n fan : Nat) (how : Int) (hn : 0 < n) (hn1 : n ≤ 100000) (hf : 2 ≤ fan) (hh : mayH how = true) (hk : A.2.ops ≤ 999998) (hnm : inn.size ≤ maxLen) {k : Int} (hx : errA (bg A) inn.data.toList = some k) :
    Calls Tryz.prog 14 #[.pointer (some ⟨p, 0, none⟩), .string inn, .string out, .string temp, .int .i64 (n : Int), .int .i64 (fan : Int), .int .i64 how] w fun e w' => e = .returned (.tuple #[.int .i64 0, .int .i64 k]) ∧ Outc w w' fd p (bg A) := by
  have CN := hide (cutNil_any n how w hn hn1 hh)
  have NR := hide (fun (W : World) (b : Below w.heap.size w W) => newReaderA_no (d.below b) hk hnm hx)
  have hk0 : ¬ k = 0 := by rcases errA_ne hx with h | h <;> omega
  have hf2 : ¬ (fan : Int) < 2 := by omega
  clear d hx hh hn hf
  go_enter Tryz.func14, Tryz.ntmps14
  go_wp2_with fail
  refine CN.out.mono ?_
  rintro e w1 ⟨cv, rfl, b1⟩
  have HB := hide b1
  clear b1
  go_wp2_with fail
  refine (NR.out _ HB.out).mono ?_
  rintro e w2 ⟨rfl, fd2, d2, k2, n2⟩
  have H2 := hide (And.intro d2 (And.intro k2 n2))
  clear d2 k2 n2
  go_wp2
  go_ret2
  obtain ⟨d2, k2, n2⟩ := H2.out
  exact ⟨rfl, fd2, d2, ((Kept.of_below (fp := []) HB.out).mono (fp' := fd) (by simp)).trans k2 (fun _ h => .inl h), fun z hz => (n2 z hz).imp id (fun h => Nat.le_trans HB.out.size h)⟩

set_option maxRecDepth 100000 in
set_option maxHeartbeats 4000000 in
/-- No file out can be made. -/
theorem sort_noout (d : Dk w fd p A.1 A.2) (n fan : Nat) (how : Int) (hn : 0 < n) (hn1 : n ≤ 100000) (hf : 2 ≤ fan) (hh : mayH how = true) (hk : A.2.ops ≤ 999990) (hnm : inn.size ≤ maxLen) (hnm2 : out.size ≤ maxLen) (hup : (bg A).2.down = false) {x : Ab} (hx : lookA (bg A).1 inn.data.toList = some x) (hlen : x.2.1.length ≤ 1000000000)
    {k : Int} (hk0 : ¬ k = 0) {B : Dsk} (hB : createA (beginA (bg A).1 (bg A).2) out.data.toList = (k, B)) :
    Calls Tryz.prog 14 #[.pointer (some ⟨p, 0, none⟩), .string inn, .string out, .string temp, .int .i64 (n : Int), .int .i64 (fan : Int), .int .i64 how] w fun e w' => e = .returned (.tuple #[.int .i64 0, .int .i64 k]) ∧ Outc w w' fd p B := by
  have CN := hide (cutNil_any n how w hn hn1 hh)
  have NR := hide (fun (W : World) (b : Below w.heap.size w W) => newReaderA_go (d.below b) hup (by omega) hnm hx hlen)
  have ho1 : (bg A).2.ops ≤ 1000000 := by
    have : (bg A).2.ops = A.2.ops + 1 := beginA_ops A.1 A.2
    omega
  have NW := hide (fun (W : World) (fd2 : List Nat) (d2 : Dk W fd2 p (bg A).1 (bg A).2) => newWriter_no d2 ho1 out hnm2 hk0 hB)
  have hf2 : ¬ (fan : Int) < 2 := by omega
  clear d hx hh hn hf hB
  go_enter Tryz.func14, Tryz.ntmps14
  go_wp2_with fail
  refine CN.out.mono ?_
  rintro e w1 ⟨cv, rfl, b1⟩
  have HB := hide b1
  clear b1
  go_wp2_with fail
  refine (NR.out _ HB.out).mono ?_
  rintro e w2 ⟨q, rfl, ⟨fd2, tv, rk, k2, n2⟩, _⟩
  have H2 := hide (And.intro rk (And.intro k2 n2))
  clear rk k2 n2
  go_wp2_with fail
  refine (NW.out _ fd2 H2.out.1.disk).mono ?_
  rintro e w3 ⟨rfl, fd3, d3, k3, n3⟩
  have H3 := hide (And.intro d3 (And.intro k3 n3))
  clear d3 k3 n3
  go_wp2
  go_ret2
  obtain ⟨rk, k2, n2⟩ := H2.out
  obtain ⟨d3, k3, n3⟩ := H3.out
  have k12 : Kept fd w w2 := ((Kept.of_below (fp := []) HB.out).mono (fp' := fd) (by simp)).trans k2 (fun _ h => .inl h)
  have n12 : ∀ z ∈ fd2, z ∈ fd ∨ w.heap.size ≤ z := fun z hz => (n2 z (rfp_mem.2 (.inl hz))).imp id (fun h => Nat.le_trans HB.out.size h)
  refine ⟨rfl, fd3, d3, k12.trans k3 n12, fun z hz => ?_⟩
  rcases n3 z hz with h | h
  · exact n12 z h
  · exact .inr (Nat.le_trans k12.size h)
end

end Go.Proofs.YtgpbanjammipiaaGreatDoor

namespace Go.Proofs.YtgpbanjammipiaaGreatDoor
open Go.RowKit Go.Maps

/-- The loop's own six blocks stay. -/
def Six (B0 : Nat) (w w' : World) : Prop := Below 0 w w' ∧ w.heap.size ≤ w'.heap.size ∧ ∀ z, B0 ≤ z → z < B0 + 6 → w'.heap[z]? = w.heap[z]?

theorem Six.refl (B0 : Nat) (w : World) : Six B0 w w := ⟨Below.refl _ _, Nat.le_refl _, fun _ _ _ => rfl⟩
theorem Six.trans {B0 : Nat} {a b c : World} (h : Six B0 a b) (k : Six B0 b c) : Six B0 a c := ⟨h.1.trans k.1, Nat.le_trans h.2.1 k.2.1, fun z h1 h2 => (k.2.2 z h1 h2).trans (h.2.2 z h1 h2)⟩
theorem Six.of_kept {B0 : Nat} {fp : List Nat} {w w' : World} (hk : Kept fp w w') (hB : B0 + 6 ≤ w.heap.size) (hf : ∀ z ∈ fp, z < B0 ∨ B0 + 6 ≤ z) : Six B0 w w' :=
  ⟨hk.below (Nat.zero_le _) (fun _ _ => Nat.zero_le _), hk.size, fun z h1 h2 => hk.block z (by omega) (fun e => by have := hf z e; omega)⟩

theorem perm_mid {α : Type} (a b : α) (l m : List α) : (a :: (l ++ (m ++ [b]))).Perm (b :: (l ++ (m ++ [a]))) := by
  rw [← List.append_assoc, ← List.append_assoc]
  exact ((List.perm_append_comm (l₁ := l ++ m) (l₂ := [b])).cons a).trans ((List.Perm.swap b a _).trans ((List.perm_append_comm (l₁ := [a]) (l₂ := l ++ m)).cons b))

section
variable {sp : Nat} {k : Skn} {A0 A : Dsk} {W0 w : World} {fp0 : List Nat} {on : List UInt8} {l0 : List Rc} {nn : Nat} {o0 o1 : Int} {B0 b off : Nat} {X0 : List (Nat × List Rc)} {last0 j cnt : Nat} {fd : List Nat} {hv rv : Value} {Y : List (Nat × List Rc)}

theorem two_framesP {w w2 w3 : World} {q : Nat} {tv : Value} {fd2 fd3 : List Nat} (kk1 : Kept (fd ++ sofp sp hv rv) w w2) (nw : Newly w (fd ++ sofp sp hv rv) (wfp fd2 q tv)) (k23 : Kept (wfp fd2 q tv ++ [sp]) w2 w3) (n3 : Newly w2 (wfp fd2 q tv) fd3) :
    Kept (fd ++ sofp sp hv rv) w w3 ∧ Newly w (fd ++ sofp sp hv rv) fd3 :=
  ⟨kk1.trans k23 (fun z hz => by
    rcases List.mem_append.1 hz with h | h
    · exact nw z h
    · exact .inl (List.mem_append.2 (.inr (sofp_mem.2 (.inl (by simpa using h)))))), nw.trans n3 kk1.size⟩

/-- What a round leaves, behind merge. -/
def PassM (sp : Nat) (k : Skn) (A0 : Dsk) (W0 : World) (fp0 : List Nat) (on : List UInt8) (l0 : List Rc) (nn : Nat) (o0 o1 : Int) (B0 b off : Nat) (X0 : List (Nat × List Rc)) (last0 j cnt : Nat) (hv : Value) (w : World) (e : Ending) (w' : World) : Prop :=
  Six B0 w w' ∧ ∃ e', e = .returned (.int .i64 e') ∧ ((e' = 0 ∧ ∃ A fd rv Y, PassI sp k A0 W0 fp0 on l0 nn o0 B0 b off X0 last0 (j + 1) A fd cnt hv rv Y w') ∨ (e' ≠ 0 ∧ SorE9 B0 sp k A0 W0 fp0 on nn o0 o1 e' w'))

theorem newly_low {w : World} {fa fb : List Nat} (n : Newly w fa fb) (hB : B0 + 6 ≤ w.heap.size) (hf : ∀ z ∈ fa, z < B0 ∨ B0 + 6 ≤ z) : ∀ z ∈ fb, z < B0 ∨ B0 + 6 ≤ z := fun z hz => by
  rcases n z hz with h | h
  · exact hf z h
  · exact .inr (Nat.le_trans hB h)

theorem PassI.begins (I : PassI sp k A0 W0 fp0 on l0 nn o0 B0 b off X0 last0 j A fd cnt hv rv Y w) (hB0 : B0 + 6 ≤ w.heap.size) (hj : j < pcNI X0.length k.fan) (hX : X0.length ≤ 125) (hnn : nn ≤ 125) (ht : Tab W0) (htf : gTab ∉ fp0) (htm : k.temp.size ≤ 17) (hon : ∀ r, on ≠ rowB k.temp r) (h0 : ∀ r, lookA A0.1 (rowB k.temp r) = none)
    (hlast : last0 + X0.length + 1 < 1000000) (hjX : j < X0.length) (ho : o0 + 409 * (X0.length : Nat) ≤ o1) (ho1 : o1 ≤ 990000) :
    Calls Tryz.prog 81 #[.pointer (some ⟨sp, 0, none⟩)] w fun e w2 => Six B0 w w2 ∧
      ((∃ q, e = .returned (.tuple #[.pointer (some ⟨q, 0, none⟩), .int .i64 0]) ∧ Calls Tryz.prog 59 #[.pointer (some ⟨sp, 0, none⟩), pcVI b off X0.length k.fan j, .pointer (some ⟨q, 0, none⟩)] w2 (PassM sp k A0 W0 fp0 on l0 nn o0 o1 B0 b off X0 last0 j cnt hv w2)) ∨
       (e = .returned (.tuple #[.pointer none, .int .i64 7]) ∧ SorE9 B0 sp k A0 W0 fp0 on nn o0 o1 7 w2)) := by
  obtain ⟨p1, p2⟩ := I.ops
  have htw := (ht.kept I.kept htf).1
  have htd := apart_new I.new ht.lt htf
  have hassoc := pass_rows X0 Y k.fan j
  have hsz := I.size
  have hlenR : (X0.drop (j * k.fan) ++ Y).length ≤ 1000 := by
    rw [List.length_append, List.length_drop, I.ylen]
    omega
  refine (soBegin_any (M := Mw k.temp on) I.sor I.disk I.dis I.ext (cut_names _) htw htm (by omega) (by rw [List.length_map]; omega) (fun z hz => by
    simp only [List.mem_append, List.mem_map, List.mem_singleton] at hz
    rcases hz with ⟨v, hv9, rfl⟩ | rfl
    · intro e
      have h1 := rowN_inj e
      have := (I.good.2 v (List.mem_append.2 hv9)).1
      omega
    · exact hon _) (h0 _) (by omega)).mono ?_
  rintro e w2 ⟨B, ops1, kk1, ⟨q, fd2, tv, rv1, rfl, wk, s1, dis, nw, ns, ext, hpc⟩ | ⟨fd2, rfl, d2, s2, dis, n2, cr⟩⟩
  · refine ⟨.of_kept kk1 hB0 I.low, .inl ⟨q, rfl, ?_⟩⟩
    have hPc := hpc _ _ (I.pieces j (Nat.le_refl _) hj)
    have hlow2 := newly_low nw hB0 I.low
    have hsp : sp < B0 ∨ B0 + 6 ≤ sp := I.low sp (List.mem_append.2 (.inr (sofp_mem.2 (.inl rfl))))
    have hB2 : B0 + 6 ≤ w2.heap.size := Nat.le_trans hB0 kk1.size
    rw [hassoc, List.map_append, List.append_assoc, pcX_map] at s1
    rw [hassoc, List.map_append] at ext
    rw [hassoc, List.flatMap_append, List.length_append] at hsz
    have hgood := I.good
    rw [hassoc] at hgood
    have s1' : SoM w2 sp k cnt hv rv1 [] ((pcX X0 k.fan j).map (·.1) ++ ((X0.drop ((j + 1) * k.fan) ++ Y).map (·.1) ++ [last0 + j + 1])) (last0 + j + 1) := by rw [pcX_map]; exact s1
    have hu : IsI w2 (pcVI b off X0.length k.fan j) ((pcX X0 k.fan j).map (·.1)) := by rw [pcX_map]; exact hPc.1
    have hpl : (pcX X0 k.fan j).length ≤ 125 := by unfold pcX; rw [List.length_take, List.length_drop]; omega
    have hpd : (pcX X0 k.fan j).length ≤ (X0.drop (j * k.fan)).length := by unfold pcX; rw [List.length_take]; omega
    have hnmE : ∀ z ∈ ((rowN k.temp (last0 + j + 1)).data.toList, ([] : List Int), ([] : List Int)) :: ((pcX X0 k.fan j).map (rowE k.temp) ++ ((X0.drop ((j + 1) * k.fan) ++ Y).map (rowE k.temp) ++ [(on, [], [])])), Mw k.temp on z.1 := fun z hz => by
      rcases List.mem_cons.1 hz with rfl | hz
      · exact .inr ⟨_, rfl⟩
      · rcases List.mem_append.1 hz with hz | hz
        · obtain ⟨v, _, rfl⟩ := List.mem_map.1 hz
          exact .inr ⟨v.1, rfl⟩
        · exact cut_names _ z hz
    refine (soMerge_any (M := Mw k.temp on) (Eo := (X0.drop ((j + 1) * k.fan) ++ Y).map (rowE k.temp) ++ [(on, [], [])]) s1' wk dis (by simpa [List.append_assoc] using ext) hu (fun x n c hx => ?_) hnmE (rowN_may htm (by omega)).2 (htw.kept kk1 htd).1 (fun e => ?_) htm (fun x hx => ?_) ?_ (by omega) (by omega) (by omega)).mono ?_
    · obtain ⟨z1, z2, z3⟩ := hPc.2 x n c hx
      refine ⟨z1, fun e => ?_⟩
      rcases z3 with ⟨z3, _⟩ | z3
      · exact dis _ (sofp_mem.2 (.inr (.inr z3))) (wfp_mem.2 (.inl e))
      · exact z3 (List.mem_append.2 (.inl (wfp_mem.2 (.inl e))))
    · exact apart_new nw htw.lt htd e
    · obtain ⟨a1, a2, a3⟩ := hgood.2 x (List.mem_append.2 (.inl hx))
      exact ⟨by omega, a2, a3⟩
    · have := hgood.1
      rw [List.map_append] at this
      exact (List.nodup_append.1 this).1
    · rintro e w3 ⟨B3, fd3, rv3, Rl, e', rfl, d3, k23, n3, q1, q2, s3, ho3, he3, hd3, CS⟩
      have hsix : Six B0 w2 w3 := .of_kept k23 hB2 (fun z hz => by
        rcases List.mem_append.1 hz with h | h
        · exact hlow2 z h
        · simp only [List.mem_singleton] at h
          rw [h]; exact hsp)
      refine ⟨hsix, e', rfl, ?_⟩
      have hfr := two_framesP kk1 nw k23 n3
      have hcl := canR_le k.how ((pcX X0 k.fan j).flatMap (·.2))
      have hsf := sec_file (canR k.how ((pcX X0 k.fan j).flatMap (·.2)))
      have hu1 := used_rows k.temp (pcX X0 k.fan j)
      have hu2 := used_rows k.temp (X0.drop ((j + 1) * k.fan) ++ Y)
      have e0 : sec ([] : List Int).length = 0 := by decide
      rw [usedB_app, usedB_app, usedB_cons, usedB_nil] at CS
      dsimp only at CS
      have hn3 : Newly w (sofp sp hv rv) (sofp sp hv rv3) := fun z hz => by
        rcases sofp_mem.1 hz with h | h | h
        · exact ns z (sofp_mem.2 (.inl h))
        · exact ns z (sofp_mem.2 (.inr (.inl h)))
        · exact ns z (sofp_mem.2 (.inr (.inr (ho3 z h))))
      have hdis3 : ∀ z ∈ sofp sp hv rv3, z ∉ fd3 := fun z hz => hd3 z (by
        rcases sofp_mem.1 hz with h | h | h
        · exact sofp_mem.2 (.inl h)
        · exact sofp_mem.2 (.inr (.inl h))
        · exact sofp_mem.2 (.inr (.inr (ho3 z h))))
      have hops3 : o0 ≤ B3.2.ops ∧ B3.2.ops ≤ o1 := ⟨by omega, by omega⟩
      rcases CS with ⟨rfl, rfl, x3⟩ | ⟨rfl, rfl, ⟨F, x3⟩, hroom⟩ | ⟨rfl, c3⟩
      · exact .inl ⟨rfl, B3, fd3, rv3, _, I.next hB0 ops1 kk1 s1 dis nw ns hpc d3 k23 n3 q1 (by omega) s3 ho3 he3 hd3 x3 hnn⟩
      · refine .inr ⟨by decide, I.err hB0 d3 s3 hdis3 hfr.1 hfr.2 (fun z hz => (hn3 z hz).imp (fun h => List.mem_append.2 (.inr h)) id) hops3.1 hops3.2 (.inl ⟨⟨rfl, by omega⟩, _, x3, ?_, fun y hy => ?_, ?_⟩)⟩
        · have h9 : rowB k.temp (last0 + j + 1) = (rowN k.temp (last0 + j + 1)).data.toList := rfl
          simp only [List.map_cons, List.map_append, List.map_map, List.map_nil, h9]
          simpa [rowE, Function.comp_def, List.append_assoc] using perm_mid ((rowN k.temp (last0 + j + 1)).data.toList) on ((pcX X0 k.fan j).map (fun x => rowB k.temp x.1)) ((X0.drop ((j + 1) * k.fan) ++ Y).map (fun x => rowB k.temp x.1))
        · rw [← List.append_assoc, ← List.map_append] at hy
          rcases List.mem_append.1 hy with hy | hy
          · obtain ⟨v, hv9, rfl⟩ := List.mem_map.1 hy
            have := (hgood.2 v hv9).1
            omega
          · simp only [List.mem_singleton] at hy
            omega
        · rw [← List.append_assoc, ← List.map_append, ← hassoc, List.length_append, List.length_map, List.length_singleton]
          omega
      · exact .inr ⟨by decide, I.err hB0 d3 s3 hdis3 hfr.1 hfr.2 (fun z hz => (hn3 z hz).imp (fun h => List.mem_append.2 (.inr h)) id) hops3.1 hops3.2 (.inr ⟨rfl, c3.mono (fun _ h => h) (by omega)⟩)⟩
  · refine ⟨.of_kept kk1 hB0 I.low, .inr ⟨rfl, I.err hB0 d2 s2 dis kk1 n2 (fun z hz => .inl (List.mem_append.2 (.inr hz))) (by omega) (by omega) (.inr ⟨rfl, cr.mono (fun _ h => h) ?_⟩)⟩⟩
    have hu2 := used_rows k.temp (X0.drop (j * k.fan) ++ Y)
    have e0 : sec ([] : List Int).length = 0 := by decide
    rw [usedB_app, usedB_cons, usedB_nil]
    dsimp only
    omega
end

end Go.Proofs.YtgpbanjammipiaaGreatDoor

namespace Go.Proofs.YtgpbanjammipiaaGreatDoor
open Go.RowKit Go.Maps

/-- What sort leaves: l0 are the records that the source tells. -/
def SortP (sp : Nat) (k : Skn) (A0 : Dsk) (W0 : World) (fp0 : List Nat) (on : List UInt8) (l0 : List Rc) (er o0 o1 : Int) (e : Ending) (w' : World) : Prop :=
  (e = .returned (.int .i64 0) ∧ er = 0 ∧ ∃ B fd hv rv Rl last, Dk w' fd k.p B.1 B.2 ∧ SoM w' sp k l0.length hv rv [] Rl last ∧ (∀ z ∈ sofp sp hv rv, z ∉ fd) ∧ Kept fp0 W0 w' ∧ Newly W0 fp0 (fd ++ sofp sp hv rv) ∧ o0 ≤ B.2.ops ∧ B.2.ops ≤ o1 ∧ Ext A0 B [(on, fileB (canR k.how l0), fileB (canR k.how l0))]) ∨
  (∃ e', e = .returned (.int .i64 e') ∧ e' ≠ 0 ∧ SorE sp k A0 W0 fp0 on er l0.length o0 o1 e' w')

/-- Two steps' frames are one. -/
theorem two_frames {a b c d f : List Nat} {w w2 w3 : World} (k1 : Kept a w w2) (n1 : Newly w a b) (k2 : Kept c w2 w3) (n2 : Newly w2 c d) (ha : ∀ z ∈ a, z ∈ f) (hc : ∀ z ∈ c, z ∈ f ∨ z ∈ b) : Kept f w w3 ∧ Newly w f d := by
  have hc2 : ∀ z ∈ c, z ∈ f ∨ w.heap.size ≤ z := fun z hz => by
    rcases hc z hz with h | h
    · exact .inl h
    · exact (n1 z h).imp (ha z) id
  refine ⟨(k1.mono ha).trans k2 hc2, fun z hz => ?_⟩
  rcases n2 z hz with h | h
  · exact hc2 z h
  · exact .inr (Nat.le_trans k1.size h)

theorem parts_third {L fan : Nat} (hL : fan < L) (hf : 2 ≤ fan) : 3 * partsN L fan ≤ 2 * L := by
  unfold partsN
  have : (L - 1) / fan ≤ (L - 1) / 2 := Nat.div_le_div_left hf (by decide)
  omega

section
variable {sp q : Nat} {k : Skn} {A0 A B : Dsk} {W0 w w2 w3 : World} {fp0 : List Nat} {out : ByteArray} {on : List UInt8} {l0 tk : List Rc} {sid : Sid} {er e' : Int} {nn : Nat} {o0 o1 : Int} {fd fs fd2 fs2 : List Nat} {tv : Value} {cnt last : Nat} {hv rv hv2 rv2 : Value} {H : List Rc} {X : List (Nat × List Rc)} {x : Rc} {i : Bool} {rs : List Rc}

theorem SorE.mono (h : SorE sp k A0 W0 fp0 on er nn o0 o1 e' w) {fp1 : List Nat} {p0 p1 : Int} (hf : ∀ z ∈ fp0, z ∈ fp1) (h0 : p0 ≤ o0) (h1 : o1 ≤ p1) : SorE sp k A0 W0 fp1 on er nn p0 p1 e' w := by
  obtain ⟨B, fd, cnt, hv, rv, H, Rl, last, a1, a2, a3, a4, a5, a6, a7, a8⟩ := h
  exact ⟨B, fd, cnt, hv, rv, H, Rl, last, a1, a2, a3, a4.mono hf, fun z hz => (a5 z hz).imp (hf z) id, by omega, by omega, a8⟩

/-- The source's first records are all, and are written to out. -/
theorem sort_wrote (G : At3 w w2 fp0 sp k A0 A [(out.data.toList, [], [])] fd2 fs2 l0.length hv2 rv2 H [] 0 sid x i rs er) (her : er = 0) {c : Int} {e : Ending} {fp1 : List Nat} (hf : ∀ z ∈ fp0, z ∈ fp1) (hq : ∀ z ∈ q :: own tv, z ∈ fp1)
    (P : WriteP k.p out A0 [] (Mw k.temp out.data.toList) (fun w ff S => ∃ hv, SoM w sp k l0.length hv rv2 S [] 0 ∧ ff = sofp sp hv rv2 ∧ S.length ≤ 100000) (fun w ff => ∃ hv H, SoM w sp k l0.length hv rv2 H [] 0 ∧ ff = sofp sp hv rv2) w2 (wfp fd2 q tv ++ sofp sp hv2 rv2) A c (canR k.how l0) e w3)
    (p0 : o0 ≤ A.2.ops) (p1 : A.2.ops + c ≤ o1) : SortP sp k A0 w fp1 out.data.toList l0 er o0 o1 e w3 := by
  obtain ⟨B, kc, fd3, ff3, rfl, d3, ds3, K3, N3, q1, q2, CS⟩ := P
  have hfr := two_frames (f := fp1) (b := fd2 ++ (sofp sp hv2 rv2 ++ fs2)) G.fr.kept G.fr.new K3 N3 hf (fun z hz => by
    rcases List.mem_append.1 hz with h | h
    · rcases wfp_mem.1 h with h | h | h
      · exact .inr (List.mem_append.2 (.inl h))
      · exact .inl (hq z (by simp [h]))
      · exact .inl (hq z (by simp [h]))
    · exact .inr (List.mem_append.2 (.inr (List.mem_append.2 (.inl h)))))
  have hsec := sec_file (canR k.how l0)
  have hle := canR_le k.how l0
  rw [usedB_nil] at CS
  rcases CS with ⟨rfl, ⟨hv4, s4, rfl, _⟩, x4⟩ | ⟨rfl, ⟨hv4, H4, s4, rfl⟩, ⟨F, x4⟩, hroom⟩ | ⟨rfl, ⟨hv4, H4, s4, rfl⟩, c4⟩
  · exact .inl ⟨rfl, her, B, fd3, hv4, rv2, [], 0, d3, s4, ds3, hfr.1, hfr.2, by omega, by omega, x4⟩
  · exact .inr ⟨6, rfl, by decide, B, fd3, _, hv4, rv2, H4, [], 0, d3, s4, ds3, hfr.1, hfr.2, by omega, by omega, .inl ⟨.inr ⟨rfl, by omega⟩, _, x4, by simp, by simp, by simp⟩⟩
  · exact .inr ⟨7, rfl, by decide, B, fd3, _, hv4, rv2, H4, [], 0, d3, s4, ds3, hfr.1, hfr.2, by omega, by omega, .inr ⟨rfl, c4.mono (fun _ h => h) (by omega)⟩⟩

/-- There is more than is held: cut begins. -/
theorem cut_start (G : At3 w w2 fp0 sp k A0 A [(on, [], [])] fd2 fs2 tk.length hv2 rv2 (sortR [] tk) [] 0 sid x true rs er) (hL : l0 = tk ++ lst true x rs) (hfull : tk.length = k.bud) (hok : ∀ y ∈ l0, okR y) :
    CutL sp k A0 w fp0 on l0 sid er l0.length A.2.ops A fd2 fs2 tk.length hv2 rv2 (sortR [] tk) [] x true rs w2 := by
  have htl : (sortR [] tk).length = tk.length := by rw [sortR_length]; simp
  refine ⟨by simpa using G, ⟨by simp, by simp⟩, ?_, fun y hy => hok y (by rw [hL]; exact List.mem_append.2 (.inr hy)), by rw [hL, List.length_append], by rw [htl]; simp, ⟨fun _ => by rw [htl]; exact hfull, by rw [htl]; omega, fun h => by cases h⟩, .inl (by rw [htl]; simp), by omega, ?_⟩
  · rw [hL]
    simp only [List.flatMap_nil, List.nil_append]
    exact (Like.of_perm (by simpa using sortR_perm [] tk)).append (Like.refl _ _)
  · rw [htl]; simp

/-- All is cut: the rows. -/
theorem CutL.rows (C : CutL sp k A0 W0 fp0 on l0 sid er nn o0 A fd fs cnt hv rv [] X x i rs w) (hb : 0 < k.bud) (hn : 0 < nn) : RowsS sp k A0 W0 fp0 on l0 nn A fd nn hv rv X X.length w ∧ er = 0 ∧ 0 < X.length := by
  have hi : i = false := by
    cases hi : i with
    | false => rfl
    | true =>
      have := C.full.1 hi
      simp at this
      omega
  have hc : cnt = nn := by
    have h1 := C.cnts
    rw [hi] at h1
    simpa [lst] using h1
  have hX : 0 < X.length := by
    rcases C.cut with h | ⟨_, _, _, h⟩
    · cases hX : X.length with
      | zero => rw [hX] at h; simp at h; omega
      | succ _ => omega
    · cases hX : X.length with
      | zero => rw [hX] at h; simp at h; omega
      | succ _ => omega
  have hlk := C.like
  rw [hi] at hlk
  simp only [lst, List.append_nil, if_false, Bool.false_eq_true] at hlk
  have hs := C.size
  simp only [List.length_nil, Nat.add_zero] at hs
  refine ⟨⟨C.at3.disk, hc ▸ C.at3.sorter, C.at3.fr.ab, C.at3.fr.kept, fun z hz => C.at3.fr.new z ?_, C.at3.ext, C.good, hlk, by omega⟩, C.full.2.2 hi, hX⟩
  rcases List.mem_append.1 hz with h | h
  · exact List.mem_append.2 (.inl h)
  · exact List.mem_append.2 (.inr (List.mem_append.2 (.inl h)))

/-- The rows are merged to out. -/
theorem sort_merged (R : RowsS sp k A0 w fp0 out.data.toList l0 l0.length A fd2 l0.length hv2 rv2 X last w2) (her : er = 0) (hok : ∀ y ∈ l0, okR y) (hlast : last < 1000000) (hXl : X.length ≤ 100000) {o2 o3 : Int} {e : Ending} {fp1 : List Nat} (hf : ∀ z ∈ fp0, z ∈ fp1) (hq : ∀ z ∈ q :: own tv, z ∈ fp1)
    (P : MergeP sp k A0 (Mw k.temp out.data.toList) w2 (wfp fd2 q tv) o2 o3 l0.length hv2 rv2 [] X [] last out (canR k.how (X.flatMap (·.2))) [] e w3) (p0 : o0 ≤ o2) (p1 : o3 ≤ o1) : SortP sp k A0 w fp1 out.data.toList l0 er o0 o1 e w3 := by
  have hcan : canR k.how (X.flatMap (·.2)) = canR k.how l0 := R.like.can (fun y hy => by
    obtain ⟨v, hv, hy⟩ := List.mem_flatMap.1 hy
    exact (R.good.2 v hv).2.1 y hy) hok
  rw [hcan] at P
  obtain ⟨B, fd3, rv3, Rl, e', rfl, d3, K3, N3, q1, q2, s3, ho, he, hd3, CS⟩ := P
  have hin : ∀ z ∈ wfp fd2 q tv ++ [sp], z ∈ fp1 ∨ z ∈ fd2 ++ sofp sp hv2 rv2 := fun z hz => by
    rcases List.mem_append.1 hz with h | h
    · rcases wfp_mem.1 h with h | h | h
      · exact .inr (List.mem_append.2 (.inl h))
      · exact .inl (hq z (by simp [h]))
      · exact .inl (hq z (by simp [h]))
    · exact .inr (List.mem_append.2 (.inr (sofp_mem.2 (.inl (by simpa using h)))))
  have hso : ∀ z ∈ sofp sp hv2 rv3, z ∈ sofp sp hv2 rv2 := fun z hz => by
    rcases sofp_mem.1 hz with h | h | h
    · exact sofp_mem.2 (.inl h)
    · exact sofp_mem.2 (.inr (.inl h))
    · exact sofp_mem.2 (.inr (.inr (ho z h)))
  have hfr := two_frames (f := fp1) R.kept R.new K3 (fun z hz => (N3 z hz).imp (fun h => List.mem_append.2 (.inl h)) id) hf hin
  have hnew : Newly w fp1 (fd3 ++ sofp sp hv2 rv3) := fun z hz => by
    rcases List.mem_append.1 hz with h | h
    · exact hfr.2 z h
    · exact (R.new z (List.mem_append.2 (.inr (hso z h)))).imp (hf z) id
  have hdis : ∀ z ∈ sofp sp hv2 rv3, z ∉ fd3 := fun z hz => hd3 z (hso z hz)
  have hsec := sec_file (canR k.how l0)
  have hle := canR_le k.how l0
  have hus := used_rows k.temp X
  have hsz := R.size
  rw [usedB_app, usedB_nil] at CS
  rcases CS with ⟨rfl, rfl, x4⟩ | ⟨rfl, rfl, ⟨F, x4⟩, hroom⟩ | ⟨rfl, c4⟩
  · exact .inl ⟨rfl, her, B, fd3, hv2, rv3, [], last, d3, s3, hdis, hfr.1, hnew, by omega, by omega, x4⟩
  · refine .inr ⟨6, rfl, by decide, B, fd3, _, hv2, rv3, [], _, last, d3, s3, hdis, hfr.1, hnew, by omega, by omega, .inl ⟨.inr ⟨rfl, by omega⟩, _, x4, ?_, fun y hy => ?_, by simp; omega⟩⟩
    · simp [rowE, Function.comp_def]
    · simp only [List.append_nil, List.mem_map] at hy
      obtain ⟨v, hv, rfl⟩ := hy
      have := (R.good.2 v hv).1
      omega
  · exact .inr ⟨7, rfl, by decide, B, fd3, _, hv2, rv3, [], _, last, d3, s3, hdis, hfr.1, hnew, by omega, by omega, .inr ⟨rfl, c4.mono (fun _ h => h) (by omega)⟩⟩

/-- An error of fill. -/
theorem sort_filled {fd3 : List Nat} {hv' : Value} {H' : List Rc} {cnt' : Nat} (G : At3 w w2 fp0 sp k A0 A [(on, [], [])] fd2 fs2 cnt hv2 rv2 H [] 0 sid x i rs er) (d : Dk w3 fd3 k.p B.1 B.2) (s : SoM w3 sp k cnt' hv' rv2 H' [] 0) (hd : ∀ z ∈ sofp sp hv' rv2, z ∉ fd3) (kk : Kept (fd2 ++ (sofp sp hv2 rv2 ++ fs2)) w2 w3) (n : Newly w2 (fd2 ++ (sofp sp hv2 rv2 ++ fs2)) (fd3 ++ sofp sp hv' rv2))
    (p0 : o0 ≤ B.2.ops) (p1 : B.2.ops ≤ o1) (hc : (e' = er ∧ er ≠ 0 ∧ Ext A0 B [(on, [], [])]) ∨ (e' = 7 ∧ Cr A0 B (Mw k.temp on) (usedB [(on, ([] : List Int), ([] : List Int))]))) : e' ≠ 0 ∧ SorE sp k A0 w fp0 on er nn o0 o1 e' w3 := by
  have hfr := two_frames (f := fp0) G.fr.kept G.fr.new kk n (fun _ h => h) (fun z hz => .inr hz)
  rcases hc with ⟨rfl, h2, hx⟩ | ⟨rfl, c⟩
  · exact ⟨h2, B, fd3, cnt', hv', rv2, H', [], 0, d, s, hd, hfr.1, hfr.2, p0, p1, .inl ⟨.inl ⟨rfl, h2⟩, _, hx, by simp, by simp, by simp⟩⟩
  · refine ⟨by decide, B, fd3, cnt', hv', rv2, H', [], 0, d, s, hd, hfr.1, hfr.2, p0, p1, .inr ⟨rfl, c.mono (fun _ h => h) ?_⟩⟩
    rw [usedB_cons, usedB_nil]
    have e0 : sec ([] : List Int).length = 0 := by decide
    dsimp only
    omega
end

end Go.Proofs.YtgpbanjammipiaaGreatDoor

namespace Go.Proofs.YtgpbanjammipiaaGreatDoor
open Go.RowKit Go.Maps Go.Shelf

attribute [local go_sem] Oper.semAt_some

/-- What pass leaves. -/
def PassP (sp : Nat) (k : Skn) (A0 : Dsk) (W0 : World) (fp0 : List Nat) (on : List UInt8) (l0 : List Rc) (nn : Nat) (A : Dsk) (cnt : Nat) (hv : Value) (X : List (Nat × List Rc)) (last : Nat) (er o0 o1 : Int) (e : Ending) (w' : World) : Prop :=
  (e = .returned (.int .i64 0) ∧ ∃ A' fd' rv' X' last', RowsS sp k A0 W0 fp0 on l0 nn A' fd' cnt hv rv' X' last' w' ∧ X'.length = partsN X.length k.fan ∧ last' ≤ last + X.length ∧ A.2.ops ≤ A'.2.ops ∧ A'.2.ops ≤ A.2.ops + 405 * (partsN X.length k.fan : Nat) + 4 * (X.length : Nat)) ∨
  (∃ e', e = .returned (.int .i64 e') ∧ e' ≠ 0 ∧ SorE sp k A0 W0 fp0 on er nn o0 o1 e' w')

/-- The loop's own boxes: the sorter's pointer, and the result. -/
def Bx2 (B0 sp : Nat) (r : Int) (w : World) : Prop := w.heap[B0]? = some (.cells #[.pointer (some ⟨sp, 0, none⟩)] 72 (0, 0)) ∧ w.heap[B0 + 1]? = some (.cells #[.int .i64 r] 27 (0, 0))

theorem res_pass (tmps : Array Value) (w : World) (B : Nat) (v : Int) (hp : tmps.getD 2 undef = .pointer (some ⟨B, 0, none⟩)) (hc : w.cell? ⟨B, 0, none⟩ = some (.int .i64 v)) : (results Tryz.f58 tmps).run Tryz.prog w = .ok (.int .i64 v) w := by
  have hp' : tmps[2]?.getD undef = .pointer (some ⟨B, 0, none⟩) := by simpa using hp
  simp [results, hp', asAddr, loadVar, go_sem, hc]

/-- pass's loop behind the pieces of pre. -/
def PassJ (sp : Nat) (k : Skn) (A0 : Dsk) (W0 : World) (fp0 : List Nat) (on : List UInt8) (l0 : List Rc) (nn : Nat) (o0 : Int) (B0 b off : Nat) (X0 : List (Nat × List Rc)) (last0 cnt : Nat) (hv : Value) (pre : List Nat) (W : World) : Prop :=
  ∃ A fd rv Y, PassI sp k A0 W0 fp0 on l0 nn o0 B0 b off X0 last0 pre.length A fd cnt hv rv Y W ∧ Bx2 B0 sp 0 W

/-- .. where it is left. -/
def PassX (sp : Nat) (k : Skn) (A0 : Dsk) (W0 : World) (fp0 : List Nat) (on : List UInt8) (l0 : List Rc) (nn : Nat) (o0 o1 : Int) (B0 b off : Nat) (X0 : List (Nat × List Rc)) (last0 cnt : Nat) (hv : Value) (c : Code) (W : World) : Prop :=
  (c = .ret ∧ ∃ e', Bx2 B0 sp e' W ∧ SorE9 B0 sp k A0 W0 fp0 on nn o0 o1 e' W) ∨
  (c = .exit 0 ∧ ∃ j A fd rv Y, j < pcNI X0.length k.fan ∧ X0.length - j * k.fan = 1 ∧ PassI sp k A0 W0 fp0 on l0 nn o0 B0 b off X0 last0 j A fd cnt hv rv Y W ∧ Bx2 B0 sp 0 W)

section
variable {sp : Nat} {k : Skn} {A0 A : Dsk} {W0 w w' : World} {fp0 fq : List Nat} {on : List UInt8} {l0 : List Rc} {nn : Nat} {o0 o1 : Int} {B0 b off : Nat} {X0 : List (Nat × List Rc)} {last0 cnt : Nat} {hv : Value} {pre : List Nat} {r : Int} {c : Code}

theorem Bx2.stay (h : Bx2 B0 sp r w) (hk : Kept fq w w') (hq : ∀ z ∈ fq, z ≠ B0 ∧ z ≠ B0 + 1) : Bx2 B0 sp r w' :=
  ⟨hk.heap9 h.1 (fun e => (hq _ e).1 rfl), hk.heap9 h.2 (fun e => (hq _ e).2 rfl)⟩
theorem Bx2.six (h : Bx2 B0 sp r w) (hk : Six B0 w w') : Bx2 B0 sp r w' := ⟨(hk.2.2 _ (Nat.le_refl _) (by omega)).trans h.1, (hk.2.2 _ (by omega) (by omega)).trans h.2⟩
theorem Bx2.set (h : Bx2 B0 sp r w) (e' : Int) : Bx2 B0 sp e' (w.setCell ⟨B0 + 1, 0, none⟩ (.int .i64 e')) ∧ Kept [B0 + 1] w (w.setCell ⟨B0 + 1, 0, none⟩ (.int .i64 e')) := by
  have hk : Kept [B0 + 1] w (w.setCell ⟨B0 + 1, 0, none⟩ (.int .i64 e')) := (Kept.refl _ _).setCell (.inl (by simp)) _
  exact ⟨⟨hk.heap9 h.1 (by simp), heap_setCell h.2 0 (.int .i64 e')⟩, hk⟩

theorem PassJ.stay (h : PassJ sp k A0 W0 fp0 on l0 nn o0 B0 b off X0 last0 cnt hv pre w) (hk : Kept fq w w') (hq : ∀ z ∈ fq, B0 + 2 ≤ z ∧ z < B0 + 6) (hB : W0.heap.size ≤ B0) (hb : b < B0) : PassJ sp k A0 W0 fp0 on l0 nn o0 B0 b off X0 last0 cnt hv pre w' := by
  obtain ⟨A, fd, rv, Y, I, x⟩ := h
  exact ⟨A, fd, rv, Y, I.stay hk (fun z hz => by have := hq z hz; omega) hB hb, x.stay hk (fun z hz => by have := hq z hz; omega)⟩

theorem PassX.stay (h : PassX sp k A0 W0 fp0 on l0 nn o0 o1 B0 b off X0 last0 cnt hv c w) (hk : Kept fq w w') (hq : ∀ z ∈ fq, B0 + 2 ≤ z ∧ z < B0 + 6) (hB : W0.heap.size ≤ B0) (hb : b < B0) : PassX sp k A0 W0 fp0 on l0 nn o0 o1 B0 b off X0 last0 cnt hv c w' := by
  rcases h with ⟨hc, e', x, E⟩ | ⟨hc, j, A, fd, rv, Y, h1, h2, I, x⟩
  · exact .inl ⟨hc, e', x.stay hk (fun z hz => by have := hq z hz; omega), E.stay hk (fun z hz => by have := hq z hz; omega) hB⟩
  · exact .inr ⟨hc, j, A, fd, rv, Y, h1, h2, I.stay hk (fun z hz => by have := hq z hz; omega) hB hb, x.stay hk (fun z hz => by have := hq z hz; omega)⟩

theorem keepCI_of_kept {W W' : World} {B1 B2 : Nat} (hk : Kept fq W W') (hB1 : B1 < W.heap.size) (hB2 : B2 < W.heap.size) (h1 : B1 ∉ fq) (h2 : B2 ∉ fq) : KeepCI 0 B1 B2 W W' :=
  ⟨hk.below (Nat.zero_le _) (fun _ _ => Nat.zero_le _), World.cell?_of_block (w := W) (hk.block B1 hB1 h1), World.cell?_of_block (w := W) (hk.block B2 hB2 h2)⟩
theorem Six.keepCI {W W' : World} (h : Six B0 W W') : KeepCI 0 (B0 + 2) (B0 + 3) W W' := ⟨h.1, World.cell?_of_block (w := W) (h.2.2 (B0 + 2) (by omega) (by omega)), World.cell?_of_block (w := W) (h.2.2 (B0 + 3) (by omega) (by omega))⟩
theorem Six.two {W W' : World} (h : Six B0 W W') : Two9 (B0 + 4) W W' := ⟨h.2.2 _ (by omega) (by omega), h.2.2 _ (by omega) (by omega)⟩

/-- The loop is at its end: the rows. -/
theorem PassI.ended {j : Nat} {fd : List Nat} {rv : Value} {Y : List (Nat × List Rc)} (I : PassI sp k A0 W0 fp0 on l0 nn o0 B0 b off X0 last0 j A fd cnt hv rv Y w) (hX : 0 < X0.length) (hf : 0 < k.fan) (hj : j = pcNI X0.length k.fan ∨ (j < pcNI X0.length k.fan ∧ X0.length - j * k.fan = 1))
    (hk : Kept fq w w') (hq : ∀ z ∈ fq, B0 ≤ z ∧ z < B0 + 6) (hB : W0.heap.size ≤ B0) :
    ∃ X' last', RowsS sp k A0 W0 fp0 on l0 nn A fd cnt hv rv X' last' w' ∧ X'.length = partsN X0.length k.fan ∧ last' ≤ last0 + X0.length ∧ o0 ≤ A.2.ops ∧ A.2.ops ≤ o0 + 405 * (partsN X0.length k.fan : Nat) + 4 * (X0.length : Nat) := by
  have hp := partsN_pc hX hf
  have hlen : (X0.drop (j * k.fan) ++ Y).length = partsN X0.length k.fan := by
    rw [List.length_append, List.length_drop, I.ylen, ← hp]
    rcases hj with hj | ⟨hj, h1⟩
    · have := (pcN_ltI (len := X0.length) (k := j) hf)
      have h9 : ¬ j < pcNI X0.length k.fan := by omega
      rw [this] at h9
      omega
    · have h8 := (pcN_ltI (len := X0.length) (k := j + 1) hf)
      have h9 : ¬ (j + 1) * k.fan < X0.length := by rw [Nat.add_mul]; omega
      rw [← h8] at h9
      omega
  have hple : partsN X0.length k.fan ≤ X0.length := by
    unfold partsN
    have : (X0.length - 1) / k.fan ≤ X0.length - 1 := Nat.div_le_self _ _
    omega
  have hjl : j ≤ partsN X0.length k.fan := by rw [← hp]; rcases hj with h | ⟨h, _⟩ <;> omega
  obtain ⟨p1, p2⟩ := I.ops
  exact ⟨_, _, I.rows.stay hk (fun z hz => ⟨fun e => by have h1 := I.low z e; have h2 := hq z hz; omega, by have := hq z hz; omega⟩), hlen, by omega, p1, by omega⟩
end

/-- It ends as it should, and then R holds. -/
def OnlyN (R : Act → World → Prop) : Exit → Act → World → Prop
  | .normal, a, w => R a w
  | _, _, _ => False

theorem wp_onlyN {c : Code} {P : Program} {R : Act → World → Prop} {Q : Exit → Act → World → Prop} {a : Act} {w : World} (h : c.wp P (OnlyN R) a w) (hq : ∀ a w, R a w → Q .normal a w) : c.wp P Q a w :=
  wp_mono h (fun e a w he => by cases e <;> first | exact hq a w he | exact False.elim he)

section
variable {sp : Nat} {k : Skn} {A0 A : Dsk} {W0 w : World} {fp0 : List Nat} {on : List UInt8} {l0 : List Rc} {nn : Nat} {o0 o1 er : Int} {X : List (Nat × List Rc)} {last cnt : Nat} {fd : List Nat} {hv rv : Value}

set_option maxRecDepth 100000 in
set_option maxHeartbeats 4000000 in
theorem soPass_any (R : RowsS sp k A0 W0 fp0 on l0 nn A fd cnt hv rv X last w) (hX : 0 < X.length) (hX2 : X.length ≤ 125) (hnn : nn ≤ 125) (hf : 2 ≤ k.fan) (hf2 : k.fan ≤ 100000) (ht : Tab W0) (htf : gTab ∉ fp0) (htm : k.temp.size ≤ 17) (hon : ∀ r, on ≠ rowB k.temp r) (h0 : ∀ r, lookA A0.1 (rowB k.temp r) = none)
    (hlast : last + X.length + 1 < 1000000) (ho0 : o0 ≤ A.2.ops) (ho : A.2.ops + 409 * (X.length : Nat) ≤ o1) (ho1 : o1 ≤ 990000) :
    Calls Tryz.prog 58 #[.pointer (some ⟨sp, 0, none⟩)] w (PassP sp k A0 W0 fp0 on l0 nn A cnt hv X last er o0 o1) := by
  obtain ⟨_, _, _, s3, _, _, s8, _, _⟩ := R.sor.cellAt
  have hsl := R.sor.lt sp (sofp_mem.2 (.inl rfl))
  obtain ⟨b, off, cap, hrv, hcap, hbl⟩ : ∃ b off cap, rv = .slice (some ⟨b, off, none⟩) X.length cap ∧ X.length ≤ cap ∧ b < w.heap.size := by
    rcases R.sor.rows with ⟨_, e⟩ | ⟨g, off, cap, cur, e, h1, _, h2, _⟩
    · rw [List.map_eq_nil_iff] at e
      rw [e] at hX
      exact absurd hX (by simp)
    · rw [List.length_map] at e h1
      exact ⟨g, off, cap, e, h1, heap_lt h2⟩
  obtain ⟨len, hlen⟩ : ∃ n, n = X.length := ⟨_, rfl⟩
  rw [← hlen] at hrv hcap
  rw [hrv] at s8
  obtain ⟨fan, hfan⟩ : ∃ f, f = k.fan := ⟨_, rfl⟩
  rw [← hfan] at s3 hf hf2
  have HH := hide (And.intro R (And.intro hX (And.intro hX2 (And.intro hnn (And.intro ht (And.intro htf (And.intro htm (And.intro hon (And.intro h0 (And.intro hlast (And.intro ho0 (And.intro ho (And.intro ho1 (And.intro hrv (And.intro hlen (And.intro hfan (And.intro hbl (And.intro hf (And.intro hf2 hcap)))))))))))))))))))
  have hlen5 : len ≤ 125 := by omega
  have hlen0 : 0 < len := by omega
  clear R hX hX2 hnn ht htf htm hon h0 hlast ho0 ho ho1 hrv hlen hfan hbl
  have hfw : ∀ f, Fence.wide.fn f := fun _ => trivial
  refine (callsIn_wide (n := 4)).1 (callsIn_of_wp_marks Tryz.func58 rfl trivial ?_ rfl)
  refine wpIn_wide.2 ?_
  simp only [Tryz.ntmps58, List.size_toArray, List.length_cons, List.length_nil, Nat.reduceAdd, Nat.reduceSub, Array.replicate_succ, Array.replicate_zero, List.push_toArray, List.append_toArray, List.nil_append, List.cons_append]
  go_upto_region 1 with fail
  rename_i K2 h2 K1 h1
  have HK2 := hide h2
  have HK1 := hide h1
  clear h1 h2
  obtain ⟨w2, hw2⟩ : ∃ w2, w2 = (w.alloc (.cells #[.pointer (some ⟨sp, 0, none⟩)] 72)).alloc (.cells #[.int .i64 0] 27) := ⟨_, rfl⟩
  rw [← hw2]
  have b2 : Below w.heap.size w w2 := by rw [hw2]; exact ((Below.refl _ w).alloc (Nat.le_refl _) _).alloc (by simp) _
  have z2 : w2.heap.size = w.heap.size + 2 := by rw [hw2, World.size_alloc, World.size_alloc]
  have x2 : Bx2 w.heap.size sp 0 w2 := by
    rw [hw2]
    have e2 := heap_alloc_new (w.alloc (.cells #[.pointer (some ⟨sp, 0, none⟩)] 72)) (.cells #[.int .i64 0] 27)
    rw [World.size_alloc] at e2
    exact ⟨((Kept.refl [] _).alloc _).heap (heap_alloc_new w _) (by simp), e2⟩
  have k2 : Kept [] w w2 := Kept.of_below b2
  have c1 : w2.cell? ⟨w.heap.size, 0, none⟩ = some (.pointer (some ⟨sp, 0, none⟩)) := cell_of_heap x2.1 0
  have t3 : w2.cell? ⟨sp, 3, none⟩ = some (.int .i64 (fan : Int)) := k2.cell s3 (by simp)
  have t8 : w2.cell? ⟨sp, 8, none⟩ = some (.slice (some ⟨b, off, none⟩) len cap) := k2.cell s8 (by simp)
  have H2 := hide (And.intro b2 (And.intro z2 (And.intro x2 k2)))
  clear hw2 b2 z2 x2 k2 s3 s8
  have CH : Hid (Calls Tryz.prog 82 #[.slice (some ⟨b, off, none⟩) len cap, .int .i64 (fan : Int)] w2.drew fun e w' => e = .returned (.func (.func 108) #[] #[.pointer (some ⟨w2.heap.size, 0, none⟩), .pointer (some ⟨w2.heap.size + 1, 0, none⟩)]) ∧
      w'.cell? ⟨w.heap.size, 0, none⟩ = some (.pointer (some ⟨sp, 0, none⟩)) ∧ w'.cell? ⟨sp, 3, none⟩ = some (.int .i64 (fan : Int)) ∧ w'.cell? ⟨sp, 8, none⟩ = some (.slice (some ⟨b, off, none⟩) len cap) ∧ Hid (w' = (w2.drew.alloc (.cells #[.slice (some ⟨b, off, none⟩) len cap] 75)).alloc (.cells #[.int .i64 fan] 3))) := by
    refine (callsIn_wide.1 (chunk_inI 0 (some ⟨b, off, none⟩) len cap fan (by omega) w2.drew)).mono ?_
    rintro e w' ⟨rfl, e3⟩
    have k3 : Kept [] w2 w' := by rw [e3]; exact ((Kept.refl [] w2).drew.alloc _).alloc _
    exact ⟨rfl, k3.cell c1 (by simp), k3.cell t3 (by simp), k3.cell t8 (by simp), e3⟩
  obtain ⟨ts9, hts9⟩ : ∃ ts : Array Value → Prop, ts = fun t => t = #[.pointer (some ⟨sp, 0, none⟩), .pointer (some ⟨w.heap.size, 0, none⟩), .pointer (some ⟨w.heap.size + 1, 0, none⟩), undef, undef, undef, undef, .pointer (some ⟨sp, 0, none⟩), .pointer (some ⟨sp, 0, none⟩), .pointer (some ⟨sp, 8, none⟩), .slice (some ⟨b, off, none⟩) len cap, .pointer (some ⟨sp, 0, none⟩), .pointer (some ⟨sp, 0, none⟩), .pointer (some ⟨sp, 3, none⟩), .int .i64 (fan : Int),
      .func (.func 108) #[] #[.pointer (some ⟨w2.heap.size, 0, none⟩), .pointer (some ⟨w2.heap.size + 1, 0, none⟩)], undef, undef, undef, undef, undef, undef, undef, undef, undef, undef, undef, undef, undef, undef, undef, undef, undef, undef, undef] := ⟨_, rfl⟩
  have HTS := hide hts9
  refine wp_onlyN (R := fun a' W' => Hid (W' = (w2.drew.alloc (.cells #[.slice (some ⟨b, off, none⟩) len cap] 75)).alloc (.cells #[.int .i64 fan] 3)) ∧ ∃ t, a' = ⟨t, []⟩ ∧ ts9 t) ?_ ?_
  · clear hts9
    go_region_held (fun W => W.cell? ⟨w.heap.size, 0, none⟩ = some (.pointer (some ⟨sp, 0, none⟩)) ∧ W.cell? ⟨sp, 3, none⟩ = some (.int .i64 (fan : Int)) ∧ W.cell? ⟨sp, 8, none⟩ = some (.slice (some ⟨b, off, none⟩) len cap)) (exact ⟨by assumption, by assumption, by assumption⟩)
      (first | (go_at_call 82; refine CH.out.mono ?_; rintro e w3 ⟨rfl, a1, a2, a3, e3⟩))
    refine ⟨e3, _, rfl, ?_⟩
    rw [HTS.out]
  rintro a' w3 ⟨e3, t, rfl, ht⟩
  rw [hts9] at ht
  subst ht
  clear hts9 HTS CH
  show K1 _ _
  refine HK1.out _ _ ?_
  refine wp_block ?_
  refine (wpIn_wide (n := 4)).1 ?_
  obtain ⟨b2, z2, x2, k2⟩ := H2.out
  have k23 : Kept [] w2 w3 := by rw [e3.out]; exact ((Kept.refl [] w2).drew.alloc _).alloc _
  have z3 : w3.heap.size = w.heap.size + 4 := by rw [e3.out, World.size_alloc, World.size_alloc]; show w2.heap.size + 1 + 1 = _; omega
  have k03 : Kept [] w w3 := k2.trans k23 (fun _ h => by simp at h)
  have h1 : w3.cell? ⟨w2.heap.size, 0, none⟩ = some (.slice (some ⟨b, off, none⟩) len cap) := by
    rw [e3.out]
    exact cell_alloc (cell_of_heap (heap_alloc_new w2.drew (.cells #[.slice (some ⟨b, off, none⟩) len cap] 75)) 0) _
  have h2 : w3.cell? ⟨w2.heap.size + 1, 0, none⟩ = some (.int .i64 fan) := by
    have e2 := heap_alloc_new (w2.drew.alloc (.cells #[.slice (some ⟨b, off, none⟩) len cap] 75)) (.cells #[.int .i64 fan] 3)
    rw [World.size_alloc] at e2
    rw [e3.out]
    exact cell_of_heap e2 0
  obtain ⟨R, hX, hX2, hnn, ht, htf, htm, hon, h0, hlast, ho0, ho, ho1, hrv, hlen, hfan, hbl, hf, hf2, hcap⟩ := HH.out
  have hWB : W0.heap.size ≤ w.heap.size := R.kept.size
  have I0 : PassI sp k A0 W0 fp0 on l0 nn A.2.ops w.heap.size b off X last 0 A fd cnt hv rv [] w3 :=
    (PassI.start R (ad := some ⟨b, off, none⟩) (cap := cap) (by rw [hrv, hlen]) (fun _ => rfl) hX (by omega) (Nat.le_refl _)).stay k03 (by simp) hWB hbl
  have x3 : Bx2 w.heap.size sp 0 w3 := x2.stay k23 (by simp)
  have HI0 := hide (And.intro I0 x3)
  have H3 := hide (And.intro k03 (And.intro z3 (And.intro k23 (And.intro hWB hbl))))
  clear R hX hX2 hnn ht htf htm hon h0 hlast ho0 ho ho1 hrv hlen hfan hbl I0 x3 k03 k23 x2 k2 b2 hWB e3 c1 t3 t8
  have hz2 : w2.heap.size = w.heap.size + 2 := z2
  refine range_walks rfl (by omega) (gf := 108) (lb := #[.pointer (some ⟨w2.heap.size, 0, none⟩), .pointer (some ⟨w2.heap.size + 1, 0, none⟩)]) rfl trivial (enters_of Tryz.func108 (by kernel_rfl) rfl)
    (chunk_stopsI 3 (by omega) w2.heap.size (w2.heap.size + 1) b off len cap fan (some ⟨b, off, none⟩) (fun _ => rfl) hcap (by omega) (by omega) (by omega) 0 w3 h1 h2) keepC_tI ?kb (fun _ => rfl)
    (fun pre W => PassJ sp k A0 W0 fp0 on l0 nn A.2.ops w.heap.size b off X last cnt hv pre W)
    (fun c _ W => PassX sp k A0 W0 fp0 on l0 nn A.2.ops o1 w.heap.size b off X last cnt hv c W)
    ?hI ?hIp ?hIxp ?h0 ?a1 ?assign ?body ?done ?stop
  case kb =>
    intro W r r' h
    have hlt := heap_lt h
    have hz3 := H3.out.2.1
    exact keepCI_of_kept (Kept.of_grown (grownBy_putObj' W _ _)) (by omega) (by omega) (by simp; omega) (by simp; omega)
  case hI => exact fun s W W' h hg => h.stay (Kept.of_grown hg) (by simp) H3.out.2.2.2.1 H3.out.2.2.2.2
  case hIp => exact fun s W r r' h hl => h.stay (Kept.of_grown (grownBy_putObj' W _ _)) (fun z hz => by have := H3.out.2.1; simp at hz; omega) H3.out.2.2.2.1 H3.out.2.2.2.2
  case hIxp => exact fun c s W r r' h hl => h.stay (Kept.of_grown (grownBy_putObj' W _ _)) (fun z hz => by have := H3.out.2.1; simp at hz; omega) H3.out.2.2.2.1 H3.out.2.2.2.2
  case h0 => exact ⟨A, fd, rv, [], HI0.out.1, HI0.out.2⟩
  case assign =>
    intro l₀ x W K hK
    gi_wp2
    exact hK
  case body =>
    intro l₀ pre x W hJ hsz hnx hpl
    obtain ⟨A1, fd1, rv1, Y1, I, bx⟩ := hJ
    have hx : pre.length = x := by rw [hnx, List.length_range]
    rw [hx] at I hpl
    have c1 : W.cell? ⟨w.heap.size, 0, none⟩ = some (.pointer (some ⟨sp, 0, none⟩)) := cell_of_heap bx.1 0
    obtain ⟨pl, hpl2⟩ : ∃ n, n = min fan (len - x * fan) := ⟨_, rfl⟩
    have hpc : pcVI b off len fan x = .slice (some ⟨b, off + x * fan, none⟩) pl pl := by rw [hpl2]; rfl
    rw [hpc]
    have HI := hide (And.intro I (And.intro bx (And.intro hx (And.intro hpl (And.intro hpl2 hpc)))))
    obtain ⟨R, hX, hX2, hnn, ht, htf, htm, hon, h0, hlast, ho0, ho, ho1, hrv, hlen, hfan, hbl, hf, hf2, hcap⟩ := HH.out
    have hz3 := H3.out.2.1
    have hxl : x * fan < len := (pcN_ltI (by omega)).1 hpl
    have hxm : x ≤ x * fan := Nat.le_mul_of_pos_right _ (by omega)
    have BG := I.begins (o1 := o1) (by omega) (by rw [← hlen, ← hfan]; exact hpl) hX2 hnn ht htf htm hon h0 hlast (by omega) (by omega) ho1
    rw [← hlen, ← hfan, hpc] at BG
    have HBG := hide BG
    have HR := hide (And.intro hlen (And.intro hfan (And.intro hz3 hxl)))
    have f0 : ∀ o, W.frozen? ⟨w.heap.size + 1, o, none⟩ = false := fun o => frozen_of_heap bx.2 o
    clear I bx hx hpl hpl2 hpc hnx h1 h2 HK1 HI0 R hX hX2 hnn ht htf htm hon h0 hlast ho0 ho ho1 hrv hlen hfan hbl BG hz3 hxl hxm hf hf2 hcap z2 z3 hz2
    by_cases hp1 : pl = 1
    · have hb1 : ((pl : Int) == 1) = true := by rw [hp1]; rfl
      gi_wp2
      obtain ⟨I, bx, hx, hpl, hpl2, hpc⟩ := HI.out
      obtain ⟨hlen, hfan, hz3, hxl⟩ := HR.out
      refine ⟨⟨rfl, rfl⟩, .inr ⟨rfl, x, A1, fd1, rv1, Y1, by rw [← hlen, ← hfan]; exact hpl, ?_, I, bx⟩⟩
      rw [← hlen, ← hfan]
      have := HH.out.2.2.2.2.2.2.2.2.2.2.2.2.2.2.2.2.2.1
      omega
    · have hb1 : ((pl : Int) == 1) = false := by simp; omega
      gi_wp2_with fail
      refine (CallsIn.inRound l₀ (callsIn_wide.2 HBG.out)).mono ?_
      rintro e w4 ⟨six4, (⟨q, rfl, MG⟩ | ⟨rfl, E4⟩)⟩
      · have bx4 := HI.out.2.1.six six4
        have c4 : w4.cell? ⟨w.heap.size, 0, none⟩ = some (.pointer (some ⟨sp, 0, none⟩)) := cell_of_heap bx4.1 0
        have HM := hide MG
        have H4 := hide (And.intro six4 bx4)
        clear MG six4 bx4 HBG
        gi_wp2_with fail
        refine (CallsIn.inRound l₀ (callsIn_wide.2 HM.out)).mono ?_
        rintro e w5 ⟨six5, e', rfl, (⟨rfl, A5, fd5, rv5, Y5, I5⟩ | ⟨he', E5⟩)⟩
        · have H5 := hide (And.intro six5 I5)
          clear six5 I5 HM
          gi_wp2
          obtain ⟨six5, I5⟩ := H5.out
          obtain ⟨six4, bx4⟩ := H4.out
          obtain ⟨I, bx, hx, hpl, hpl2, hpc⟩ := HI.out
          obtain ⟨hlen, hfan, hz3, hxl⟩ := HR.out
          have six := six4.trans six5
          rw [hz3]
          refine ⟨six.two, ?_, A5, fd5, rv5, Y5, ?_, bx.six six⟩
          · rw [H2.out.2.1]
            exact six.keepCI
          · rw [List.length_append, List.length_singleton, hx]
            exact I5
        · have heb : (e' == 0) = false := by simpa using he'
          have f5 : ∀ o, w5.frozen? ⟨w.heap.size + 1, o, none⟩ = false := fun o => frozen_of_heap (H4.out.2.six six5).2 o
          have g5 : w5.cell? ⟨w.heap.size + 1, 0, none⟩ = some (.int .i64 0) := cell_of_heap (H4.out.2.six six5).2 0
          have H5 := hide (And.intro six5 E5)
          clear six5 E5 HM
          gi_wp2
          obtain ⟨six5, E5⟩ := H5.out
          obtain ⟨six4, bx4⟩ := H4.out
          have hz3 := HR.out.2.2.1
          have kS := (bx4.six six5).set e'
          have s9 := six4.trans six5
          have t9 := s9.two
          have l9 := s9.2.1
          rw [hz3]
          exact ⟨⟨(kS.2.block _ (by omega) (by simp)).trans t9.1, (kS.2.block _ (by omega) (by simp)).trans t9.2⟩, .inl ⟨rfl, e', kS.1, E5.stay kS.2 (fun z hz => by simp at hz; omega) H3.out.2.2.2.1⟩⟩
      · have f5 : ∀ o, w4.frozen? ⟨w.heap.size + 1, o, none⟩ = false := fun o => frozen_of_heap (HI.out.2.1.six six4).2 o
        have g5 : w4.cell? ⟨w.heap.size + 1, 0, none⟩ = some (.int .i64 0) := cell_of_heap (HI.out.2.1.six six4).2 0
        have H5 := hide (And.intro six4 E4)
        clear six4 E4 HBG
        gi_wp2
        obtain ⟨six4, E4⟩ := H5.out
        have hz3 := HR.out.2.2.1
        have kS := (HI.out.2.1.six six4).set 7
        have t9 := six4.two
        have l9 := six4.2.1
        rw [hz3]
        exact ⟨⟨(kS.2.block _ (by omega) (by simp)).trans t9.1, (kS.2.block _ (by omega) (by simp)).trans t9.2⟩, .inl ⟨rfl, 7, kS.1, E4.stay kS.2 (fun z hz => by simp at hz; omega) H3.out.2.2.2.1⟩⟩
  case done =>
    rintro D xs W hD rfl hJ hK
    obtain ⟨A1, fd1, rv1, Y1, I, bx⟩ := hJ
    rw [List.length_range] at I
    have f5 : ∀ o, W.frozen? ⟨w.heap.size + 1, o, none⟩ = false := fun o => frozen_of_heap bx.2 o
    have g5 : W.cell? ⟨w.heap.size + 1, 0, none⟩ = some (.int .i64 0) := cell_of_heap bx.2 0
    have H5 := hide (And.intro I (And.intro bx (And.intro hK hD)))
    clear I bx hK h1 h2 HK1 HI0 hD z2 z3 hz2
    show K2 _ _
    refine HK2.out _ _ ?_
    refine (wpIn_wide (n := 4)).1 ?_
    gi_wp2
    obtain ⟨I, bx, hK, hD⟩ := H5.out
    obtain ⟨R, hX, hX2, hnn, ht, htf, htm, hon, h0, hlast, ho0, ho, ho1, hrv, hlen, hfan, hbl, hf, hf2, hcap⟩ := HH.out
    have kS := bx.set 0
    have hz3 := H3.out.2.1
    have hK' := kS.2.heap9 hK (by simp; omega)
    have kD : Kept [D] (W.setCell ⟨w.heap.size + 1, 0, none⟩ (.int .i64 0)) ((W.setCell ⟨w.heap.size + 1, 0, none⟩ (.int .i64 0)).putObj D (.deferred none)) := Kept.of_grown (grownBy_putObj' _ D _)
    have kA := (kS.2.mono (fp' := [w.heap.size + 1, D]) (by simp)).trans kD (fun z hz => .inl (by simp at hz; simp [hz]))
    refine ⟨by simp, .inl ⟨_, _, rfl, run_takeDeferred hK', ?_⟩⟩
    obtain ⟨X', last', q1, q2, q3, q4, q5⟩ := I.ended hX (by omega) (.inl (by rw [← hlen, ← hfan])) kA (fun z hz => by simp at hz; omega) H3.out.2.2.2.1
    exact ⟨_, res_pass _ _ (w.heap.size + 1) 0 rfl (cell_of_heap (kD.heap9 kS.1.2 (by simp; omega)) 0), .inl ⟨rfl, A1, fd1, rv1, X', last', q1, q2, q3, q4, q5⟩⟩
  case stop =>
    rintro D c pre W hD hSp hx hK
    rcases hx with ⟨rfl, e', bx, E⟩ | ⟨rfl, j, A1, fd1, rv1, Y1, hj1, hj2, I, bx⟩
    · have H5 := hide (And.intro E (And.intro bx (And.intro hK hD)))
      clear E bx hK h1 h2 HK1 HI0 hD z2 z3 hz2
      gi_wp2
      obtain ⟨E, bx, hK, hD⟩ := H5.out
      have hz3 := H3.out.2.1
      have kD : Kept [D] W (W.putObj D (.deferred none)) := Kept.of_grown (grownBy_putObj' _ D _)
      refine ⟨by simp, .inl ⟨_, _, rfl, run_takeDeferred hK, ?_⟩⟩
      have E9 := E.stay kD (fun z hz => by simp at hz; omega) H3.out.2.2.2.1
      refine ⟨_, res_pass _ _ (w.heap.size + 1) e' rfl (cell_of_heap (kD.heap9 bx.2 (by simp; omega)) 0), .inr ⟨e', rfl, E9.ne, ?_⟩⟩
      exact (E9.sorE er).mono (fun _ h => h) HH.out.2.2.2.2.2.2.2.2.2.2.1 (Int.le_refl _)
    · have f5 : ∀ o, W.frozen? ⟨w.heap.size + 1, o, none⟩ = false := fun o => frozen_of_heap bx.2 o
      have g5 : W.cell? ⟨w.heap.size + 1, 0, none⟩ = some (.int .i64 0) := cell_of_heap bx.2 0
      have H5 := hide (And.intro I (And.intro bx (And.intro hK (And.intro hD (And.intro hj1 hj2)))))
      clear I bx hK h1 h2 HK1 HI0 hD z2 z3 hz2 hj1 hj2
      refine wpIn_exit ?_
      show K2 _ _
      refine HK2.out _ _ ?_
      refine (wpIn_wide (n := 4)).1 ?_
      gi_wp2
      obtain ⟨I, bx, hK, hD, hj1, hj2⟩ := H5.out
      obtain ⟨R, hX, hX2, hnn, ht, htf, htm, hon, h0, hlast, ho0, ho, ho1, hrv, hlen, hfan, hbl, hf, hf2, hcap⟩ := HH.out
      have kS := bx.set 0
      have hz3 := H3.out.2.1
      have hK' := kS.2.heap9 hK (by simp; omega)
      have kD : Kept [D] (W.setCell ⟨w.heap.size + 1, 0, none⟩ (.int .i64 0)) ((W.setCell ⟨w.heap.size + 1, 0, none⟩ (.int .i64 0)).putObj D (.deferred none)) := Kept.of_grown (grownBy_putObj' _ D _)
      have kA := (kS.2.mono (fp' := [w.heap.size + 1, D]) (by simp)).trans kD (fun z hz => .inl (by simp at hz; simp [hz]))
      refine ⟨by simp, .inl ⟨_, _, rfl, run_takeDeferred hK', ?_⟩⟩
      obtain ⟨X', last', q1, q2, q3, q4, q5⟩ := I.ended hX (by omega) (.inr ⟨hj1, hj2⟩) kA (fun z hz => by simp at hz; omega) H3.out.2.2.2.1
      exact ⟨_, res_pass _ _ (w.heap.size + 1) 0 rfl (cell_of_heap (kD.heap9 kS.1.2 (by simp; omega)) 0), .inl ⟨rfl, A1, fd1, rv1, X', last', q1, q2, q3, q4, q5⟩⟩
end

end Go.Proofs.YtgpbanjammipiaaGreatDoor
