/-
  Lemma texts, one behind the other: ROp10, ROp11, ROp12, DDuo, DDuo2, DDuo3. No statement of the seat is proved here.
-/
import Derived.Test.YtahhokhhgamelaaGG
import Derived.Test.YtahhokhhgamelaaGD
namespace Go.Proofs.Ytahhokhhgamelaa
open Go.RowKit Go.Maps Go.Sort Go.Shelf

/-- What Rename answers, and leaves. -/
def moveA (A : List Ab × Ds) (n tn : List UInt8) : Int × (List Ab × Ds) := match errA A n with
  | some k => (k, A)
  | none => match lookA A.1 n with
    | none => (0, A)
    | some x => if mayB tn = false then (1, A) else if n = tn then (0, renameN A x tn) else match lookA A.1 tn with
      | none => (0, renameN A x tn)
      | some y => (0, renameA A x y)

theorem insA_split {a b : List Ab} {x : Ab} (h : (a ++ x :: b).Pairwise (fun f g => f.1 < g.1)) : insA (a ++ b) x = a ++ x :: b := by
  induction a with
  | nil =>
    cases b with
    | nil => rfl
    | cons y b =>
      have h1 : x.1 < y.1 := (List.pairwise_cons.1 h).1 y (by simp)
      show insA (y :: b) x = _
      unfold insA
      rw [if_neg (fun h2 => List.lt_irrefl _ (List.lt_trans h1 h2))]
      rfl
  | cons z a ih =>
    have h1 : z.1 < x.1 := (List.pairwise_cons.1 h).1 x (by simp)
    show insA (z :: (a ++ b)) x = _
    unfold insA
    rw [if_pos h1, ih (List.pairwise_cons.1 h).2]
    rfl

theorem renameN_self {A : List Ab × Ds} {x : Ab} (hs : A.1.Pairwise (fun f g => f.1 < g.1)) (hx : x ∈ A.1) : renameN A x x.1 = A := by
  obtain ⟨l, s⟩ := A
  obtain ⟨a, b, rfl⟩ := List.append_of_mem hx
  unfold renameN
  simp only at hs ⊢
  rw [delA_split hs, insA_split hs]

theorem delA_sorted {l : List Ab} (hs : l.Pairwise (fun f g => f.1 < g.1)) (n : List UInt8) : (delA l n).Pairwise (fun f g => f.1 < g.1) := hs.sublist List.filter_sublist

theorem lookA_delA {l : List Ab} {n m : List UInt8} (h : n ≠ m) : lookA (delA l n) m = lookA l m := by
  unfold lookA delA
  rw [List.find?_filter]
  congr 1
  funext y
  by_cases e : y.1 = m
  · have : ¬ y.1 = n := fun e2 => h (e2.symm.trans e)
    simp [e, Ne.symm h]
  · simp [e]

theorem delA_len (l : List Ab) (n : List UInt8) : (delA l n).length ≤ l.length := List.length_filter_le _ _

/-- The blocks of a disk whose row is another, all of it new, and one of whose files has another name. -/
theorem rfeet_new2 {w w' : World} {r : Nat} {lv lv' kv : Value} {fs gs : List Rf} (hk : Kept [r] w w') (hl : ∀ x ∈ own lv', w.heap.size ≤ x) (hg : ∀ f ∈ gs, ∃ g ∈ fs, g.2 = f.2) : Kept (rfeet r lv kv fs) w w' ∧ Newly w (rfeet r lv kv fs) (rfeet r lv' kv gs) := by
  refine ⟨hk.mono (by simp [rfeet]), fun x hx => ?_⟩
  simp only [rfeet, List.mem_append, List.mem_cons, List.mem_flatMap] at hx ⊢
  rcases hx with ((hx | hx) | hx) | ⟨f, hf, hx⟩
  · exact .inl (.inl (.inl (.inl hx)))
  · exact .inr (hl x hx)
  · exact .inl (.inl (.inr hx))
  · obtain ⟨g, h1, h2⟩ := hg f hf
    rw [← h2] at hx
    exact .inl (.inr ⟨g, h1, hx⟩)

section
variable {w : World} {fp : List Nat} {r : Nat} {l : List Ab} {s : Ds}

set_option maxRecDepth 100000 in
set_option maxHeartbeats 2000000 in
theorem Rk.rename_no (h : Rk w fp r l s) (ho : okA l s) (hn : s.ops ≤ 900000) (nm tn : ByteArray) (htn : tn.size ≤ maxLen) (hx : errA (beginA l s) nm.data.toList ≠ none ∨ mayB tn.data.toList = false ∨ nm = tn) (hs : (beginA l s).1.Pairwise (fun f g => f.1 < g.1)) :
    Calls Try.prog 29 #[.pointer (some ⟨r, 0, none⟩), .string nm, .string tn] w fun e w' =>
      e = .returned (.int .i64 (moveA (beginA l s) nm.data.toList tn.data.toList).1) ∧ ROut w w' fp r (moveA (beginA l s) nm.data.toList tn.data.toList).2 := by
  have hll : l.length ≤ 1048576 := by have := ho.len; omega
  have BG := hide (h.begins ho (by omega) hll)
  have hl1 : (beginA l s).1.length ≤ 1000000 := by rw [beginA_len]; have := ho.len; omega
  obtain ⟨A, hA⟩ : ∃ A, A = beginA l s := ⟨_, rfl⟩
  rw [← hA] at BG hl1 hs hx ⊢
  have HS := hide hs
  clear h ho hA hs
  have MB := hide (fun W => refMay_any tn htn W)
  obtain ⟨l1, s1⟩ := A
  simp only at BG hl1 HS
  unfold errA at hx
  unfold moveA errA
  simp only at hx ⊢
  cases hd : s1.down with
  | true =>
    rw [hd] at BG
    rw [if_pos rfl]
    simp only
    clear hx
    go_enter Try.func29, Try.ntmps29
    go_wp2_with fail
    refine BG.out.mono ?_
    rintro e w1 ⟨rfl, o1⟩
    have O1 := hide o1
    clear o1
    go_wp2
    go_ret
    exact ⟨rfl, O1.out⟩
  | false =>
    rw [hd] at BG hx
    rw [if_neg (by simp)]
    cases hx2 : lookA l1 nm.data.toList with
    | none =>
      simp only
      have hp := place_none hx2
      clear hx
      go_enter Try.func29, Try.ntmps29
      go_wp2_with fail
      refine BG.out.mono ?_
      rintro e w1 ⟨rfl, o1⟩
      have O1 := hide o1
      obtain ⟨fp1, ⟨lv, kv, fs, ks, d1, i1, j1⟩, k1, n1⟩ := o1
      have D1 := hide d1
      clear i1 j1 k1 n1 d1
      go_wp2_with fail
      refine (refFind_any D1.out (by omega) nm).mono ?_
      rintro e w2 ⟨rfl, rfl⟩
      rw [hp]
      go_wp2
      go_ret
      exact ⟨rfl, O1.out⟩
    | some x =>
      rw [hx2] at hx
      simp only [if_neg (show ¬ (false = true) by simp), ne_eq, not_true_eq_false, false_or] at hx ⊢
      obtain ⟨k, hk, hp, hkx⟩ := place_some hx2
      have hk0 : ¬ (k : Int) < 0 := by omega
      have HX := hide hkx
      have HX2 := hide hx2
      clear hkx hx2
      cases hm : mayB tn.data.toList with
      | false =>
        rw [hm] at MB
        rw [if_pos rfl]
        clear hx
        go_enter Try.func29, Try.ntmps29
        go_wp2_with fail
        refine BG.out.mono ?_
        rintro e w1 ⟨rfl, o1⟩
        have O1 := hide o1
        obtain ⟨fp1, ⟨lv, kv, fs, ks, d1, i1, j1⟩, k1, n1⟩ := o1
        have D1 := hide d1
        clear i1 j1 k1 n1 d1
        go_wp2_with fail
        refine (refFind_any D1.out (by omega) nm).mono ?_
        rintro e w2 ⟨rfl, rfl⟩
        rw [hp]
        go_wp2_with fail
        refine (MB.out w2).mono ?_
        rintro e w3 ⟨rfl, rfl⟩
        go_wp2
        go_ret
        exact ⟨rfl, O1.out⟩
      | true =>
        rw [hm] at MB hx
        rw [if_neg (by simp)]
        have he : nm = tn := by simpa using hx
        subst he
        rw [if_pos rfl]
        clear hx
        have hxm := lookA_mem HX2.out
        have e0 : renameN (l1, s1) x nm.data.toList = (l1, s1) := by rw [← hxm.2]; exact renameN_self HS.out hxm.1
        rw [e0]
        clear hxm e0
        go_enter Try.func29, Try.ntmps29
        go_wp2_with fail
        refine BG.out.mono ?_
        rintro e w1 ⟨rfl, o1⟩
        have O1 := hide o1
        obtain ⟨fp1, ⟨lv, kv, fs, ks, d1, i1, j1⟩, k1, n1⟩ := o1
        have D1 := hide d1
        clear i1 j1 k1 n1 d1
        go_wp2_with fail
        refine (refFind_any D1.out (by omega) nm).mono ?_
        rintro e w2 ⟨rfl, rfl⟩
        rw [hp]
        go_wp2_with fail
        refine (MB.out w2).mono ?_
        rintro e w3 ⟨rfl, rfl⟩
        go_wp2
        go_ret
        exact ⟨rfl, O1.out⟩
end

end Go.Proofs.Ytahhokhhgamelaa

namespace Go.Proofs.Ytahhokhhgamelaa
open Go.RowKit Go.Maps Go.Sort Go.Shelf

theorem cell_box {w : World} {b : Nat} {x y z : Value} (h : w.heap[b]? = some (.cells #[x, y, z] 81)) : w.cell? ⟨b, 0, none⟩ = some x ∧ w.cell? ⟨b, 1, none⟩ = some y ∧ w.cell? ⟨b, 2, none⟩ = some z ∧ w.frozen? ⟨b, 0, none⟩ = false :=
  ⟨by have := cell_of_heap h 0; simpa using this, by have := cell_of_heap h 1; simpa using this, by have := cell_of_heap h 2; simpa using this, frozen_of_heap h 0⟩

theorem eraseIdx_look {l : List Ab} (hs : l.Pairwise (fun f g => f.1 < g.1)) (k : Nat) (hk : k < l.length) {x : Ab} (hx : l[k] = x) : l.eraseIdx k = delA l x.1 := by
  rw [← hx]
  exact eraseIdx_delA hs k hk

section
variable {w : World} {fp : List Nat} {r : Nat} {l : List Ab} {s : Ds}

set_option maxRecDepth 100000 in
set_option maxHeartbeats 2000000 in
theorem Rk.rename_over (h : Rk w fp r l s) (ho : okA l s) (hn : s.ops ≤ 900000) (nm tn : ByteArray) (htn : tn.size ≤ maxLen) (hm : mayB tn.data.toList = true) (hne : nm ≠ tn) (hs : (beginA l s).1.Pairwise (fun f g => f.1 < g.1)) (hd : (beginA l s).2.down = false) {x : Ab} (hx : lookA (beginA l s).1 nm.data.toList = some x) {y : Ab} (hy : lookA (beginA l s).1 tn.data.toList = some y) :
    Calls Try.prog 29 #[.pointer (some ⟨r, 0, none⟩), .string nm, .string tn] w fun e w' => e = .returned (.int .i64 0) ∧ ROut w w' fp r (renameA (beginA l s) x y) := by
  have hll : l.length ≤ 1048576 := by have := ho.len; omega
  have BG := hide (h.begins ho (by omega) hll)
  have hl1 : (beginA l s).1.length ≤ 1000000 := by rw [beginA_len]; have := ho.len; omega
  obtain ⟨A, hA⟩ : ∃ A, A = beginA l s := ⟨_, rfl⟩
  rw [← hA] at BG hl1 hs hd hx hy ⊢
  have MB := hide (fun W => refMay_any tn htn W)
  rw [hm] at MB
  obtain ⟨l1, s1⟩ := A
  simp only at BG hl1 hs hd hx hy
  rw [hd] at BG
  obtain ⟨k, hk, hp, hkx⟩ := place_some hx
  have hk0 : ¬ (k : Int) < 0 := by omega
  have hxn := (lookA_mem hx).2
  have hnb : x.1 ≠ tn.data.toList := by
    rw [hxn]
    intro e
    apply hne
    cases nm; cases tn
    simp only [ByteArray.mk.injEq]
    exact Array.toList_inj.1 e
  have her := eraseIdx_look hs k hk hkx
  have hsd := delA_sorted hs x.1
  have hyd : lookA (delA l1 x.1) tn.data.toList = lookA l1 tn.data.toList := lookA_delA hnb
  have hbq := str_ne hne
  rw [hy] at hyd
  have hdl : (delA l1 x.1).length ≤ 1000000 := Nat.le_trans (delA_len _ _) hl1
  have HF := hide (And.intro hkx (And.intro her (And.intro hsd (And.intro hl1 hdl))))
  obtain ⟨k2, hk2, hp2, hkx2⟩ := place_some hyd
  have hk20 : (0 : Int) ≤ (k2 : Int) := by omega
  have hyn := (lookA_mem hy).2
  have her2 := eraseIdx_look hsd k2 hk2 hkx2
  have hdl2 : (delA (delA l1 x.1) y.1).length ≤ 1000000 := Nat.le_trans (delA_len _ _) hdl
  have HF2 := hide (And.intro hyn (And.intro her2 hdl2))
  clear hkx2 hyn her2 hdl2
  clear h ho hA hs hd hx hy hm hne hkx hxn hnb her hsd hyd hdl hl1
  go_enter Try.func29, Try.ntmps29
  go_wp2_with fail
  refine BG.out.mono ?_
  rintro e w1 ⟨rfl, o1⟩
  obtain ⟨fp1, ⟨lv, kv, fs, ks, d1, i1, j1⟩, k1, n1⟩ := o1
  have D1 := hide (And.intro d1 (And.intro i1 (And.intro j1 (And.intro k1 n1))))
  clear i1 j1 k1 n1 d1
  go_wp2_with fail
  refine (refFind_any D1.out.1 (by have := HF.out.2.2.2.1; omega) nm).mono ?_
  rintro e w2 ⟨rfl, rfl⟩
  rw [hp]
  go_wp2_with fail
  refine (MB.out w2).mono ?_
  rintro e w3 ⟨rfl, rfl⟩
  have hfl := D1.out.1.len
  obtain ⟨g, cap, hlv, f0, f1, f2⟩ := D1.out.1.fileAt k (by omega)
  have c1 := D1.out.1.cellAt.2.1
  obtain ⟨n, hnn⟩ : ∃ n, n = fs.length := ⟨_, rfl⟩
  rw [hlv, ← hnn] at c1
  have hkn : (k : Int) < (n : Int) := by omega
  have hkk0 : (0 : Int) ≤ (k : Int) := by omega
  have IF := D1.out.1.files k (by omega) hk
  have LW := D1.out.1.filesLow (fs[k]'(by omega)) (List.getElem_mem _)
  have MEM := List.getElem_mem (l := fs) (n := k) (by omega)
  obtain ⟨F, hF⟩ : ∃ F, F = fs[k]'(by omega) := ⟨_, rfl⟩
  rw [← hF] at f0 f1 f2 IF LW MEM
  rw [HF.out.1] at IF
  obtain ⟨tt, vn, vs⟩ := F
  obtain ⟨a1, p1, e1, _⟩ := IF.2.1.form
  obtain ⟨a2, p2, e2, _⟩ := IF.2.2.form
  simp only at e1 e2
  obtain ⟨n1, hn1⟩ : ∃ n1, n1 = x.2.1.length := ⟨_, rfl⟩
  obtain ⟨n2, hn2⟩ : ∃ n2, n2 = x.2.2.length := ⟨_, rfl⟩
  rw [← hn1] at e1
  rw [← hn2] at e2
  subst e1 e2
  simp only at f0 f1 f2
  have HI := hide (And.intro IF (And.intro LW MEM))
  clear IF LW MEM hlv hF hn1 hn2 hnn hfl
  go_wp2_with fail
  obtain ⟨W1, hW1⟩ : ∃ W1, W1 = w3.alloc (Obj.cells #[Value.string tt, Value.slice a1 n1 p1, Value.slice a2 n2 p2] 81) := ⟨_, rfl⟩
  have kA : Kept [] w3 W1 := by rw [hW1]; exact Kept.of_below ((Below.refl _ w3).alloc (Nat.le_refl _) _)
  have hbx : W1.heap[w3.heap.size]? = some (.cells #[Value.string tt, Value.slice a1 n1 p1, Value.slice a2 n2 p2] 81) := by rw [hW1]; exact heap_alloc_new w3 _
  rw [← hW1]
  have dA := D1.out.1.kept kA (by simp)
  have hrb : r ≠ w3.heap.size := fun e => by have := D1.out.1.low r (by simp [rfeet]); omega
  refine (refCut_any dA k hk HF.out.2.2.2.1).mono ?_
  rintro e w4 ⟨rfl, lv4, d4, k4, n4⟩
  have hb4 := k4.heapAt hbx (by simpa using Ne.symm hrb)
  have nw4 : ∀ z ∈ own lv4, w3.heap.size + 1 ≤ z := fun z hz => by have h1 := n4 z hz; have h2 := (Array.getElem?_eq_some_iff.1 hbx).1; omega
  rw [HF.out.2.1] at d4
  have k34 : Kept [r] w3 w4 := (kA.mono (fp' := [r]) (by simp)).trans k4 (Newly.refl _ _)
  have H4b := hide hrb
  have H4b := hide hrb
  have H4 := hide (And.intro d4 (And.intro k34 (And.intro nw4 (And.intro hb4 hrb))))
  clear d4 k4 n4 hb4 nw4 k34 dA hbx kA hW1 c1 f0 f1 f2
  go_wp2_with fail
  refine (refFind_any H4.out.1 (by have := HF.out.2.2.2.2; omega) tn).mono ?_
  rintro e w5 ⟨rfl, rfl⟩
  rw [hp2]
  go_wp2_with fail
  refine (refCut_any H4.out.1 k2 hk2 HF.out.2.2.2.2).mono ?_
  rintro e w6 ⟨rfl, lv6, d6, k6, n6⟩
  obtain ⟨d4, k34, nw4, hb4, hrb⟩ := H4.out
  have hb6 := k6.heapAt hb4 (by simpa using Ne.symm hrb)
  rw [HF2.out.2.1] at d6
  have k36 : Kept [r] w3 w6 := k34.trans k6 (Newly.refl _ _)
  have nw6 : ∀ z ∈ own lv6, w3.heap.size + 1 ≤ z := fun z hz => by have h1 := n6 z hz; have h2 := (Array.getElem?_eq_some_iff.1 hb4).1; omega
  have H6 := hide (And.intro d6 (And.intro k36 (And.intro nw6 (And.intro hb6 (And.intro HF2.out.2.2 (fun f (hf : f ∈ (fs.eraseIdx k).eraseIdx k2) => List.mem_of_mem_eraseIdx (List.mem_of_mem_eraseIdx hf)))))))
  clear d4 k34 nw4 hb4 d6 k6 n6 hb6 k36 nw6
  obtain ⟨q0, q1, q2, qf⟩ := cell_box H6.out.2.2.2.1
  obtain ⟨W7, hW7⟩ : ∃ W7, W7 = w6.setCell ⟨w3.heap.size, 0, none⟩ (.string tn) := ⟨_, rfl⟩
  have h7 : W7.heap[w3.heap.size]? = some (.cells #[Value.string tn, Value.slice a1 n1 p1, Value.slice a2 n2 p2] 81) := by
    rw [hW7]
    have := heap_setCell H6.out.2.2.2.1 0 (.string tn)
    simpa using this
  have k67 : Kept [w3.heap.size] w6 W7 := by rw [hW7]; exact (Kept.refl _ w6).setCell (p := ⟨w3.heap.size, 0, none⟩) (.inl (by simp)) _
  obtain ⟨u0, u1, u2, _⟩ := cell_box h7
  have H7 := hide k67
  have HW7 := hide hW7
  rw [hW7] at u0 u1 u2
  clear k67 h7 hW7
  go_wp2_with fail
  rw [← HW7.out]
  obtain ⟨IF, LW, MEM⟩ := HI.out
  obtain ⟨d6, k36, nw6, hb6, hl6, mem6⟩ := H6.out
  have low1 := D1.out.1.low
  have hnb : ∀ z ∈ rfeet r lv6 kv ((fs.eraseIdx k).eraseIdx k2), z ∉ [w3.heap.size] := by
    intro z hz e
    simp only [List.mem_singleton] at e
    simp only [rfeet, List.mem_append, List.mem_cons, List.mem_flatMap] at hz
    rcases hz with ((hz | hz) | hz) | ⟨f, hf, hz⟩
    · exact H4b.out (hz.symm.trans e)
    · have := nw6 z hz; omega
    · have := low1 z (by simp only [rfeet, List.mem_append]; exact .inl (.inr hz)); omega
    · have := low1 z (by simp only [rfeet, List.mem_append, List.mem_flatMap]; exact .inr ⟨f, mem6 f hf, hz⟩); omega
  have d7 := d6.kept H7.out hnb
  have IF7 : isF W7 (tn, Value.slice a1 n1 p1, Value.slice a2 n2 p2) (tn.data.toList, x.2.1, x.2.2) := by
    have q1 := IF.kept k36 (fun z hz e => (LW z hz).2 (by simpa using e))
    have q2 := q1.kept H7.out (fun z hz e => by have := (LW z hz).1; simp at e; omega)
    exact ⟨rfl, q2.2.1, q2.2.2⟩
  have sz := k36.size
  have sz7 := H7.out.size
  refine (refPuts_any d7 tn (Value.slice a1 n1 p1) (Value.slice a2 n2 p2) (tn.data.toList, x.2.1, x.2.2) IF7 (fun z hz => ⟨by have := (LW z hz).1; omega, (LW z hz).2⟩) hl6).mono ?_
  rintro e w8 ⟨rfl, lv8, gs, d8, k8, n8, g8⟩
  have FIN : Hid (ROut w w8 fp r (renameA (l1, s1) x y)) := by
    obtain ⟨d1, i1, j1, k1, n1⟩ := D1.out
    subst j1
    have k37 : Kept [r] w3 W7 := k36.trans H7.out (fun z hz => by simp at hz; exact .inr (by omega))
    obtain ⟨b1, b2⟩ := rfeet_new2 (lv := lv) (kv := kv) (fs := fs) (gs := gs) (k37.trans k8 (Newly.refl _ _)) (fun z hz => Nat.le_trans (Nat.le_trans sz sz7) (n8 z hz)) (fun f hf => by
      rcases g8 f hf with u | u
      · exact ⟨f, mem6 f u, rfl⟩
      · exact ⟨_, MEM, by rw [u]⟩)
    refine ⟨_, ⟨lv8, kv, gs, ks, ?_, i1, rfl⟩, k1.trans b1 n1, n1.trans b2 k1.size⟩
    show RefAt w8 r lv8 kv gs (insA (delA (delA l1 x.1) y.1) (y.1, x.2.1, x.2.2)) ks s1.room s1.ops s1.left s1.down
    rw [HF2.out.1]
    rw [HF2.out.1] at d8
    exact d8
  clear d8 k8 n8 g8
  go_wp2
  go_ret
  exact ⟨rfl, FIN.out⟩

set_option maxRecDepth 100000 in
set_option maxHeartbeats 2000000 in
theorem Rk.rename_new (h : Rk w fp r l s) (ho : okA l s) (hn : s.ops ≤ 900000) (nm tn : ByteArray) (htn : tn.size ≤ maxLen) (hm : mayB tn.data.toList = true) (hne : nm ≠ tn) (hs : (beginA l s).1.Pairwise (fun f g => f.1 < g.1)) (hd : (beginA l s).2.down = false) {x : Ab} (hx : lookA (beginA l s).1 nm.data.toList = some x) (hy : lookA (beginA l s).1 tn.data.toList = none) :
    Calls Try.prog 29 #[.pointer (some ⟨r, 0, none⟩), .string nm, .string tn] w fun e w' => e = .returned (.int .i64 0) ∧ ROut w w' fp r (renameN (beginA l s) x tn.data.toList) := by
  have hll : l.length ≤ 1048576 := by have := ho.len; omega
  have BG := hide (h.begins ho (by omega) hll)
  have hl1 : (beginA l s).1.length ≤ 1000000 := by rw [beginA_len]; have := ho.len; omega
  obtain ⟨A, hA⟩ : ∃ A, A = beginA l s := ⟨_, rfl⟩
  rw [← hA] at BG hl1 hs hd hx hy ⊢
  have MB := hide (fun W => refMay_any tn htn W)
  rw [hm] at MB
  obtain ⟨l1, s1⟩ := A
  simp only at BG hl1 hs hd hx hy
  rw [hd] at BG
  obtain ⟨k, hk, hp, hkx⟩ := place_some hx
  have hk0 : ¬ (k : Int) < 0 := by omega
  have hxn := (lookA_mem hx).2
  have hnb : x.1 ≠ tn.data.toList := by
    rw [hxn]
    intro e
    apply hne
    cases nm; cases tn
    simp only [ByteArray.mk.injEq]
    exact Array.toList_inj.1 e
  have her := eraseIdx_look hs k hk hkx
  have hsd := delA_sorted hs x.1
  have hyd : lookA (delA l1 x.1) tn.data.toList = lookA l1 tn.data.toList := lookA_delA hnb
  have hbq := str_ne hne
  rw [hy] at hyd
  have hdl : (delA l1 x.1).length ≤ 1000000 := Nat.le_trans (delA_len _ _) hl1
  have HF := hide (And.intro hkx (And.intro her (And.intro hsd (And.intro hl1 hdl))))
  have hp2 := place_none hyd
  clear h ho hA hs hd hx hy hm hne hkx hxn hnb her hsd hyd hdl hl1
  go_enter Try.func29, Try.ntmps29
  go_wp2_with fail
  refine BG.out.mono ?_
  rintro e w1 ⟨rfl, o1⟩
  obtain ⟨fp1, ⟨lv, kv, fs, ks, d1, i1, j1⟩, k1, n1⟩ := o1
  have D1 := hide (And.intro d1 (And.intro i1 (And.intro j1 (And.intro k1 n1))))
  clear i1 j1 k1 n1 d1
  go_wp2_with fail
  refine (refFind_any D1.out.1 (by have := HF.out.2.2.2.1; omega) nm).mono ?_
  rintro e w2 ⟨rfl, rfl⟩
  rw [hp]
  go_wp2_with fail
  refine (MB.out w2).mono ?_
  rintro e w3 ⟨rfl, rfl⟩
  have hfl := D1.out.1.len
  obtain ⟨g, cap, hlv, f0, f1, f2⟩ := D1.out.1.fileAt k (by omega)
  have c1 := D1.out.1.cellAt.2.1
  obtain ⟨n, hnn⟩ : ∃ n, n = fs.length := ⟨_, rfl⟩
  rw [hlv, ← hnn] at c1
  have hkn : (k : Int) < (n : Int) := by omega
  have hkk0 : (0 : Int) ≤ (k : Int) := by omega
  have IF := D1.out.1.files k (by omega) hk
  have LW := D1.out.1.filesLow (fs[k]'(by omega)) (List.getElem_mem _)
  have MEM := List.getElem_mem (l := fs) (n := k) (by omega)
  obtain ⟨F, hF⟩ : ∃ F, F = fs[k]'(by omega) := ⟨_, rfl⟩
  rw [← hF] at f0 f1 f2 IF LW MEM
  rw [HF.out.1] at IF
  obtain ⟨tt, vn, vs⟩ := F
  obtain ⟨a1, p1, e1, _⟩ := IF.2.1.form
  obtain ⟨a2, p2, e2, _⟩ := IF.2.2.form
  simp only at e1 e2
  obtain ⟨n1, hn1⟩ : ∃ n1, n1 = x.2.1.length := ⟨_, rfl⟩
  obtain ⟨n2, hn2⟩ : ∃ n2, n2 = x.2.2.length := ⟨_, rfl⟩
  rw [← hn1] at e1
  rw [← hn2] at e2
  subst e1 e2
  simp only at f0 f1 f2
  have HI := hide (And.intro IF (And.intro LW MEM))
  clear IF LW MEM hlv hF hn1 hn2 hnn hfl
  go_wp2_with fail
  obtain ⟨W1, hW1⟩ : ∃ W1, W1 = w3.alloc (Obj.cells #[Value.string tt, Value.slice a1 n1 p1, Value.slice a2 n2 p2] 81) := ⟨_, rfl⟩
  have kA : Kept [] w3 W1 := by rw [hW1]; exact Kept.of_below ((Below.refl _ w3).alloc (Nat.le_refl _) _)
  have hbx : W1.heap[w3.heap.size]? = some (.cells #[Value.string tt, Value.slice a1 n1 p1, Value.slice a2 n2 p2] 81) := by rw [hW1]; exact heap_alloc_new w3 _
  rw [← hW1]
  have dA := D1.out.1.kept kA (by simp)
  have hrb : r ≠ w3.heap.size := fun e => by have := D1.out.1.low r (by simp [rfeet]); omega
  refine (refCut_any dA k hk HF.out.2.2.2.1).mono ?_
  rintro e w4 ⟨rfl, lv4, d4, k4, n4⟩
  have hb4 := k4.heapAt hbx (by simpa using Ne.symm hrb)
  have nw4 : ∀ z ∈ own lv4, w3.heap.size + 1 ≤ z := fun z hz => by have h1 := n4 z hz; have h2 := (Array.getElem?_eq_some_iff.1 hbx).1; omega
  rw [HF.out.2.1] at d4
  have k34 : Kept [r] w3 w4 := (kA.mono (fp' := [r]) (by simp)).trans k4 (Newly.refl _ _)
  have H4b := hide hrb
  have H4b := hide hrb
  have H4 := hide (And.intro d4 (And.intro k34 (And.intro nw4 (And.intro hb4 hrb))))
  clear d4 k4 n4 hb4 nw4 k34 dA hbx kA hW1 c1 f0 f1 f2
  go_wp2_with fail
  refine (refFind_any H4.out.1 (by have := HF.out.2.2.2.2; omega) tn).mono ?_
  rintro e w5 ⟨rfl, rfl⟩
  rw [hp2]
  obtain ⟨w6, e6⟩ : ∃ w6, w6 = w5 := ⟨_, rfl⟩
  obtain ⟨d4, k34, nw4, hb4, hrb⟩ := H4.out
  rw [← e6] at d4 k34 hb4 ⊢
  have H6 := hide (And.intro d4 (And.intro k34 (And.intro nw4 (And.intro hb4 (And.intro HF.out.2.2.2.2 (fun f (hf : f ∈ fs.eraseIdx k) => List.mem_of_mem_eraseIdx hf))))))
  clear d4 k34 nw4 hb4 H4 e6
  obtain ⟨q0, q1, q2, qf⟩ := cell_box H6.out.2.2.2.1
  obtain ⟨W7, hW7⟩ : ∃ W7, W7 = w6.setCell ⟨w3.heap.size, 0, none⟩ (.string tn) := ⟨_, rfl⟩
  have h7 : W7.heap[w3.heap.size]? = some (.cells #[Value.string tn, Value.slice a1 n1 p1, Value.slice a2 n2 p2] 81) := by
    rw [hW7]
    have := heap_setCell H6.out.2.2.2.1 0 (.string tn)
    simpa using this
  have k67 : Kept [w3.heap.size] w6 W7 := by rw [hW7]; exact (Kept.refl _ w6).setCell (p := ⟨w3.heap.size, 0, none⟩) (.inl (by simp)) _
  obtain ⟨u0, u1, u2, _⟩ := cell_box h7
  have H7 := hide k67
  have HW7 := hide hW7
  rw [hW7] at u0 u1 u2
  clear k67 h7 hW7
  go_wp2_with fail
  rw [← HW7.out]
  obtain ⟨IF, LW, MEM⟩ := HI.out
  obtain ⟨d6, k36, nw6, hb6, hl6, mem6⟩ := H6.out
  have low1 := D1.out.1.low
  have hnb : ∀ z ∈ rfeet r lv4 kv (fs.eraseIdx k), z ∉ [w3.heap.size] := by
    intro z hz e
    simp only [List.mem_singleton] at e
    simp only [rfeet, List.mem_append, List.mem_cons, List.mem_flatMap] at hz
    rcases hz with ((hz | hz) | hz) | ⟨f, hf, hz⟩
    · exact H4b.out (hz.symm.trans e)
    · have := nw6 z hz; omega
    · have := low1 z (by simp only [rfeet, List.mem_append]; exact .inl (.inr hz)); omega
    · have := low1 z (by simp only [rfeet, List.mem_append, List.mem_flatMap]; exact .inr ⟨f, mem6 f hf, hz⟩); omega
  have d7 := d6.kept H7.out hnb
  have IF7 : isF W7 (tn, Value.slice a1 n1 p1, Value.slice a2 n2 p2) (tn.data.toList, x.2.1, x.2.2) := by
    have q1 := IF.kept k36 (fun z hz e => (LW z hz).2 (by simpa using e))
    have q2 := q1.kept H7.out (fun z hz e => by have := (LW z hz).1; simp at e; omega)
    exact ⟨rfl, q2.2.1, q2.2.2⟩
  have sz := k36.size
  have sz7 := H7.out.size
  refine (refPuts_any d7 tn (Value.slice a1 n1 p1) (Value.slice a2 n2 p2) (tn.data.toList, x.2.1, x.2.2) IF7 (fun z hz => ⟨by have := (LW z hz).1; omega, (LW z hz).2⟩) hl6).mono ?_
  rintro e w8 ⟨rfl, lv8, gs, d8, k8, n8, g8⟩
  have FIN : Hid (ROut w w8 fp r (renameN (l1, s1) x tn.data.toList)) := by
    obtain ⟨d1, i1, j1, k1, n1⟩ := D1.out
    subst j1
    have k37 : Kept [r] w3 W7 := k36.trans H7.out (fun z hz => by simp at hz; exact .inr (by omega))
    obtain ⟨b1, b2⟩ := rfeet_new2 (lv := lv) (kv := kv) (fs := fs) (gs := gs) (k37.trans k8 (Newly.refl _ _)) (fun z hz => Nat.le_trans (Nat.le_trans sz sz7) (n8 z hz)) (fun f hf => by
      rcases g8 f hf with u | u
      · exact ⟨f, mem6 f u, rfl⟩
      · exact ⟨_, MEM, by rw [u]⟩)
    refine ⟨_, ⟨lv8, kv, gs, ks, ?_, i1, rfl⟩, k1.trans b1 n1, n1.trans b2 k1.size⟩
    exact d8
  clear d8 k8 n8 g8
  go_wp2
  go_ret
  exact ⟨rfl, FIN.out⟩

end

end Go.Proofs.Ytahhokhhgamelaa

namespace Go.Proofs.Ytahhokhhgamelaa
open Go.RowKit Go.Maps Go.Sort Go.Shelf

theorem Try.infoStr : (Try.prog.info? 9).map (fun i => (i.zero, i.size, i.bytes)) = some (some (.string ByteArray.empty), 1, 16) := by kernel_rfl

section
variable {ops : Array Oper} {rest : List Oper} {o : Oper} {a : Act} {Q : Exit → Act → World → Prop}

/-- 'l = append(l, s)', l of the call's own. -/
theorem wp_pushS (w : World) (n0 : Nat) (hn0 : n0 = w.heap.size) (hgd : o.guard = none) (s x : Operand) (ho : o.op = .call { callee := .builtin .append, args := #[s, x], argTypes := #[42, 42] })
    (B : Nat) (v : Value) (n : Nat) (xs : List Value) (z : ByteArray) (hs : a.eval s = v) (hown : w.ownsRow B 9 1 v n xs) (hx : a.eval x = .slice (some ⟨n0, 0, none⟩) 1 1) (hlen : n + 1 ≤ 1000001) (hB : B ≤ w.heap.size)
    (h : ∀ g cap w', w'.ownsRow B 9 1 (.slice (some ⟨g, 0, none⟩) (n + 1) cap) (n + 1) (xs ++ [.string z]) → Below B w w' → wpList Try.prog ops Q rest (a.put o.dst (.slice (some ⟨g, 0, none⟩) (n + 1) cap)) w') :
    wpList Try.prog ops Q (o :: rest) a (w.alloc (.cells #[.string z] 9)) := by
  subst hn0
  obtain ⟨i0, hi, hz0, hz1, hz2⟩ := info_parts Try.infoStr
  refine wpList_append_own _ hgd s x 42 ho B 9 i0 _ 1 _ Try.underlying42 hi hz0 hz1 hz2 rfl (by decide) _ n _ hs (hown.alloc _) ⟨w.heap.size, 0, none⟩ 1 1 [.string z] hx rfl (cell_one_new _ _ _) (by simp [Value.oneCell']) (by unfold maxLen; omega) (by omega) (by simp; omega) ?_
  intro v' w' hown' hgrow _
  have hsh : ∃ g' cap', v' = .slice (some ⟨g', 0, none⟩) (n + 1) cap' := by
    rcases hown'.2 with ⟨_, h0⟩ | ⟨g', cap', _, rfl, _⟩
    · omega
    · exact ⟨g', cap', rfl⟩
  obtain ⟨g', cap', rfl⟩ := hsh
  exact h g' cap' w' hown' (((Below.refl _ _).alloc hB _).grown hgrow (by simp; omega) (fun k hk => (hown.lt k hk).1))
end

section
variable {w : World} {fp : List Nat} {r : Nat} {l : List Ab} {s : Ds}

/-- Rename, of whatever names. -/
theorem Rk.rename (h : Rk w fp r l s) (ho : okA l s) (hn : s.ops ≤ 900000) (nm tn : ByteArray) (htn : tn.size ≤ maxLen) (hs : (beginA l s).1.Pairwise (fun f g => f.1 < g.1)) :
    Calls Try.prog 29 #[.pointer (some ⟨r, 0, none⟩), .string nm, .string tn] w fun e w' =>
      e = .returned (.int .i64 (moveA (beginA l s) nm.data.toList tn.data.toList).1) ∧ ROut w w' fp r (moveA (beginA l s) nm.data.toList tn.data.toList).2 := by
  by_cases hx : errA (beginA l s) nm.data.toList ≠ none ∨ mayB tn.data.toList = false ∨ nm = tn
  · exact h.rename_no ho hn nm tn htn hx hs
  · have he : errA (beginA l s) nm.data.toList = none := by
      cases h0 : errA (beginA l s) nm.data.toList with
      | none => rfl
      | some k => exact absurd (.inl (by rw [h0]; simp)) hx
    have hm : mayB tn.data.toList = true := by
      cases h0 : mayB tn.data.toList with
      | true => rfl
      | false => exact absurd (.inr (.inl h0)) hx
    have hne : nm ≠ tn := fun e => hx (.inr (.inr e))
    have hnb : nm.data.toList ≠ tn.data.toList := by
      intro e
      apply hne
      cases nm; cases tn
      simp only [ByteArray.mk.injEq]
      exact Array.toList_inj.1 e
    have hd : (beginA l s).2.down = false := by
      unfold errA at he
      cases hdd : (beginA l s).2.down with
      | false => rfl
      | true =>
        rw [if_pos hdd] at he
        cases he
    cases hx1 : lookA (beginA l s).1 nm.data.toList with
    | none =>
      unfold errA at he
      rw [if_neg (by simp [hd]), hx1] at he
      cases he
    | some x =>
      unfold moveA
      simp only [he, hx1]
      rw [if_neg (by simp [hm]), if_neg hnb]
      cases hy : lookA (beginA l s).1 tn.data.toList with
      | none => exact h.rename_new ho hn nm tn htn hm hne hs hd hx1 hy
      | some y => exact h.rename_over ho hn nm tn htn hm hne hs hd hx1 hy

set_option maxRecDepth 100000 in
set_option maxHeartbeats 1000000 in
theorem Rk.list_down (h : Rk w fp r l s) (ho : okA l s) (hn : s.ops ≤ 900000) (hd : (beginA l s).2.down = true) :
    Calls Try.prog 33 #[.pointer (some ⟨r, 0, none⟩)] w fun e w' => e = .returned (.tuple #[.slice none 0 0, .bool false]) ∧ ROut w w' fp r (beginA l s) := by
  have hll : l.length ≤ 1048576 := by have := ho.len; omega
  have BG := hide (h.begins ho (by omega) hll)
  rw [hd] at BG
  generalize beginA l s = A at BG hd ⊢
  clear h ho hd
  go_enter Try.func33, Try.ntmps33
  go_wp2_with fail
  refine BG.out.mono ?_
  rintro e w1 ⟨rfl, o1⟩
  have O1 := hide o1
  clear o1
  go_wp2
  go_ret2
  exact ⟨rfl, O1.out⟩

set_option maxRecDepth 100000 in
set_option maxHeartbeats 1000000 in
theorem Rk.list (h : Rk w fp r l s) (ho : okA l s) (hn : s.ops ≤ 900000) (hd : (beginA l s).2.down = false) :
    Calls Try.prog 33 #[.pointer (some ⟨r, 0, none⟩)] w fun e w' => ∃ v, e = .returned (.tuple #[v, .bool true]) ∧ w'.ownsRow w.heap.size 9 1 v (beginA l s).1.length ((beginA l s).1.map fun x => encStr x.1) ∧
      ∃ fp', Rk w' fp' r (beginA l s).1 (beginA l s).2 ∧ Kept fp w w' ∧ Newly w fp fp' ∧ ∀ y ∈ own v, y ∉ fp' := by
  have hll : l.length ≤ 1048576 := by have := ho.len; omega
  have BG := hide (h.begins ho (by omega) hll)
  have hl1 : (beginA l s).1.length ≤ 1000000 := by rw [beginA_len]; have := ho.len; omega
  rw [hd] at BG
  generalize beginA l s = A at BG hl1 ⊢
  clear h ho hd
  obtain ⟨l1, s1⟩ := A
  simp only at BG hl1 ⊢
  go_enter Try.func33, Try.ntmps33
  go_wp2_with fail
  refine BG.out.mono ?_
  rintro e w1 ⟨rfl, o1⟩
  obtain ⟨fp1, ⟨lv, kv, fs, ks, d1, i1, j1⟩, k1, n1⟩ := o1
  have D1 := hide (And.intro d1 (And.intro i1 (And.intro j1 (And.intro k1 n1))))
  clear i1 j1 k1 n1 d1
  go_wp2
  obtain ⟨n, hnn⟩ : ∃ n, n = l1.length := ⟨_, rfl⟩
  have HNN := hide hnn
  rw [← hnn] at hl1
  clear hnn
  go_loopw [5, 6] (fun v i wr => ∃ k : Nat, i = .int .i64 k ∧ k ≤ n ∧ ∃ g cap, v = .slice (some ⟨g, 0, none⟩) k cap ∧ Hid (wr.ownsRow w1.heap.size 9 1 v k ((l1.take k).map fun x => encStr x.1)) ∧ Hid (Below w1.heap.size w1 wr)) (fun _ i _ => n - (intOf i).toNat)
  case atStart => exact ⟨0, rfl, Nat.zero_le _, _, _, rfl, World.ownsRow_made w1 #[] 0 (Nat.le_refl _) (by unfold maxLen; omega) rfl, (Below.refl _ w1).alloc (Nat.le_refl _) _⟩
  case round =>
    obtain ⟨k, rfl, hk, g, cap, rfl, HO, HB⟩ := hrel
    have dw := D1.out.1.kept (Kept.of_below (fp := []) HB.out) (by simp)
    have hfl := dw.len
    obtain ⟨a0, cap0, hlv⟩ := dw.slice
    have c1 := dw.cellAt.2.1
    rw [hlv, hfl, ← HNN.out] at c1
    by_cases hlt : k < n
    · have hkl2 : k < l1.length := by have := HNN.out; omega
      have hk2 : k < fs.length := by omega
      obtain ⟨g', cap', he, d0, _, _⟩ := dw.fileAt k hk2
      rw [hlv] at he
      simp only [Value.slice.injEq, true_and] at he
      obtain ⟨rfl, rfl⟩ := he
      have hnm := (dw.files k hk2 (by omega)).1
      obtain ⟨t, ht⟩ : ∃ t, t = fs[k].1 := ⟨_, rfl⟩
      rw [← ht] at d0 hnm
      have HNM : Hid (Value.string t = encStr (l1[k]'hkl2).1) := by
        show _ = _
        rw [← hnm]
      have hkn : (k : Int) < (n : Int) := by omega
      have hkl : k + 1 ≤ 1000000 := by omega
      clear ht hnm hlv hfl dw
      go_wp2_with (refine wp_pushS _ wr.heap.size rfl rfl (.tmp 21) (.tmp 30) rfl w1.heap.size _ k _ t rfl HO.out rfl (by omega) HB.out.size ?_; intro g4 cap4 w4 o4 b4; have O4 := hide o4; have B4 := hide b4; clear o4 b4)
      go_roundw
      case rel =>
        refine ⟨k + 1, by go_num, by omega, _, _, rfl, ?_, HB.out.trans B4.out⟩
        have o := O4.out
        rw [HNM.out] at o
        show World.ownsRow _ _ _ _ _ _ _
        rw [List.take_succ_eq_append_getElem hkl2, List.map_append]
        exact o
      case measure => simp [intOf]; omega
    · obtain rfl : k = n := by omega
      clear dw hlv hfl
      go_wp2
      go_ret2
      refine ⟨_, rfl, ?_, ?_⟩
      · have o := HO.out
        rw [HNN.out, List.take_length] at o
        rw [HNN.out]
        exact ownsRow_base_a o D1.out.2.2.2.1.size
      · obtain ⟨d1, i1, j1, k1, n1⟩ := D1.out
        subst j1
        refine ⟨_, ⟨lv, kv, fs, ks, d1.kept (Kept.of_below (fp := []) HB.out) (by simp), i1, rfl⟩, k1.trans (Kept.of_below HB.out) (Newly.refl _ _), n1, fun y hy e => ?_⟩
        have h1 := World.ownsRow.lt HO.out y (by simpa [own] using hy)
        have h2 := d1.low y e
        omega
end

end Go.Proofs.Ytahhokhhgamelaa

namespace Go.Proofs.Ytahhokhhgamelaa
open Go.RowKit Go.Maps Go.Sort Go.Shelf

/-- The blocks hs are as they were. -/
def Hld (hs : List Nat) (w w' : World) : Prop := ∃ fp, Kept fp w w' ∧ ∀ x ∈ hs, x ∉ fp

theorem Hld.heap {hs : List Nat} {w w' : World} (h : Hld hs w w') {b : Nat} {o : Obj} (e : w.heap[b]? = some o) (hb : b ∈ hs) : w'.heap[b]? = some o := by
  obtain ⟨fp, k, a⟩ := h
  exact k.heapAt e (a b hb)

theorem RowB.hld {w w' : World} {hs : List Nat} {v : Value} {l : List Int} (h : RowB w v l) (k : Hld hs w w') (hv : ∀ x ∈ own v, x ∈ hs) : RowB w' v l := by
  obtain ⟨fp, k, a⟩ := k
  exact h.kept k (fun x hx => a x (hv x hx))

/-- The disk p has A, the document's disk r has C; blocks hs are held beside both; all of it is new since w0. -/
def Half (w0 w : World) (p r : Nat) (hs : List Nat) (A C : List Ab × Ds) : Prop :=
  ∃ fp rp, Dk w fp p A.1 A.2 ∧ Rk w rp r C.1 C.2 ∧ (∀ x ∈ fp, x ∉ rp) ∧ (∀ x ∈ fp, w0.heap.size ≤ x) ∧ (∀ x ∈ rp, w0.heap.size ≤ x) ∧ Below w0.heap.size w0 w ∧ (∀ x ∈ hs, x < w.heap.size ∧ x ∉ fp ∧ x ∉ rp) ∧ okA C.1 C.2 ∧ C.1.Pairwise (fun f g => f.1 < g.1)

theorem Rk.self {w : World} {fp : List Nat} {r : Nat} {l : List Ab} {s : Ds} (h : Rk w fp r l s) : r ∈ fp := by
  obtain ⟨lv, kv, fs, ks, _, _, rfl⟩ := h
  simp [rfeet]

theorem sorted_names {l m : List Ab} (h : l.Pairwise (fun f g => f.1 < g.1)) (e : m.map (fun x => x.1) = l.map (fun x => x.1)) : m.Pairwise (fun f g => f.1 < g.1) := by
  have h1 : (l.map (fun x => x.1)).Pairwise (fun a b => a < b) := List.pairwise_map.2 h
  rw [← e] at h1
  exact List.pairwise_map.1 h1

theorem crashA_sorted {ks : List Bool} {l : List Ab} {s : Ds} (h : l.Pairwise (fun f g => f.1 < g.1)) : (crashA ks l s).1.Pairwise (fun f g => f.1 < g.1) := by
  unfold crashA
  split
  · exact h
  · exact sorted_names h (torn_names ks l 0)

theorem beginA_sorted {l : List Ab} {s : Ds} (h : l.Pairwise (fun f g => f.1 < g.1)) : (beginA l s).1.Pairwise (fun f g => f.1 < g.1) := by
  unfold beginA
  split
  · exact h
  · split
    · exact h
    · exact crashA_sorted h

section
variable {w0 w w' : World} {p r : Nat} {hs : List Nat} {A C : List Ab × Ds}

theorem Half.less {hs' : List Nat} (h : Half w0 w p r hs A C) (hh : ∀ x ∈ hs', x ∈ hs) : Half w0 w p r hs' A C := by
  obtain ⟨fp, rp, D, R, x1, b1, b2, bl, hv, ok, so⟩ := h
  exact ⟨fp, rp, D, R, x1, b1, b2, bl, fun x hx => hv x (hh x hx), ok, so⟩

theorem Half.new (h : Half w0 w p r hs A C) (k : Below w.heap.size w w') {hs' : List Nat} (hh : ∀ x ∈ hs', x ∈ hs ∨ (w.heap.size ≤ x ∧ x < w'.heap.size)) : Half w0 w' p r hs' A C := by
  obtain ⟨fp, rp, D, R, x1, b1, b2, bl, hv, ok, so⟩ := h
  refine ⟨fp, rp, D.below k, R.below k, x1, b1, b2, bl.trans (k.mono bl.size), fun x hx => ?_, ok, so⟩
  rcases hh x hx with u | ⟨u, u2⟩
  · exact ⟨Nat.lt_of_lt_of_le (hv x u).1 k.size, (hv x u).2⟩
  · exact ⟨u2, fun e => by have := D.lt x e; omega, fun e => by have := R.lt x e; omega⟩

/-- A held block is stored to. -/
theorem Half.touch (h : Half w0 w p r hs A C) {b : Nat} (hb : b ∈ hs) (k : Kept [b] w w') (hb0 : w0.heap.size ≤ b) : Half w0 w' p r hs A C := by
  obtain ⟨fp, rp, D, R, x1, b1, b2, bl, hv, ok, so⟩ := h
  have hb2 := hv b hb
  refine ⟨fp, rp, D.kept k (fun x hx e => by simp at e; subst e; exact hb2.2.1 hx), R.kept k (fun x hx e => by simp at e; subst e; exact hb2.2.2 hx), x1, b1, b2, bl.trans (k.below bl.size (by simpa using hb0)), fun x hx => ⟨Nat.lt_of_lt_of_le (hv x hx).1 k.size, (hv x hx).2⟩, ok, so⟩

theorem Half.bel (h : Half w0 w p r hs A C) : Below w0.heap.size w0 w := by
  obtain ⟨fp, rp, D, R, x1, b1, b2, bl, hv, ok, so⟩ := h
  exact bl

/-- What an operation of the disk leaves. -/
theorem setD {fp rp : List Nat} (R : Rk w rp r C.1 C.2) (x1 : ∀ x ∈ fp, x ∉ rp) (b1 : ∀ x ∈ fp, w0.heap.size ≤ x) (b2 : ∀ x ∈ rp, w0.heap.size ≤ x) (bl : Below w0.heap.size w0 w) (hv : ∀ x ∈ hs, x < w.heap.size ∧ x ∉ fp ∧ x ∉ rp) (ok : okA C.1 C.2) (so : C.1.Pairwise (fun f g => f.1 < g.1)) {A' : List Ab × Ds} (o : Outc w w' fp p A') :
    Half w0 w' p r hs A' C ∧ Hld hs w w' := by
  obtain ⟨fp', d', k', n'⟩ := o
  refine ⟨⟨fp', rp, d', R.kept k' (fun x hx e => x1 x e hx), fun x hx e => ?_, fun x hx => ?_, b2, bl.trans (k'.below bl.size b1), fun x hx => ⟨Nat.lt_of_lt_of_le (hv x hx).1 k'.size, fun e => ?_, (hv x hx).2.2⟩, ok, so⟩, fp, k', fun x hx => (hv x hx).2.1⟩
  · rcases n' x hx with u | u
    · exact x1 x u e
    · have := R.lt x e; omega
  · rcases n' x hx with u | u
    · exact b1 x u
    · have := bl.size; omega
  · rcases n' x e with u | u
    · exact (hv x hx).2.1 u
    · have := (hv x hx).1; omega

/-- What an operation of the document's disk leaves. -/
theorem setR {fp rp : List Nat} {A' : List Ab × Ds} (D : Dk w fp p A'.1 A'.2) (x1 : ∀ x ∈ fp, x ∉ rp) (b1 : ∀ x ∈ fp, w0.heap.size ≤ x) (b2 : ∀ x ∈ rp, w0.heap.size ≤ x) (bl : Below w0.heap.size w0 w) (hv : ∀ x ∈ hs, x < w.heap.size ∧ x ∉ fp ∧ x ∉ rp) (o : ROut w w' rp r A') :
    Half w0 w' p r hs A' A' ∧ Hld hs w w' := by
  obtain ⟨rp', d', k', n'⟩ := o
  refine ⟨⟨fp, rp', D.kept k' (fun x hx e => x1 x hx e), d', fun x hx e => ?_, b1, fun x hx => ?_, bl.trans (k'.below bl.size b2), fun x hx => ⟨Nat.lt_of_lt_of_le (hv x hx).1 k'.size, (hv x hx).2.1, fun e => ?_⟩, D.ok, D.sorted⟩, rp, k', fun x hx => (hv x hx).2.2⟩
  · rcases n' x e with u | u
    · exact x1 x hx u
    · have := D.lt x hx; omega
  · rcases n' x hx with u | u
    · exact b2 x u
    · have := bl.size; omega
  · rcases n' x e with u | u
    · exact (hv x hx).2.2 u
    · have := (hv x hx).1; omega
end

end Go.Proofs.Ytahhokhhgamelaa

namespace Go.Proofs.Ytahhokhhgamelaa
open Go.RowKit Go.Maps Go.Sort Go.Shelf
set_option linter.unusedVariables false

/-- What ReadAt answers. -/
def readA (A : List Ab × Ds) (n : List UInt8) (a m : Int) : List Int × Int := match errA A n with
  | some k => ([], k)
  | none => match lookA A.1 n with
    | none => ([], 0)
    | some x => if a < 0 ∨ m < 0 ∨ (x.2.1.length : Int) - a < m then ([], 1) else ((x.2.1.drop a.toNat).take m.toNat, 0)

/-- What List answers. -/
def listA (A : List Ab × Ds) : List (List UInt8) × Int := if A.2.down = true then ([], 7) else (A.1.map (fun x => x.1), 0)

/-- A row of texts of one's own. -/
def RowS (w : World) (v : Value) (ss : List (List UInt8)) : Prop := w.ownsRow 0 9 1 v ss.length (ss.map encStr)

theorem errA_look {A : List Ab × Ds} {n : List UInt8} (h : errA A n = none) : ∃ x, lookA A.1 n = some x := by
  unfold errA at h
  split at h
  · cases h
  · cases hx : lookA A.1 n with
    | none => rw [hx] at h; cases h
    | some x => exact ⟨x, rfl⟩

section
variable {w : World} {fp : List Nat} {p : Nat} {l : List Ab} {s : Ds}

theorem Dk.sync (h : Dk w fp p l s) (hn : s.ops ≤ 1000000) (nm : ByteArray) (hnm : nm.size ≤ maxLen) :
    Calls Try.prog 26 #[.pointer (some ⟨p, 0, none⟩), .string nm] w fun e w' => e = .returned (.int .i64 (syncA (beginA l s) nm.data.toList).1) ∧ Outc w w' fp p (syncA (beginA l s) nm.data.toList).2 := by
  unfold syncA
  cases he : errA (beginA l s) nm.data.toList with
  | some k => exact h.sync_err hn nm hnm he
  | none =>
    obtain ⟨x, hx⟩ := errA_look he
    simp only [hx]
    exact h.sync_ok hn nm hnm he hx

theorem Dk.remove (h : Dk w fp p l s) (hn : s.ops ≤ 1000000) (nm : ByteArray) (hnm : nm.size ≤ maxLen) :
    Calls Try.prog 30 #[.pointer (some ⟨p, 0, none⟩), .string nm] w fun e w' => e = .returned (.int .i64 (dropA (beginA l s) nm.data.toList).1) ∧ Outc w w' fp p (dropA (beginA l s) nm.data.toList).2 := by
  unfold dropA
  cases he : errA (beginA l s) nm.data.toList with
  | some k => exact h.remove_err hn nm hnm he
  | none =>
    obtain ⟨x, hx⟩ := errA_look he
    simp only [hx]
    exact h.remove_ok hn nm hnm he hx

theorem Dk.rename (h : Dk w fp p l s) (hn : s.ops ≤ 1000000) (nm : ByteArray) (hnm : nm.size ≤ maxLen) (tn : ByteArray) (htn : tn.size ≤ maxLen) :
    Calls Try.prog 28 #[.pointer (some ⟨p, 0, none⟩), .string nm, .string tn] w fun e w' => e = .returned (.int .i64 (moveA (beginA l s) nm.data.toList tn.data.toList).1) ∧ Outc w w' fp p (moveA (beginA l s) nm.data.toList tn.data.toList).2 := by
  unfold moveA
  cases he : errA (beginA l s) nm.data.toList with
  | some k => exact h.rename_err hn nm hnm tn he
  | none =>
    obtain ⟨x, hx⟩ := errA_look he
    simp only [hx]
    cases hm : mayB tn.data.toList with
    | false =>
      rw [if_pos rfl]
      exact h.rename_arg hn nm hnm tn htn hm he hx
    | true =>
      rw [if_neg (by simp)]
      by_cases e : nm.data.toList = tn.data.toList
      · rw [if_pos e]
        exact h.rename_new hn nm hnm tn htn hm he hx (.inl e)
      · rw [if_neg e]
        cases hy : lookA (beginA l s).1 tn.data.toList with
        | none => exact h.rename_new hn nm hnm tn htn hm he hx (.inr hy)
        | some y => exact h.rename_over hn nm hnm tn htn hm he hx e hy
end

section
variable {w0 w : World} {p r : Nat} {hs : List Nat} {A : List Ab × Ds} {l : List Ab} {s : Ds}

theorem Duo.create (h : Half w0 w p r hs (l, s) (l, s)) (hn : s.ops ≤ 800000) (nm : ByteArray) (hnm : nm.size ≤ maxLen) :
    Calls Try.prog 16 #[.pointer (some ⟨p, 0, none⟩), .string nm] w fun e w' => e = .returned (.int .i64 (createA (beginA l s) nm.data.toList).1) ∧ Half w0 w' p r hs (createA (beginA l s) nm.data.toList).2 (l, s) ∧ Hld hs w w' := by
  obtain ⟨fp, rp, D, R, x1, b1, b2, bl, hv, ok, so⟩ := h
  simp only at D R ok so
  refine (D.create (by omega) nm hnm).mono ?_
  rintro e w' ⟨rfl, o⟩
  exact ⟨rfl, setD R x1 b1 b2 bl hv ok so o⟩

theorem Half.create (nm : ByteArray) (hnm : nm.size ≤ maxLen) (h : Half w0 w p r hs (createA (beginA l s) nm.data.toList).2 (l, s)) (hn : s.ops ≤ 800000) :
    Calls Try.prog 17 #[.pointer (some ⟨r, 0, none⟩), .string nm] w fun e w' => e = .returned (.int .i64 (createA (beginA l s) nm.data.toList).1) ∧ Half w0 w' p r hs (createA (beginA l s) nm.data.toList).2 (createA (beginA l s) nm.data.toList).2 ∧ Hld hs w w' := by
  obtain ⟨fp, rp, D, R, x1, b1, b2, bl, hv, ok, so⟩ := h
  simp only at R ok so
  refine (R.create ok (by omega) nm hnm).mono ?_
  rintro e w' ⟨rfl, o⟩
  exact ⟨rfl, setR D x1 b1 b2 bl hv o⟩

theorem Duo.sync (h : Half w0 w p r hs (l, s) (l, s)) (hn : s.ops ≤ 800000) (nm : ByteArray) (hnm : nm.size ≤ maxLen) :
    Calls Try.prog 26 #[.pointer (some ⟨p, 0, none⟩), .string nm] w fun e w' => e = .returned (.int .i64 (syncA (beginA l s) nm.data.toList).1) ∧ Half w0 w' p r hs (syncA (beginA l s) nm.data.toList).2 (l, s) ∧ Hld hs w w' := by
  obtain ⟨fp, rp, D, R, x1, b1, b2, bl, hv, ok, so⟩ := h
  simp only at D R ok so
  refine (D.sync (by omega) nm hnm).mono ?_
  rintro e w' ⟨rfl, o⟩
  exact ⟨rfl, setD R x1 b1 b2 bl hv ok so o⟩

theorem Half.sync (nm : ByteArray) (hnm : nm.size ≤ maxLen) (h : Half w0 w p r hs (syncA (beginA l s) nm.data.toList).2 (l, s)) (hn : s.ops ≤ 800000) :
    Calls Try.prog 27 #[.pointer (some ⟨r, 0, none⟩), .string nm] w fun e w' => e = .returned (.int .i64 (syncA (beginA l s) nm.data.toList).1) ∧ Half w0 w' p r hs (syncA (beginA l s) nm.data.toList).2 (syncA (beginA l s) nm.data.toList).2 ∧ Hld hs w w' := by
  obtain ⟨fp, rp, D, R, x1, b1, b2, bl, hv, ok, so⟩ := h
  simp only at R ok so
  refine (R.sync ok (by omega) (beginA_sorted so) nm).mono ?_
  rintro e w' ⟨rfl, o⟩
  exact ⟨rfl, setR D x1 b1 b2 bl hv o⟩

theorem Duo.remove (h : Half w0 w p r hs (l, s) (l, s)) (hn : s.ops ≤ 800000) (nm : ByteArray) (hnm : nm.size ≤ maxLen) :
    Calls Try.prog 30 #[.pointer (some ⟨p, 0, none⟩), .string nm] w fun e w' => e = .returned (.int .i64 (dropA (beginA l s) nm.data.toList).1) ∧ Half w0 w' p r hs (dropA (beginA l s) nm.data.toList).2 (l, s) ∧ Hld hs w w' := by
  obtain ⟨fp, rp, D, R, x1, b1, b2, bl, hv, ok, so⟩ := h
  simp only at D R ok so
  refine (D.remove (by omega) nm hnm).mono ?_
  rintro e w' ⟨rfl, o⟩
  exact ⟨rfl, setD R x1 b1 b2 bl hv ok so o⟩

theorem Half.remove (nm : ByteArray) (hnm : nm.size ≤ maxLen) (h : Half w0 w p r hs (dropA (beginA l s) nm.data.toList).2 (l, s)) (hn : s.ops ≤ 800000) :
    Calls Try.prog 31 #[.pointer (some ⟨r, 0, none⟩), .string nm] w fun e w' => e = .returned (.int .i64 (dropA (beginA l s) nm.data.toList).1) ∧ Half w0 w' p r hs (dropA (beginA l s) nm.data.toList).2 (dropA (beginA l s) nm.data.toList).2 ∧ Hld hs w w' := by
  obtain ⟨fp, rp, D, R, x1, b1, b2, bl, hv, ok, so⟩ := h
  simp only at R ok so
  refine (R.remove ok (by omega) (beginA_sorted so) nm).mono ?_
  rintro e w' ⟨rfl, o⟩
  exact ⟨rfl, setR D x1 b1 b2 bl hv o⟩

theorem Duo.rename (h : Half w0 w p r hs (l, s) (l, s)) (hn : s.ops ≤ 800000) (nm : ByteArray) (hnm : nm.size ≤ maxLen) (tn : ByteArray) (htn : tn.size ≤ maxLen) :
    Calls Try.prog 28 #[.pointer (some ⟨p, 0, none⟩), .string nm, .string tn] w fun e w' => e = .returned (.int .i64 (moveA (beginA l s) nm.data.toList tn.data.toList).1) ∧ Half w0 w' p r hs (moveA (beginA l s) nm.data.toList tn.data.toList).2 (l, s) ∧ Hld hs w w' := by
  obtain ⟨fp, rp, D, R, x1, b1, b2, bl, hv, ok, so⟩ := h
  simp only at D R ok so
  refine (D.rename (by omega) nm hnm tn htn).mono ?_
  rintro e w' ⟨rfl, o⟩
  exact ⟨rfl, setD R x1 b1 b2 bl hv ok so o⟩

theorem Half.rename (nm : ByteArray) (hnm : nm.size ≤ maxLen) (tn : ByteArray) (htn : tn.size ≤ maxLen) (h : Half w0 w p r hs (moveA (beginA l s) nm.data.toList tn.data.toList).2 (l, s)) (hn : s.ops ≤ 800000) :
    Calls Try.prog 29 #[.pointer (some ⟨r, 0, none⟩), .string nm, .string tn] w fun e w' => e = .returned (.int .i64 (moveA (beginA l s) nm.data.toList tn.data.toList).1) ∧ Half w0 w' p r hs (moveA (beginA l s) nm.data.toList tn.data.toList).2 (moveA (beginA l s) nm.data.toList tn.data.toList).2 ∧ Hld hs w w' := by
  obtain ⟨fp, rp, D, R, x1, b1, b2, bl, hv, ok, so⟩ := h
  simp only at R ok so
  refine (R.rename ok (by omega) nm tn htn (beginA_sorted so)).mono ?_
  rintro e w' ⟨rfl, o⟩
  exact ⟨rfl, setR D x1 b1 b2 bl hv o⟩

theorem Duo.append (h : Half w0 w p r hs (l, s) (l, s)) (hn : s.ops ≤ 800000) (nm : ByteArray) (hnm : nm.size ≤ maxLen) (ua : Option Addr) (un uc : Nat) (cs : List Int) (hu0 : IsB w0 (.slice ua un uc) cs) (hcs : cs.length = un) (hcl : un ≤ 1073741824) :
    Calls Try.prog 18 #[.pointer (some ⟨p, 0, none⟩), .string nm, .slice ua un uc] w fun e w' => e = .returned (.int .i64 (appendA (beginA l s) nm.data.toList cs).1) ∧ Half w0 w' p r hs (appendA (beginA l s) nm.data.toList cs).2 (l, s) ∧ Hld hs w w' := by
  obtain ⟨fp, rp, D, R, x1, b1, b2, bl, hv, ok, so⟩ := h
  simp only at D R ok so
  have hu := hu0.below bl
  have hlt : cs ≠ [] → ∀ x ∈ own (.slice ua un uc), x < w0.heap.size := fun hne => hu0.lt hne
  refine (D.append (by omega) nm hnm (.slice ua un uc) cs hu (by omega) (fun hne x hx e => by have := hlt hne x hx; have := b1 x e; omega)).mono ?_
  rintro e w' ⟨rfl, o⟩
  exact ⟨rfl, setD R x1 b1 b2 bl hv ok so o⟩

theorem Half.append (nm : ByteArray) (hnm : nm.size ≤ maxLen) (ua : Option Addr) (un uc : Nat) (cs : List Int) (hu0 : IsB w0 (.slice ua un uc) cs) (hcs : cs.length = un) (hcl : un ≤ 1073741824) (h : Half w0 w p r hs (appendA (beginA l s) nm.data.toList cs).2 (l, s)) (hn : s.ops ≤ 800000) :
    Calls Try.prog 19 #[.pointer (some ⟨r, 0, none⟩), .string nm, .slice ua un uc] w fun e w' => e = .returned (.int .i64 (appendA (beginA l s) nm.data.toList cs).1) ∧ Half w0 w' p r hs (appendA (beginA l s) nm.data.toList cs).2 (appendA (beginA l s) nm.data.toList cs).2 ∧ Hld hs w w' := by
  obtain ⟨fp, rp, D, R, x1, b1, b2, bl, hv, ok, so⟩ := h
  simp only at R ok so
  have hu := hu0.below bl
  have hlt : cs ≠ [] → ∀ x ∈ own (.slice ua un uc), x < w0.heap.size := fun hne => hu0.lt hne
  refine (R.append ok (by omega) (beginA_sorted so) nm ua un uc cs hcs hcl hu (fun hne x hx e => by have := hlt hne x hx; have := b2 x e; omega)).mono ?_
  rintro e w' ⟨rfl, o⟩
  exact ⟨rfl, setR D x1 b1 b2 bl hv o⟩

theorem Duo.writeAt (h : Half w0 w p r hs (l, s) (l, s)) (hn : s.ops ≤ 800000) (nm : ByteArray) (hnm : nm.size ≤ maxLen) (at_ : Int) (h64 : -9223372036854775808 ≤ at_ ∧ at_ ≤ 9223372036854775807) (ua : Option Addr) (un uc : Nat) (cs : List Int) (hu0 : IsB w0 (.slice ua un uc) cs) (hcs : cs.length = un) (hcl : un ≤ 1073741824) :
    Calls Try.prog 20 #[.pointer (some ⟨p, 0, none⟩), .string nm, .int .i64 at_, .slice ua un uc] w fun e w' => e = .returned (.int .i64 (writeAtA (beginA l s) nm.data.toList at_ cs).1) ∧ Half w0 w' p r hs (writeAtA (beginA l s) nm.data.toList at_ cs).2 (l, s) ∧ Hld hs w w' := by
  obtain ⟨fp, rp, D, R, x1, b1, b2, bl, hv, ok, so⟩ := h
  simp only at D R ok so
  have hu := hu0.below bl
  have hlt : cs ≠ [] → ∀ x ∈ own (.slice ua un uc), x < w0.heap.size := fun hne => hu0.lt hne
  refine (D.writeAt (by omega) nm hnm at_ h64 (.slice ua un uc) cs hu (by omega) (fun hne x hx e => by have := hlt hne x hx; have := b1 x e; omega)).mono ?_
  rintro e w' ⟨rfl, o⟩
  exact ⟨rfl, setD R x1 b1 b2 bl hv ok so o⟩

theorem Half.writeAt (nm : ByteArray) (hnm : nm.size ≤ maxLen) (at_ : Int) (h64 : -9223372036854775808 ≤ at_ ∧ at_ ≤ 9223372036854775807) (ua : Option Addr) (un uc : Nat) (cs : List Int) (hu0 : IsB w0 (.slice ua un uc) cs) (hcs : cs.length = un) (hcl : un ≤ 1073741824) (h : Half w0 w p r hs (writeAtA (beginA l s) nm.data.toList at_ cs).2 (l, s)) (hn : s.ops ≤ 800000) :
    Calls Try.prog 21 #[.pointer (some ⟨r, 0, none⟩), .string nm, .int .i64 at_, .slice ua un uc] w fun e w' => e = .returned (.int .i64 (writeAtA (beginA l s) nm.data.toList at_ cs).1) ∧ Half w0 w' p r hs (writeAtA (beginA l s) nm.data.toList at_ cs).2 (writeAtA (beginA l s) nm.data.toList at_ cs).2 ∧ Hld hs w w' := by
  obtain ⟨fp, rp, D, R, x1, b1, b2, bl, hv, ok, so⟩ := h
  simp only at R ok so
  have hu := hu0.below bl
  have hlt : cs ≠ [] → ∀ x ∈ own (.slice ua un uc), x < w0.heap.size := fun hne => hu0.lt hne
  refine (R.writeAt ok (by omega) (beginA_sorted so) nm at_ h64 ua un uc cs hcs hcl hu (fun hne x hx e => by have := hlt hne x hx; have := b2 x e; omega)).mono ?_
  rintro e w' ⟨rfl, o⟩
  exact ⟨rfl, setR D x1 b1 b2 bl hv o⟩

theorem Duo.size (h : Half w0 w p r hs (l, s) (l, s)) (hn : s.ops ≤ 800000) (nm : ByteArray) (hnm : nm.size ≤ maxLen) :
    Calls Try.prog 24 #[.pointer (some ⟨p, 0, none⟩), .string nm] w fun e w' => e = .returned (.tuple #[.int .i64 (sizeA (beginA l s) nm.data.toList).1, .int .i64 (sizeA (beginA l s) nm.data.toList).2]) ∧ Half w0 w' p r hs (beginA l s) (l, s) ∧ Hld hs w w' := by
  obtain ⟨fp, rp, D, R, x1, b1, b2, bl, hv, ok, so⟩ := h
  simp only at D R ok so
  refine (D.size (by omega) nm hnm).mono ?_
  rintro e w' ⟨rfl, o⟩
  exact ⟨rfl, setD R x1 b1 b2 bl hv ok so o⟩

theorem Half.size (nm : ByteArray) (hnm : nm.size ≤ maxLen) (h : Half w0 w p r hs (beginA l s) (l, s)) (hn : s.ops ≤ 800000) :
    Calls Try.prog 25 #[.pointer (some ⟨r, 0, none⟩), .string nm] w fun e w' => e = .returned (.tuple #[.int .i64 (sizeA (beginA l s) nm.data.toList).1, .int .i64 (sizeA (beginA l s) nm.data.toList).2]) ∧ Half w0 w' p r hs (beginA l s) (beginA l s) ∧ Hld hs w w' := by
  obtain ⟨fp, rp, D, R, x1, b1, b2, bl, hv, ok, so⟩ := h
  simp only at R ok so
  refine (R.size ok (by omega) nm).mono ?_
  rintro e w' ⟨rfl, o⟩
  exact ⟨rfl, setR D x1 b1 b2 bl hv o⟩

theorem Duo.crash (h : Half w0 w p r hs (l, s) (l, s)) (hn : s.ops ≤ 800000) (u : Value) (ks : List Bool) (hu0 : IsK w0 u ks) (hkl : ks.length ≤ 1099511627776) :
    Calls Try.prog 35 #[.pointer (some ⟨p, 0, none⟩), u] w fun e w' => e = .returned (.tuple #[]) ∧ Half w0 w' p r hs (crashA ks l s) (l, s) ∧ Hld hs w w' := by
  obtain ⟨fp, rp, D, R, x1, b1, b2, bl, hv, ok, so⟩ := h
  simp only at D R ok so
  have hu := hu0.below bl
  have hlt : ks ≠ [] → ∀ x ∈ own u, x < w0.heap.size := fun hne => hu0.lt hne
  refine (D.crash (by omega) u ks hu (fun hne x hx e => by have := hlt hne x hx; have := b1 x e; omega) hkl).mono ?_
  rintro e w' ⟨rfl, o⟩
  exact ⟨rfl, setD R x1 b1 b2 bl hv ok so o⟩

theorem Half.crash (u : Value) (ks : List Bool) (hu0 : IsK w0 u ks) (hkl : ks.length ≤ 1099511627776) (h : Half w0 w p r hs (crashA ks l s) (l, s)) (hn : s.ops ≤ 800000) :
    Calls Try.prog 36 #[.pointer (some ⟨r, 0, none⟩), u] w fun e w' => e = .returned (.tuple #[]) ∧ Half w0 w' p r hs (crashA ks l s) (crashA ks l s) ∧ Hld hs w w' := by
  obtain ⟨fp, rp, D, R, x1, b1, b2, bl, hv, ok, so⟩ := h
  simp only at R ok so
  have hu := hu0.below bl
  have hlt : ks ≠ [] → ∀ x ∈ own u, x < w0.heap.size := fun hne => hu0.lt hne
  refine (R.crash ok (by have := ok.len; omega) u ks hu (fun lv kv fs ks0 _ e2 hne x hx e => by have := hlt hne x hx; have := b2 x (by rw [e2]; simp only [rfeet, List.mem_append]; exact .inl (.inl e)); omega)).mono ?_
  rintro e w' ⟨rfl, o⟩
  exact ⟨rfl, setR D x1 b1 b2 bl hv o⟩

theorem Duo.arm (h : Half w0 w p r hs (l, s) (l, s)) (hn : s.ops ≤ 800000) (n : Int) (h64 : n ≤ 9223372036854775807) (u : Value) (ks : List Bool) (hu0 : IsK w0 u ks) (hkl : ks.length ≤ 1099511627776) :
    Calls Try.prog 38 #[.pointer (some ⟨p, 0, none⟩), .int .i64 n, u] w fun e w' => e = .returned (.tuple #[]) ∧ Half w0 w' p r hs (armA l s n ks) (l, s) ∧ Hld hs w w' := by
  obtain ⟨fp, rp, D, R, x1, b1, b2, bl, hv, ok, so⟩ := h
  simp only at D R ok so
  have hu := hu0.below bl
  have hlt : ks ≠ [] → ∀ x ∈ own u, x < w0.heap.size := fun hne => hu0.lt hne
  refine (D.arm n h64 u ks hu (fun hne x hx e => by have := hlt hne x hx; have := b1 x e; omega) hkl).mono ?_
  rintro e w' ⟨rfl, o⟩
  exact ⟨rfl, setD R x1 b1 b2 bl hv ok so o⟩

theorem Half.arm (n : Int) (h64 : n ≤ 9223372036854775807) (u : Value) (ks : List Bool) (hu0 : IsK w0 u ks) (hkl : ks.length ≤ 1099511627776) (h : Half w0 w p r hs (armA l s n ks) (l, s)) (hn : s.ops ≤ 800000) :
    Calls Try.prog 39 #[.pointer (some ⟨r, 0, none⟩), .int .i64 n, u] w fun e w' => e = .returned (.tuple #[]) ∧ Half w0 w' p r hs (armA l s n ks) (armA l s n ks) ∧ Hld hs w w' := by
  obtain ⟨fp, rp, D, R, x1, b1, b2, bl, hv, ok, so⟩ := h
  simp only at R ok so
  have hu := hu0.below bl
  have hlt : ks ≠ [] → ∀ x ∈ own u, x < w0.heap.size := fun hne => hu0.lt hne
  refine (R.arm n u ks hu (fun hne x hx e => by have := hlt hne x hx; have := b2 r R.self; omega) hkl).mono ?_
  rintro e w' ⟨rfl, o⟩
  exact ⟨rfl, setR D x1 b1 b2 bl hv o⟩

theorem Duo.restart (h : Half w0 w p r hs (l, s) (l, s)) : Calls Try.prog 37 #[.pointer (some ⟨p, 0, none⟩)] w fun e w' => e = .returned (.tuple #[]) ∧ Half w0 w' p r hs (l, { s with down := false }) (l, s) ∧ Hld hs w w' := by
  obtain ⟨fp, rp, D, R, x1, b1, b2, bl, hv, ok, so⟩ := h
  refine D.restart.mono ?_
  rintro e w' ⟨rfl, o⟩
  exact ⟨rfl, setD R x1 b1 b2 bl hv ok so o⟩

theorem Half.restart (h : Half w0 w p r hs (l, { s with down := false }) (l, s)) : w.cell? ⟨r, 5, none⟩ = some (.bool s.down) ∧ w.frozen? ⟨r, 5, none⟩ = false ∧ Half w0 (w.setCell ⟨r, 5, none⟩ (.bool false)) p r hs (l, { s with down := false }) (l, { s with down := false }) ∧ Hld hs w (w.setCell ⟨r, 5, none⟩ (.bool false)) := by
  obtain ⟨fp, rp, D, R, x1, b1, b2, bl, hv, ok, so⟩ := h
  obtain ⟨_, _, c5, z⟩ := R.cells
  exact ⟨c5, z 5, setR D x1 b1 b2 bl hv R.restart⟩

/-- What the law looks at behind each step. -/
theorem Duo.looks (h : Half w0 w p r hs (l, s) (l, s)) (hn : s.ops ≤ 900000) : ∀ w2, Below w.heap.size w w2 →
    Calls Try.prog 40 #[.pointer (some ⟨p, 0, none⟩)] w2 (fun e w' => e = .returned (.bool s.down) ∧ w' = w2) ∧
    Calls Try.prog 41 #[.pointer (some ⟨p, 0, none⟩)] w2 (fun e w' => e = .returned (.int .i64 s.ops) ∧ w' = w2) ∧
    Calls Try.prog 42 #[.pointer (some ⟨p, 0, none⟩)] w2 (fun e w' => e = .returned (.int .i64 s.used) ∧ w' = w2) ∧
    Calls Try.prog 44 #[.pointer (some ⟨p, 0, none⟩)] w2 (fun e w' => e = .returned (.int .i64 s.room) ∧ w' = w2) ∧
    Calls Try.prog 43 #[.pointer (some ⟨r, 0, none⟩)] w2 (fun e w' => e = .returned (.int .i64 s.used) ∧ w' = w2) ∧
    w2.cell? ⟨r, 0, none⟩ = some (.int .i64 s.room) ∧ w2.cell? ⟨r, 2, none⟩ = some (.int .i64 s.ops) ∧ w2.cell? ⟨r, 5, none⟩ = some (.bool s.down) := by
  intro w2 hb
  obtain ⟨fp, rp, D, R, x1, b1, b2, bl, hv, ok, so⟩ := h
  have D2 := D.below hb
  have R2 := R.below hb
  obtain ⟨c0, c2, c5, z⟩ := R2.cells
  exact ⟨D2.down, D2.ops, D2.used, D2.room, R2.used ok (by simp only at hn ⊢; omega), c0, c2, c5⟩
end

end Go.Proofs.Ytahhokhhgamelaa

namespace Go.Proofs.Ytahhokhhgamelaa
open Go.RowKit Go.Maps Go.Sort Go.Shelf

section
variable {w0 w w' : World} {p r : Nat} {hs : List Nat} {A C : List Ab × Ds} {l : List Ab} {s : Ds}

theorem setD2 {fp rp : List Nat} (R : Rk w rp r C.1 C.2) (x1 : ∀ x ∈ fp, x ∉ rp) (b1 : ∀ x ∈ fp, w0.heap.size ≤ x) (b2 : ∀ x ∈ rp, w0.heap.size ≤ x) (bl : Below w0.heap.size w0 w) (hv : ∀ x ∈ hs, x < w.heap.size ∧ x ∉ fp ∧ x ∉ rp) (ok : okA C.1 C.2) (so : C.1.Pairwise (fun f g => f.1 < g.1)) {A' : List Ab × Ds} {fp' : List Nat} (d' : Dk w' fp' p A'.1 A'.2) (k' : Kept fp w w') (n' : Newly w fp fp') {ys : List Nat} (hy : ∀ y ∈ ys, w.heap.size ≤ y ∧ y < w'.heap.size ∧ y ∉ fp') :
    Half w0 w' p r (ys ++ hs) A' C ∧ Hld hs w w' := by
  refine ⟨⟨fp', rp, d', R.kept k' (fun x hx e => x1 x e hx), fun x hx e => ?_, fun x hx => ?_, b2, bl.trans (k'.below bl.size b1), fun x hx => ?_, ok, so⟩, fp, k', fun x hx => (hv x hx).2.1⟩
  · rcases n' x hx with u | u
    · exact x1 x u e
    · have := R.lt x e; omega
  · rcases n' x hx with u | u
    · exact b1 x u
    · have := bl.size; omega
  · rcases List.mem_append.1 hx with hx | hx
    · exact ⟨(hy x hx).2.1, (hy x hx).2.2, fun e => by have := R.lt x e; have := (hy x hx).1; omega⟩
    · refine ⟨Nat.lt_of_lt_of_le (hv x hx).1 k'.size, fun e => ?_, (hv x hx).2.2⟩
      rcases n' x e with u | u
      · exact (hv x hx).2.1 u
      · have := (hv x hx).1; omega

theorem setR2 {fp rp : List Nat} {A' : List Ab × Ds} (D : Dk w fp p A'.1 A'.2) (x1 : ∀ x ∈ fp, x ∉ rp) (b1 : ∀ x ∈ fp, w0.heap.size ≤ x) (b2 : ∀ x ∈ rp, w0.heap.size ≤ x) (bl : Below w0.heap.size w0 w) (hv : ∀ x ∈ hs, x < w.heap.size ∧ x ∉ fp ∧ x ∉ rp) {rp' : List Nat} (d' : Rk w' rp' r A'.1 A'.2) (k' : Kept rp w w') (n' : Newly w rp rp') {ys : List Nat} (hy : ∀ y ∈ ys, w.heap.size ≤ y ∧ y < w'.heap.size ∧ y ∉ rp') :
    Half w0 w' p r (ys ++ hs) A' A' ∧ Hld hs w w' := by
  refine ⟨⟨fp, rp', D.kept k' (fun x hx e => x1 x hx e), d', fun x hx e => ?_, b1, fun x hx => ?_, bl.trans (k'.below bl.size b2), fun x hx => ?_, D.ok, D.sorted⟩, rp, k', fun x hx => (hv x hx).2.2⟩
  · rcases n' x e with u | u
    · exact x1 x hx u
    · have := D.lt x hx; omega
  · rcases n' x hx with u | u
    · exact b2 x u
    · have := bl.size; omega
  · rcases List.mem_append.1 hx with hx | hx
    · exact ⟨(hy x hx).2.1, fun e => by have := D.lt x e; have := (hy x hx).1; omega, (hy x hx).2.2⟩
    · refine ⟨Nat.lt_of_lt_of_le (hv x hx).1 k'.size, (hv x hx).2.1, fun e => ?_⟩
      rcases n' x e with u | u
      · exact (hv x hx).2.2 u
      · have := (hv x hx).1; omega

theorem Duo.readAt (h : Half w0 w p r hs (l, s) (l, s)) (hn : s.ops ≤ 800000) (nm : ByteArray) (hnm : nm.size ≤ maxLen) (a m : Int) (ha : -9223372036854775808 ≤ a ∧ a ≤ 9223372036854775807) (hm : -9223372036854775808 ≤ m ∧ m ≤ 9223372036854775807) :
    Calls Try.prog 22 #[.pointer (some ⟨p, 0, none⟩), .string nm, .int .i64 a, .int .i64 m] w fun e w' => ∃ v, e = .returned (.tuple #[v, .int .i64 (readA (beginA l s) nm.data.toList a m).2]) ∧ RowB w' v (readA (beginA l s) nm.data.toList a m).1 ∧ Half w0 w' p r (own v ++ hs) (beginA l s) (l, s) ∧ Hld hs w w' ∧ ∀ y ∈ own v, w0.heap.size ≤ y := by
  obtain ⟨fp, rp, D, R, x1, b1, b2, bl, hv, ok, so⟩ := h
  simp only at D R ok so
  have nilF : ∀ w', Outc w w' fp p (beginA l s) → Half w0 w' p r (own (.slice none 0 0) ++ hs) (beginA l s) (l, s) ∧ Hld hs w w' ∧ ∀ y ∈ own (.slice none 0 0), w0.heap.size ≤ y := fun w' o => by
    obtain ⟨q1, q2⟩ := setD (C := (l, s)) R x1 b1 b2 bl hv ok so o
    exact ⟨by simpa [own, Value.ownBlock] using q1, q2, by simp [own, Value.ownBlock]⟩
  unfold readA
  cases he : errA (beginA l s) nm.data.toList with
  | some k =>
    refine (D.readAt_err (by omega) nm hnm a m he).mono ?_
    rintro e w' ⟨rfl, o⟩
    exact ⟨_, rfl, RowB.nil _, nilF w' o⟩
  | none =>
    obtain ⟨x, hx⟩ := errA_look he
    simp only [hx]
    by_cases hno : a < 0 ∨ m < 0 ∨ (x.2.1.length : Int) - a < m
    · rw [if_pos hno]
      refine (D.read_arg (by omega) nm hnm he hx a m ha hm hno).mono ?_
      rintro e w' ⟨rfl, o⟩
      exact ⟨_, rfl, RowB.nil _, nilF w' o⟩
    · rw [if_neg hno]
      obtain ⟨a', rfl⟩ := Int.eq_ofNat_of_zero_le (show 0 ≤ a by omega)
      obtain ⟨m', rfl⟩ := Int.eq_ofNat_of_zero_le (show 0 ≤ m by omega)
      refine (D.read (by omega) nm hnm he hx a' m' (by omega)).mono ?_
      rintro e w' ⟨v, rfl, rb, fp', d', k', n', fr⟩
      obtain ⟨q1, q2⟩ := setD2 (C := (l, s)) (A' := beginA l s) R x1 b1 b2 bl hv ok so d' k' n' (ys := own v) (fun y hy => ⟨(fr y hy).1, rb.lt y hy, (fr y hy).2⟩)
      exact ⟨v, rfl, rb, q1, q2, fun y hy => Nat.le_trans bl.size (fr y hy).1⟩

theorem Half.readAt (h : Half w0 w p r hs (beginA l s) (l, s)) (hn : s.ops ≤ 800000) (nm : ByteArray) (a m : Int) (ha : -9223372036854775808 ≤ a ∧ a ≤ 9223372036854775807) :
    Calls Try.prog 23 #[.pointer (some ⟨r, 0, none⟩), .string nm, .int .i64 a, .int .i64 m] w fun e w' => ∃ v, e = .returned (.tuple #[v, .int .i64 (readA (beginA l s) nm.data.toList a m).2]) ∧ RowB w' v (readA (beginA l s) nm.data.toList a m).1 ∧ Half w0 w' p r (own v ++ hs) (beginA l s) (beginA l s) ∧ Hld hs w w' := by
  obtain ⟨fp, rp, D, R, x1, b1, b2, bl, hv, ok, so⟩ := h
  simp only at R ok so
  have nilF : ∀ w', ROut w w' rp r (beginA l s) → Half w0 w' p r (own (.slice none 0 0) ++ hs) (beginA l s) (beginA l s) ∧ Hld hs w w' := fun w' o => by
    obtain ⟨q1, q2⟩ := setR D x1 b1 b2 bl hv o
    exact ⟨by simpa [own, Value.ownBlock] using q1, q2⟩
  unfold readA
  cases he : errA (beginA l s) nm.data.toList with
  | some k =>
    refine (R.readAt_err ok (by omega) nm a m he).mono ?_
    rintro e w' ⟨rfl, o⟩
    exact ⟨_, rfl, RowB.nil _, nilF w' o⟩
  | none =>
    obtain ⟨x, hx⟩ := errA_look he
    simp only [hx]
    by_cases hno : a < 0 ∨ m < 0 ∨ (x.2.1.length : Int) - a < m
    · rw [if_pos hno]
      refine (R.read_arg ok (by omega) nm he hx a m ha hno).mono ?_
      rintro e w' ⟨rfl, o⟩
      exact ⟨_, rfl, RowB.nil _, nilF w' o⟩
    · rw [if_neg hno]
      obtain ⟨a', rfl⟩ := Int.eq_ofNat_of_zero_le (show 0 ≤ a by omega)
      obtain ⟨m', rfl⟩ := Int.eq_ofNat_of_zero_le (show 0 ≤ m by omega)
      refine (R.read ok (by omega) nm he hx a' m' (by omega)).mono ?_
      rintro e w' ⟨v, rfl, rb, fp', d', k', n', fr⟩
      obtain ⟨q1, q2⟩ := setR2 (A' := beginA l s) D x1 b1 b2 bl hv d' k' n' (ys := own v) (fun y hy => ⟨(fr y hy).1, rb.lt y hy, (fr y hy).2⟩)
      exact ⟨v, rfl, rb, q1, q2⟩

theorem RowS.hld {v : Value} {ss : List (List UInt8)} (h : RowS w v ss) (k : Hld hs w w') (hv : ∀ x ∈ own v, x ∈ hs) : RowS w' v ss := by
  obtain ⟨fp, k, a⟩ := k
  exact ownsRow_kept h k (fun x hx => a x (hv x hx))

theorem RowS.nil (w : World) : RowS w (.slice none 0 0) [] := World.ownsRow_nil w 0 _ _

theorem Duo.list (h : Half w0 w p r hs (l, s) (l, s)) (hn : s.ops ≤ 800000) :
    Calls Try.prog 32 #[.pointer (some ⟨p, 0, none⟩)] w fun e w' => ∃ v, e = .returned (.tuple #[v, .int .i64 (listA (beginA l s)).2]) ∧ RowS w' v (listA (beginA l s)).1 ∧ Half w0 w' p r (own v ++ hs) (beginA l s) (l, s) ∧ Hld hs w w' := by
  obtain ⟨fp, rp, D, R, x1, b1, b2, bl, hv, ok, so⟩ := h
  simp only at D R ok so
  unfold listA
  cases hd : (beginA l s).2.down with
  | true =>
    rw [if_pos rfl]
    refine (D.list_down (by omega) hd).mono ?_
    rintro e w' ⟨rfl, o⟩
    obtain ⟨q1, q2⟩ := setD (C := (l, s)) R x1 b1 b2 bl hv ok so o
    exact ⟨_, rfl, RowS.nil _, by simpa [own, Value.ownBlock] using q1, q2⟩
  | false =>
    rw [if_neg (by simp)]
    refine (D.list (by omega) hd).mono ?_
    rintro e w' ⟨v, rfl, rb, fp', d', k', n', fr⟩
    obtain ⟨q1, q2⟩ := setD2 (C := (l, s)) (A' := beginA l s) R x1 b1 b2 bl hv ok so d' k' n' (ys := own v) (fun y hy => ⟨(World.ownsRow.lt rb y (by simpa [own] using hy)).1, (World.ownsRow.lt rb y (by simpa [own] using hy)).2, fr y hy⟩)
    refine ⟨v, rfl, ?_, q1, q2⟩
    unfold RowS
    rw [List.length_map, List.map_map]
    exact ownsRow_base_a rb (Nat.zero_le _)

theorem Half.list (h : Half w0 w p r hs (beginA l s) (l, s)) (hn : s.ops ≤ 800000) :
    Calls Try.prog 33 #[.pointer (some ⟨r, 0, none⟩)] w fun e w' => ∃ v, e = .returned (.tuple #[v, .bool (!(beginA l s).2.down)]) ∧ RowS w' v (listA (beginA l s)).1 ∧ Half w0 w' p r (own v ++ hs) (beginA l s) (beginA l s) ∧ Hld hs w w' := by
  obtain ⟨fp, rp, D, R, x1, b1, b2, bl, hv, ok, so⟩ := h
  simp only at R ok so
  unfold listA
  cases hd : (beginA l s).2.down with
  | true =>
    rw [if_pos rfl]
    refine (R.list_down ok (by omega) hd).mono ?_
    rintro e w' ⟨rfl, o⟩
    obtain ⟨q1, q2⟩ := setR D x1 b1 b2 bl hv o
    exact ⟨_, rfl, RowS.nil _, by simpa [own, Value.ownBlock] using q1, q2⟩
  | false =>
    rw [if_neg (by simp)]
    refine (R.list ok (by omega) hd).mono ?_
    rintro e w' ⟨v, rfl, rb, fp', d', k', n', fr⟩
    obtain ⟨q1, q2⟩ := setR2 (A' := beginA l s) D x1 b1 b2 bl hv d' k' n' (ys := own v) (fun y hy => ⟨(World.ownsRow.lt rb y (by simpa [own] using hy)).1, (World.ownsRow.lt rb y (by simpa [own] using hy)).2, fr y hy⟩)
    refine ⟨v, rfl, ?_, q1, q2⟩
    unfold RowS
    rw [List.length_map, List.map_map]
    exact ownsRow_base_a rb (Nat.zero_le _)
end

/-- The number of operations behind each. -/
theorem begin_ops (l : List Ab) (s : Ds) : (beginA l s).2.ops = s.ops + 1 := by
  unfold beginA
  split
  · rfl
  · split
    · rfl
    · unfold crashA
      split <;> rfl
theorem crash_ops (ks : List Bool) (l : List Ab) (s : Ds) : (crashA ks l s).2.ops = s.ops := by unfold crashA; split <;> rfl
theorem arm_ops (l : List Ab) (s : Ds) (n : Int) (ks : List Bool) : (armA l s n ks).2.ops = s.ops := by unfold armA; split <;> rfl
theorem create_ops (A : List Ab × Ds) (n : List UInt8) : (createA A n).2.2.ops = A.2.ops := by
  unfold createA
  split
  · rfl
  · split
    · rfl
    · split <;> rfl
theorem write_ops (l : List Ab) (s : Ds) (x : Ab) (a : Int) (cs : List Int) : (writeA l s x a cs).2.2.ops = s.ops := by
  unfold writeA
  split
  · rfl
  · split <;> rfl
theorem append_ops (A : List Ab × Ds) (n : List UInt8) (cs : List Int) : (appendA A n cs).2.2.ops = A.2.ops := by
  unfold appendA
  split
  · rfl
  · split
    · exact write_ops _ _ _ _ _
    · rfl
theorem writeAt_ops (A : List Ab × Ds) (n : List UInt8) (a : Int) (cs : List Int) : (writeAtA A n a cs).2.2.ops = A.2.ops := by
  unfold writeAtA
  split
  · rfl
  · split
    · exact write_ops _ _ _ _ _
    · rfl
theorem sync_ops (A : List Ab × Ds) (n : List UInt8) : (syncA A n).2.2.ops = A.2.ops := by
  unfold syncA
  split
  · rfl
  · split <;> rfl
theorem drop_ops (A : List Ab × Ds) (n : List UInt8) : (dropA A n).2.2.ops = A.2.ops := by
  unfold dropA
  split
  · rfl
  · split <;> rfl
theorem move_ops (A : List Ab × Ds) (n t : List UInt8) : (moveA A n t).2.2.ops = A.2.ops := by
  unfold moveA
  split
  · rfl
  · split
    · rfl
    · split
      · rfl
      · split
        · rfl
        · split <;> rfl

end Go.Proofs.Ytahhokhhgamelaa
