/-
  Lemma texts, one behind the other: XMerge, XCutP, XCut, XCutW. No statement of the seat is proved here.
-/
import Derived.Test.YtgpbanjammipiaaGreatDoorGAU
import Derived.Laws.EntriesVeiled
namespace Go.Proofs.YtgpbanjammipiaaGreatDoor
open Go.RowKit Go.Maps

/-- A row's file. -/
def rowE (temp : ByteArray) (x : Nat × List Rc) : Ab := (rowB temp x.1, fileB x.2, fileB x.2)

/-- What merge leaves. -/
def MergeP (sp : Nat) (k : Skn) (A0 : Dsk) (M : List UInt8 → Prop) (w : World) (fa : List Nat) (o0 o1 : Int) (cnt : Nat) (hvS rvS : Value) (HS : List Rc) (X : List (Nat × List Rc)) (R' : List Nat) (last : Nat) (nm : ByteArray) (T : List Rc) (Eo : List Ab) (e : Ending) (w' : World) : Prop :=
  ∃ B fd' rv' Rl e', e = .returned (.int .i64 e') ∧ Dk w' fd' k.p B.1 B.2 ∧ Kept (fa ++ [sp]) w w' ∧ Newly w fa fd' ∧ o0 ≤ B.2.ops ∧ B.2.ops ≤ o1 ∧ SoM w' sp k cnt hvS rv' HS Rl last ∧ (∀ z ∈ own rv', z ∈ own rvS) ∧ (∀ g m, endIn rvS g m → endIn rv' g m) ∧ (∀ z ∈ sofp sp hvS rvS, z ∉ fd') ∧
    ((e' = 0 ∧ Rl = R' ∧ Ext A0 B ((nm.data.toList, fileB T, fileB T) :: Eo)) ∨
     (e' = 6 ∧ Rl = X.map (·.1) ++ R' ∧ (∃ F, Ext A0 B ((nm.data.toList, F, []) :: (X.map (rowE k.temp) ++ Eo))) ∧ A0.2.room - A0.2.used < sec (fileB T).length + usedB (X.map (rowE k.temp) ++ Eo)) ∨
     (e' = 7 ∧ Cr A0 B M (sec (fileB T).length + usedB (X.map (rowE k.temp) ++ Eo))))

section
variable {w : World} {sp q : Nat} {k : Skn} {A0 A : Dsk} {M : List UInt8 → Prop} {fd : List Nat} {tv : Value} {cnt : Nat} {hvS rvS u : Value} {HS : List Rc} {X : List (Nat × List Rc)} {R' : List Nat} {last : Nat} {nm : ByteArray} {Eo : List Ab}

/-- The state when there are no sources yet. -/
theorem MgLd.start {w1 w2 : World} {E : List Ab} (s : SoM w sp k cnt hvS rvS HS R' last) (wk : WkE w fd tv k.p q A nm []) (hd : ∀ z ∈ sofp sp hvS rvS, z ∉ wfp fd q tv) (hx : Ext A0 A ((nm.data.toList, [], []) :: E))
    (h1 : w1 = w.alloc (.cells #[.slice none 0 0, .slice none 0 0] 137)) (h2 : w2 = w1.alloc (.cells #[.func (.func 83) #[] #[.pointer (some ⟨w.heap.size, 0, none⟩)]] 106)) :
    MgLd w fd w.heap.size w1.heap.size sp k cnt hvS rvS HS R' last E A0 nm q tv A.2.ops A fd [] w2 := by
  have s1 : w1.heap.size = w.heap.size + 1 := by rw [h1]; exact Array.size_push ..
  have b1 : Below w.heap.size w w1 := by rw [h1]; exact (Below.refl _ w).alloc (Nat.le_refl _) _
  have b2 : Below w1.heap.size w1 w2 := by rw [h2]; exact (Below.refl _ w1).alloc (Nat.le_refl _) _
  have hp : K.Hp (fun _ => 0) w2 w.heap.size (.slice none 0 0) [] := by
    have := K.Hp.new (fun _ => 0) w
    rw [← h1] at this
    exact this.kept (Kept.of_below (fp := []) b2) (by simp) (by simp) (by simp)
  have pu : w2.heap[w1.heap.size]? = some (.cells #[.func (.func 83) #[] #[.pointer (some ⟨w.heap.size, 0, none⟩)]] 106 (0, 0)) := by rw [h2]; exact heap_alloc_new w1 _
  have k02 : Kept [] w w2 := (Kept.of_below b1).trans (Kept.of_below (fp := []) b2) (fun _ h => by simp at h)
  have hl := s.lt
  refine ⟨⟨fun _ => 0, _, .slice none 0 0, [], [], ⟨hp, List.Perm.refl _, by simp, ?_, pu, s.kept k02 (by simp), fun g hg => heap_kept k02 (hl g hg) (by simp), sorts_rise _, sortR_perm [] [], rfl, by simp⟩, List.Perm.refl _, by simp, by simp, fun z hz e => ?_, fun z hz => ?_⟩, wk.kept k02 (by simp), hx, k02.mono (by simp), Newly.refl _ _, ⟨Int.le_refl _, by simp⟩⟩
  · simp only [mgCh, List.pairwise_cons, own, Value.ownBlock, Option.toList_none, List.map_nil]
    refine ⟨fun _ _ y hy => by simp at hy, fun c hc y hy e => ?_, fun c hc y hy e => ?_, by simp, List.Pairwise.nil⟩
    · simp only [List.mem_singleton] at hy
      simp only [List.mem_cons, List.not_mem_nil, or_false] at hc
      rcases hc with rfl | rfl
      · simp at e; omega
      · have := hl y e; omega
    · simp only [List.mem_singleton] at hy
      simp only [List.mem_cons, List.not_mem_nil, or_false] at hc
      subst hc
      have := hl y e; omega
  · have h9 := wk.lt z e
    rcases mgCh_mem.1 hz with h | h | h | h | ⟨_, h, _⟩
    · simp [own, Value.ownBlock] at h
    · omega
    · omega
    · exact hd z h e
    · simp at h
  · rcases mgCh_mem.1 hz with h | h | h | h | ⟨_, h, _⟩
    · simp [own, Value.ownBlock] at h
    · exact .inr (.inr (by omega))
    · exact .inr (.inr (by omega))
    · exact .inl h
    · simp at h

/-- What write may have touched. -/
theorem merge_frame {wr w5 : World} {fd' fd2 ff : List Nat} (k1 : Kept fd w wr) (n1 : Newly w fd fd') (hfoot : ∀ z ∈ ff, z ∈ sofp sp hvS rvS ∨ z ∈ fd ∨ w.heap.size ≤ z) (K1 : Kept (wfp fd' q tv ++ ff) wr w5) (N1 : Newly wr (wfp fd' q tv ++ ff) fd2)
    (hs : ∀ g ∈ sofp sp hvS rvS, w5.heap[g]? = w.heap[g]?) (hd2 : ∀ g ∈ sofp sp hvS rvS, g ∉ fd2) : Kept (wfp fd q tv) w w5 ∧ Newly w (wfp fd q tv) fd2 := by
  have hw : ∀ z ∈ wfp fd' q tv, z ∈ wfp fd q tv ∨ w.heap.size ≤ z := fun z hz => by
    rcases wfp_mem.1 hz with h | h | h
    · exact (n1 z h).imp (fun h => wfp_mem.2 (.inl h)) id
    · exact .inl (wfp_mem.2 (.inr (.inl h)))
    · exact .inl (wfp_mem.2 (.inr (.inr h)))
  have hf : ∀ z ∈ wfp fd' q tv ++ ff, z ∈ sofp sp hvS rvS ∨ z ∈ wfp fd q tv ∨ w.heap.size ≤ z := fun z hz => by
    rcases List.mem_append.1 hz with h | h
    · exact .inr (hw z h)
    · exact (hfoot z h).imp id (fun h => h.imp (fun h => wfp_mem.2 (.inl h)) id)
  refine ⟨⟨K1.os.trans k1.os, K1.tape.trans k1.tape, K1.output.trans k1.output, Nat.le_trans k1.size K1.size, fun b hb hn => ?_⟩, fun z hz => ?_⟩
  · by_cases hbs : b ∈ sofp sp hvS rvS
    · exact hs b hbs
    · rw [K1.block b (Nat.lt_of_lt_of_le hb k1.size) (fun e => ?_), k1.block b hb (fun e => hn (wfp_mem.2 (.inl e)))]
      rcases hf b e with h | h | h
      · exact hbs h
      · exact hn h
      · omega
  · rcases N1 z hz with h | h
    · rcases hf z h with h | h
      · exact absurd hz (hd2 z h)
      · exact h
    · exact .inr (Nat.le_trans k1.size h)

theorem merge_kept {w5 w6 : World} {fa fd2 : List Nat} (F1 : Kept fa w w5) (F2 : Newly w fa fd2) (K3 : Kept (fd2 ++ [sp]) w5 w6) : Kept (fa ++ [sp]) w w6 :=
  (F1.mono (fun z hz => List.mem_append.2 (.inl hz))).trans K3 (fun z hz => by
    rcases List.mem_append.1 hz with h | h
    · exact (F2 z h).imp (fun h => List.mem_append.2 (.inl h)) id
    · exact .inl (List.mem_append.2 (.inr h)))

theorem len_flat {X : List (Nat × List Rc)} {x : Nat × List Rc} (h : x ∈ X) : x.2.length ≤ (X.flatMap (·.2)).length := by
  obtain ⟨a, b, rfl⟩ := List.append_of_mem h
  simp only [List.flatMap_append, List.flatMap_cons, List.length_append]
  omega

/-- A crash ahead of the writing. -/
theorem merge_crash {wr : World} {o1 : Int} {T : List Rc} (h : MgCr w fd sp k cnt hvS rvS HS (X.map (·.1) ++ R') last (X.map (rowE k.temp) ++ Eo) A0 nm M A.2.ops o1 wr) {o2 : Int} (ho : o1 ≤ o2) :
    MergeP sp k A0 M w (wfp fd q tv) A.2.ops o2 cnt hvS rvS HS X R' last nm T Eo (.returned (.int .i64 7)) wr := by
  obtain ⟨B, fd2, d, s, C, kk, nn, hd, p1, p2⟩ := h
  refine ⟨B, fd2, rvS, _, 7, rfl, d, kk.mono (fun z hz => List.mem_append.2 (.inl (wfp_mem.2 (.inl hz)))), fun z hz => (nn z hz).imp (fun h => wfp_mem.2 (.inl h)) id, p1, by omega, s, fun _ h => h, fun _ _ h => h, hd, .inr (.inr ⟨rfl, C.mono (fun _ h => h) ?_⟩)⟩
  rw [usedB_cons]
  have := sec_nonneg (fileB T).length
  have e0 : sec ([] : List Int).length = 0 := by decide
  dsimp only
  omega

set_option maxRecDepth 100000 in
set_option maxHeartbeats 4000000 in
theorem soMerge_any (s : SoM w sp k cnt hvS rvS HS (X.map (·.1) ++ R') last) (wk : WkE w fd tv k.p q A nm []) (hd : ∀ z ∈ sofp sp hvS rvS, z ∉ wfp fd q tv) (hx : Ext A0 A ((nm.data.toList, [], []) :: (X.map (rowE k.temp) ++ Eo))) (hu : IsI w u (X.map (·.1))) (huf : ∀ x n c, u = .slice (some x) n c → x.spot = none ∧ x.block ∉ fd)
    (hM : ∀ x ∈ (nm.data.toList, [], []) :: (X.map (rowE k.temp) ++ Eo), M x.1) (hnm : nm.size ≤ maxLen) (ht : Tab w) (htd : gTab ∉ wfp fd q tv) (htm : k.temp.size ≤ 17) (hrow : ∀ x ∈ X, x.1 < 1000000 ∧ (∀ y ∈ x.2, okR y) ∧ Rises x.2) (hnd : (X.map (·.1)).Nodup) (hlen : X.length ≤ 10000) (htot : (X.flatMap (·.2)).length ≤ 100000)
    (hops : A.2.ops + 4 * X.length + 3 * (X.flatMap (·.2)).length + 100 ≤ 999900) :
    Calls Tryz.prog 59 #[.pointer (some ⟨sp, 0, none⟩), u, .pointer (some ⟨q, 0, none⟩)] w (MergeP sp k A0 M w (wfp fd q tv) A.2.ops (A.2.ops + 4 * X.length + 3 * (X.flatMap (·.2)).length + 20) cnt hvS rvS HS X R' last nm (canR k.how (X.flatMap (·.2))) Eo) := by
  obtain ⟨a, cap, rfl, hcap, hmax, hnone, hcells⟩ := hu
  have hln : (X.map (·.1)).length = X.length := by simp
  rw [hln] at hcap hcells huf ⊢
  obtain ⟨n, hn⟩ : ∃ n, n = X.length := ⟨_, rfl⟩
  rw [← hn] at hcap hcells huf ⊢
  have HH := hide (And.intro s (And.intro wk (And.intro hd (And.intro hx (And.intro huf (And.intro hM (And.intro hnm (And.intro ht (And.intro htd (And.intro hrow (And.intro hnd (And.intro hlen (And.intro hops (And.intro hnone (And.intro hcells hn)))))))))))))))
  have hn5 : n ≤ 10000 := by omega
  clear s wk hd hx huf hM hnm ht htd hrow hnd hlen hops hnone hcells hn hln hmax
  go_enter Tryz.func59, Tryz.ntmps59
  have hmf : ∀ (fn : Fn) (first cap : Array Value) (w : World), (Instr.makeFunc fn first cap).run Tryz.prog w = .ok (.func fn first cap) w := fun _ _ _ _ => rfl
  go_upto_region 2 with fail
  obtain ⟨w1, hw1⟩ : ∃ w1, w1 = w.alloc (.cells #[.slice none 0 0, .slice none 0 0] 137) := ⟨_, rfl⟩
  rw [← hw1]
  have HW1 := hide hw1
  clear hw1
  obtain ⟨hb, hhb⟩ : ∃ b, b = w.heap.size := ⟨_, rfl⟩
  rw [← hhb]
  have HHB := hide hhb
  clear hhb
  go_wp2
  obtain ⟨pb, hpb⟩ : ∃ b, b = w1.heap.size := ⟨_, rfl⟩
  rw [← hpb]
  have HPB := hide hpb
  clear hpb
  go_loopg [18] (n) (fun gk i wr => ∃ j : Nat, i = .int .i64 (j : Int) ∧ j + gk = n ∧ Hid (∃ A' fd', MgLd w fd hb pb sp k cnt hvS rvS HS (X.map (·.1) ++ R') last (X.map (rowE k.temp) ++ Eo) A0 nm q tv A.2.ops A' fd' (X.take j) wr))
  case atStart =>
    refine ⟨0, rfl, by omega, A, fd, ?_⟩
    obtain ⟨s, wk, hd, hx, _⟩ := HH.out
    rw [HHB.out, HPB.out]
    exact MgLd.start s wk hd hx HW1.out rfl
  case round =>
    obtain ⟨j, rfl, hj, hr⟩ := hrel
    cases gk with
    | zero =>
      have hjn : ¬ (j : Int) < (n : Int) := by omega
      obtain ⟨A', fd', D⟩ := hr.out
      obtain ⟨s, wk, hd, hx, huf, hM, hnm, ht, htd, hrow, hnd, hlen, hops, hnone, hcells, hn⟩ := HH.out
      rw [List.take_of_length_le (by omega)] at D
      obtain ⟨bk, ff, hv, L, P, I, hperm, hrows, hl, hdis, hfoot⟩ := D.ex
      have hS : sortR [] (P.flatMap Asr.all) = sortR [] (X.flatMap (·.2)) := Rises.unique (sorts_rise _) (sorts_rise _) ((sortR_perm _ _).trans (by simpa using hperm.trans (by simpa using (sortR_perm [] (X.flatMap (·.2))).symm)))
      rw [hS] at I
      have hoD := D.ops
      have hlS : (sortR [] (X.flatMap (·.2))).length = (X.flatMap (·.2)).length := by rw [sortR_length]; simp
      have WR := soWrite_any (M := M) (mg_feeds bk w hb pb sp k cnt hvS rvS HS (X.map (·.1) ++ R') last A0 (X.map (rowE k.temp) ++ Eo) nm.data.toList) D.wk ⟨hv, L, P, I⟩ hdis D.ext (hM _ (List.mem_cons_self ..)) (fun x hx => hM x (List.mem_cons_of_mem _ hx)) hnm (by rw [hlS]; omega)
      rw [outL_can, hlS] at WR
      have HWR := hide WR
      have HD := hide (And.intro D (And.intro hfoot (And.intro hdis I)))
      clear WR D I hperm hrows hl hdis hfoot hS hoD hlS s wk hd hx huf hM hnm ht htd hrow hnd hlen hops hnone hcells hn hr
      go_wp2_with fail
      refine HWR.out.mono ?_
      rintro e w5 ⟨B, kk, fd2, ff2, rfl, d2, ds2, K1, N1, q1, q2, CS⟩
      rcases CS with ⟨rfl, hI, x2⟩ | ⟨rfl, hE, hF, hroom⟩ | ⟨rfl, hE, hC⟩
      · obtain ⟨hv2, L2, P2, I2⟩ := hI
        have hE := I2.err
        obtain ⟨D, hfoot, hdis, I⟩ := HD.out
        have hd2 : ∀ g ∈ sofp sp hvS rvS, g ∉ fd2 := fun g hg => ds2 g (hE.2.2 g hg)
        obtain ⟨F1, F2⟩ := merge_frame D.kept D.new hfoot K1 (fun z hz => N1 z (List.mem_append.2 (.inl hz))) hE.2.1 hd2
        obtain ⟨s, wk, hd, hx, huf, hM, hnm, ht, htd, hrow, hnd, hlen, hops, hnone, hcells, hn⟩ := HH.out
        have hoD := D.ops
        have hlS : (sortR [] (X.flatMap (·.2))).length = (X.flatMap (·.2)).length := by rw [sortR_length]; simp
        have hXn : (X.map (·.1)).length = n := by rw [List.length_map]; omega
        have DR := soDrop_any (M := M) (Er := X.map (rowE k.temp)) (Eo := (nm.data.toList, fileB (canR k.how (X.flatMap (·.2))), fileB (canR k.how (X.flatMap (·.2)))) :: Eo) hE.1 d2 hd2
          (x2.perm (List.perm_middle (l₁ := X.map (rowE k.temp)) (l₂ := Eo)).symm) (by simp [rowE, Function.comp_def]) (fun x hx => by
            simp only [List.mem_append, List.mem_cons, List.mem_map] at hx
            rcases hx with ⟨y, hy, rfl⟩ | rfl | hx
            · exact hM (rowE k.temp y) (List.mem_cons_of_mem _ (List.mem_append.2 (.inl (List.mem_map.2 ⟨y, hy, rfl⟩))))
            · exact hM (nm.data.toList, [], []) (List.mem_cons_self ..)
            · exact hM x (List.mem_cons_of_mem _ (List.mem_append.2 (.inr hx)))) (ht.kept F1 htd).1 (apart_new F2 ht.lt htd) htm (fun y hy => by
            obtain ⟨x, hx, rfl⟩ := List.mem_map.1 hy
            exact (hrow x hx).1) hXn (by omega) (by omega)
        have HDR := hide DR
        have HE := hide (And.intro F1 (And.intro F2 (And.intro q1 (And.intro q2 (And.intro hd2 (And.intro hoD (And.intro hops (And.intro hn (hE.1.lt)))))))))
        clear DR hXn hlS hoD s wk hd hx huf hM hnm ht htd hrow hnd hlen hops hnone hcells hn F1 F2 hd2 D hfoot hdis I hE I2 x2 d2 ds2 K1 N1 q1 q2
        go_wp2_with fail
        refine HDR.out.mono ?_
        rintro e w6 ⟨B2, fd3, rv', Rl, d3, K3, N3, p1, p2, s3, o3, e3, CS⟩
        have HG := hide (And.intro d3 (And.intro K3 (And.intro N3 (And.intro p1 (And.intro p2 (And.intro s3 (And.intro o3 (And.intro e3 CS))))))))
        clear d3 K3 N3 p1 p2 s3 o3 e3
        rcases CS with ⟨rfl, hRl, hx⟩ | ⟨rfl, hC⟩
        · go_wp2
          go_ret
          obtain ⟨d3, K3, N3, p1, p2, s3, o3, e3, _⟩ := HG.out
          obtain ⟨F1, F2, q1, q2, hd2, hoD, hops, hn, hlt5⟩ := HE.out
          refine ⟨B2, fd3, rv', Rl, 0, rfl, d3, merge_kept F1 F2 K3, fun z hz => ?_, by omega, by omega, s3, o3, e3, fun z hz => apart_new N3 (hlt5 z hz) (hd2 z hz), .inl ⟨rfl, hRl, hx⟩⟩
          rcases N3 z hz with h | h
          · exact F2 z h
          · exact .inr (Nat.le_trans F1.size h)
        · go_wp2
          go_ret
          obtain ⟨d3, K3, N3, p1, p2, s3, o3, e3, _⟩ := HG.out
          obtain ⟨F1, F2, q1, q2, hd2, hoD, hops, hn, hlt5⟩ := HE.out
          refine ⟨B2, fd3, rv', Rl, 7, rfl, d3, merge_kept F1 F2 K3, fun z hz => ?_, by omega, by omega, s3, o3, e3, fun z hz => apart_new N3 (hlt5 z hz) (hd2 z hz), .inr (.inr ⟨rfl, hC.mono (fun _ h => h) ?_⟩)⟩
          · rcases N3 z hz with h | h
            · exact F2 z h
            · exact .inr (Nat.le_trans F1.size h)
          · rw [usedB_app, usedB_cons, usedB_app]
            dsimp only
            omega
      · go_wp2
        go_ret
        obtain ⟨D, hfoot, hdis, I⟩ := HD.out
        have hd2 : ∀ g ∈ sofp sp hvS rvS, g ∉ fd2 := fun g hg => ds2 g (hE.2.2 g hg)
        obtain ⟨F1, F2⟩ := merge_frame D.kept D.new hfoot K1 (fun z hz => N1 z (List.mem_append.2 (.inl hz))) hE.2.1 hd2
        obtain ⟨s, wk, hd, hx, huf, hM, hnm, ht, htd, hrow, hnd, hlen, hops, hnone, hcells, hn⟩ := HH.out
        have hoD := D.ops
        exact ⟨B, fd2, rvS, _, 6, rfl, d2, F1.mono (fun z hz => List.mem_append.2 (.inl hz)), F2, by omega, by omega, hE.1, fun _ h => h, fun _ _ h => h, hd2, .inr (.inl ⟨rfl, rfl, hF, hroom⟩)⟩
      · go_wp2
        go_ret
        obtain ⟨D, hfoot, hdis, I⟩ := HD.out
        have hd2 : ∀ g ∈ sofp sp hvS rvS, g ∉ fd2 := fun g hg => ds2 g (hE.2.2 g hg)
        obtain ⟨F1, F2⟩ := merge_frame D.kept D.new hfoot K1 (fun z hz => N1 z (List.mem_append.2 (.inl hz))) hE.2.1 hd2
        obtain ⟨s, wk, hd, hx, huf, hM, hnm, ht, htd, hrow, hnd, hlen, hops, hnone, hcells, hn⟩ := HH.out
        have hoD := D.ops
        exact ⟨B, fd2, rvS, _, 7, rfl, d2, F1.mono (fun z hz => List.mem_append.2 (.inl hz)), F2, by omega, by omega, hE.1, fun _ h => h, fun _ _ h => h, hd2, .inr (.inr ⟨rfl, hC⟩)⟩
    | succ gk =>
      have hjn : (j : Int) < (n : Int) := by omega
      obtain ⟨A', fd', D⟩ := hr.out
      obtain ⟨s, wk, hd, hx, huf, hM, hnm, ht, htd, hrow, hnd, hlen, hops, hnone, hcells, hn⟩ := HH.out
      have hjX : j < X.length := by omega
      obtain ⟨⟨y, T⟩, hxj⟩ : ∃ x, x = X[j] := ⟨_, rfl⟩
      have hmem : (y, T) ∈ X := by rw [hxj]; exact List.getElem_mem hjX
      have htk : X.take (j + 1) = X.take j ++ [(y, T)] := by rw [hxj]; exact (List.take_append_getElem hjX).symm
      obtain ⟨hy, hT, hTr⟩ := hrow _ hmem
      cases a with
      | none =>
        have h9 := (hnone rfl).1
        have : X = [] := List.map_eq_nil_iff.1 h9
        rw [this] at hjX
        simp at hjX
      | some x0 =>
        obtain ⟨xb, xo, xs⟩ := x0
        obtain ⟨rfl, hxfd⟩ := huf ⟨xb, xo, xs⟩ _ _ rfl
        have hc := hcells _ rfl j (by omega)
        rw [Addr.add_lit] at hc
        have hyj : (X.map (·.1))[j]! = y := by
          rw [getElem!_pos _ j (by rw [List.length_map]; exact hjX)]
          simp [← hxj]
        rw [hyj] at hc
        have hcw := D.kept.cell hc hxfd
        obtain ⟨bk, ff, hv, L, P, I, hperm, hrows, hl, hdis, hfoot⟩ := D.ex
        obtain ⟨s0, sx1, _, _, _, _, _, _, _⟩ := I.sor.cellAt
        have BG := D.ext.begin D.wk.disk.ok hM
        have nm9 := (rowN_may htm hy).2
        have htw : Tab wr := (ht.kept D.kept (fun e => htd (wfp_mem.2 (.inl e)))).1
        have NM : Hid (∀ W, Below wr.heap.size wr W → Calls Tryz.prog 61 #[.pointer (some ⟨sp, 0, none⟩), .int .i64 (y : Int)] W fun e w' => e = .returned (.string (rowN k.temp y)) ∧ Kept [] W w') := fun W b =>
          name_any (ht := htw.below b) (sp := sp) (temp := k.temp) (I.sor.below b).cellAt.2.1 htm y hy
        have hoD := D.ops
        have htkl : (X.take j).length = j := by rw [List.length_take]; omega
        rw [htkl] at hoD
        have hopl : A'.2.ops ≤ 999900 := by omega
        have hF : (rowN k.temp y).data.toList = rowB k.temp y := rfl
        have hFE : ((rowN k.temp y).data.toList, fileB T, fileB T) ∈ X.map (rowE k.temp) ++ Eo := List.mem_append.2 (.inl (List.mem_map.2 ⟨_, hmem, rfl⟩))
        have hnew : ∀ x ∈ X.take j, x.1 ≠ y := fun x hx e => by
          have h1 := hnd
          rw [← List.take_append_drop (j + 1) X, htk, List.map_append, List.map_append] at h1
          have h2 := (List.nodup_append.1 h1).1
          have h3 := (List.nodup_append.1 h2).2.2
          exact h3 x.1 (List.mem_map.2 ⟨x, hx, rfl⟩) y (by simp) e
        have hsp : sp ∉ fd' := fun e => hdis sp (by rw [I.foot]; exact mgCh_mem.2 (.inr (.inr (.inr (.inl (sofp_mem.2 (.inl rfl))))))) (wfp_mem.2 (.inl e))
        have HC : Hid (∀ {W W' : World} {o : Nat} {u : Value}, Kept fd' W W' → W.cell? ⟨sp, o, none⟩ = some u → W'.cell? ⟨sp, o, none⟩ = some u) := fun kk c => kk.cell c hsp
        have hpbf : pb ∉ fd' := fun e => hdis pb (by rw [I.foot]; exact mgCh_mem.2 (.inr (.inr (.inl rfl)))) (wfp_mem.2 (.inl e))
        have hpc : wr.cell? ⟨pb, 0, none⟩ = some (.func (.func 83) #[] #[.pointer (some ⟨hb, 0, none⟩)]) := cell_of_heap I.push 0
        have HCP : Hid (∀ {W W' : World} {u : Value}, Kept fd' W W' → W.cell? ⟨pb, 0, none⟩ = some u → W'.cell? ⟨pb, 0, none⟩ = some u) := fun kk c => kk.cell c hpbf
        have KC0 : Hid (∀ {W W' : World} {b o : Nat} {u : Value}, Kept [] W W' → W.cell? ⟨b, o, none⟩ = some u → W'.cell? ⟨b, o, none⟩ = some u) := fun kk c => kk.cell c (by simp)
        have HD := hide (And.intro D (And.intro I.sor (And.intro hdis (And.intro hoD (And.intro htk (And.intro hn (And.intro (fun z hz => hdis z (by rw [I.foot]; exact mgCh_mem.2 (.inr (.inr (.inr (.inl hz)))))) hops)))))))
        have d' := D.wk.disk
        have HDK : Hid (∀ W, Kept [] wr W → Dk W fd' k.p A'.1 A'.2) := fun W kk => d'.kept kk (by simp)
        have hj1 : (X.take j).length < 100000 := by omega
        have hMM := hide hM
        have hFL : (fileB T).length ≤ 1000000000 := by
          have h1 : T.length ≤ (X.flatMap (·.2)).length := len_flat hmem
          rw [fileB_length]
          omega
        clear d' hr D s wk hd hx huf hM hnm ht htd hrow hnd hlen hnone hcells hn hxj hyj hxfd hc hperm hrows hl hdis hfoot hoD htkl hsp hpbf htw I htk
        have t0 : wr.drew.cell? ⟨sp, 0, none⟩ = some (.pointer (some ⟨k.p, 0, none⟩)) := s0
        have tp : wr.drew.cell? ⟨pb, 0, none⟩ = some (.func (.func 83) #[] #[.pointer (some ⟨hb, 0, none⟩)]) := hpc
        rcases BG.2 with ⟨up, _, hup⟩ | cr
        · have NR : Hid (∀ W, Kept [] wr W → Calls Tryz.prog 31 #[.pointer (some ⟨k.p, 0, none⟩), .string (rowN k.temp y)] W fun e w' => ∃ q, e = .returned (.tuple #[.pointer (some ⟨q, 0, none⟩), .int .i64 0]) ∧ RkX W w' fd' k.p q (bg A') (rowN k.temp y) (fileB T) rst0 ∧ W.heap.size ≤ q) :=
            fun W kk => newReaderA_go (HDK.out W kk) hup (by omega) nm9 (up.here (List.mem_cons_of_mem _ hFE)) hFL
          have LP : Hid (∀ w2 w3 qr, Kept [] wr w2 → RkX w2 w3 fd' k.p qr (bg A') (rowN k.temp y) (fileB T) rst0 → w2.heap.size ≤ qr →
              Calls Tryz.prog 83 #[.pointer (some ⟨w3.heap.size, 0, none⟩), .pointer (some ⟨hb, 0, none⟩)] (w3.alloc (.cells #[.int .u64 0, .int .u64 0, .bool false, .pointer (some ⟨qr, 0, none⟩), .int .i64 (y : Int)] 81)) (LoadP w fd hb pb sp k cnt hvS rvS HS (X.map (·.1) ++ R') last (X.map (rowE k.temp) ++ Eo) A0 nm q tv M A.2.ops (X.take j ++ [(y, T)]))) :=
            fun w2 w3 qr k12 hrk hq => HD.out.1.push hMM.out k12 up BG.1 hrk hq rfl hy hnew hT hTr hFE nm9 hj1 hopl
          clear BG up hup hnew hT hTr hFE hFL
          go_wp2
          go_region_held (fun W => W.cell? ⟨sp, 0, none⟩ = some (.pointer (some ⟨k.p, 0, none⟩)) ∧ W.cell? ⟨pb, 0, none⟩ = some (.func (.func 83) #[] #[.pointer (some ⟨hb, 0, none⟩)])) (exact ⟨by assumption, by assumption⟩)
            (first | (go_at_call 61; refine (NM.out _ ((Below.refl _ wr).drew)).mono ?_; rintro e w2 ⟨rfl, k2⟩; have k2' : Kept [] wr w2 := ⟨k2.os, k2.tape, k2.output, k2.size, k2.block⟩; have a0 := KC0.out k2 t0; have ap := KC0.out k2 tp; have HK2 := hide k2'; clear k2 k2') | (go_at_call 31; refine (NR.out _ HK2.out).mono ?_; rintro e w3 ⟨qr, rfl, hrk, hqr⟩; have k3 : Kept fd' w2 w3 := hrk.choose_spec.choose_spec.2.1; have z0 := HC.out k3 a0; have zp := HCP.out k3 ap; have HRK := hide (And.intro hrk hqr); clear hrk hqr k3))
          go_wp2_with fail
          refine (LP.out w2 w3 qr HK2.out HRK.out.1 HRK.out.2).mono ?_
          rintro e w5 (⟨rfl, B, fd5, hL⟩ | ⟨rfl, hC⟩)
          · have HL5 := hide hL
            clear hL
            go_wp2
            go_roundg gk
            case measure => omega
            case rel =>
              refine ⟨j + 1, rfl, by omega, B, fd5, ?_⟩
              rw [HD.out.2.2.2.2.1]
              exact HL5.out
          · have HC5 := hide hC
            clear hC
            go_wp2
            go_ret
            refine merge_crash HC5.out ?_
            have h7 := HD.out.2.2.2.2.2.1
            simp only [List.length_append, List.length_singleton, List.length_take]
            omega
        · have NR : Hid (∀ W, Kept [] wr W → Calls Tryz.prog 31 #[.pointer (some ⟨k.p, 0, none⟩), .string (rowN k.temp y)] W fun e w' => e = .returned (.tuple #[.pointer none, .int .i64 7]) ∧ Outc W w' fd' k.p (bg A')) :=
            fun W kk => newReaderA_no (HDK.out W kk) (by omega) nm9 (down_errA cr.down _)
          have HCR := hide (And.intro cr BG.1)
          clear cr BG hnew hT hTr hFE hFL
          go_wp2
          go_region_held (fun W => W.cell? ⟨sp, 0, none⟩ = some (.pointer (some ⟨k.p, 0, none⟩))) (assumption)
            (first | (go_at_call 61; refine (NM.out _ ((Below.refl _ wr).drew)).mono ?_; rintro e w2 ⟨rfl, k2⟩; have k2' : Kept [] wr w2 := ⟨k2.os, k2.tape, k2.output, k2.size, k2.block⟩; have a0 := KC0.out k2 t0; have HK2 := hide k2'; clear k2 k2') | (go_at_call 31; refine (NR.out _ HK2.out).mono ?_; rintro e w3 ⟨rfl, fd3, d3, k3, n3⟩; have z0 := HC.out k3 a0; have HW3 := hide (And.intro d3 (And.intro k3 n3)); clear d3 k3 n3))
          go_wp2
          go_ret
          obtain ⟨d3, k3, n3⟩ := HW3.out
          obtain ⟨D, is, hdis, hoD, htk, hn, hsd, hops⟩ := HD.out
          obtain ⟨cr, ho1⟩ := HCR.out
          have hss : ∀ z ∈ sofp sp hvS rvS, z ∉ fd' := fun z hz e => hsd z hz (wfp_mem.2 (.inl e))
          have kk : Kept fd' wr w3 := (HK2.out.mono (fp' := fd') (by simp)).trans k3 (fun _ h => .inl h)
          refine merge_crash (o1 := A.2.ops + 3 * j + 1) ⟨bg A', fd3, d3, is.kept kk hss, cr, D.kept.trans kk D.new, fun z hz => ?_, fun z hz => apart_new (n3) (Nat.lt_of_lt_of_le (is.lt z hz) HK2.out.size) (hss z hz), ?_, ?_⟩ (by omega)
          · rcases n3 z hz with h | h
            · exact D.new z h
            · exact .inr (Nat.le_trans D.kept.size (Nat.le_trans HK2.out.size h))
          · show A.2.ops ≤ (beginA A'.1 A'.2).2.ops
            omega
          · show (beginA A'.1 A'.2).2.ops ≤ _
            omega
end

end Go.Proofs.YtgpbanjammipiaaGreatDoor

namespace Go.Proofs.YtgpbanjammipiaaGreatDoor
open Go.RowKit Go.Maps

/-- A file of records has at most two sectors for each. -/
theorem sec_file (l : List Rc) : sec (fileB l).length ≤ 2 * l.length := by
  rw [fileB_length]
  unfold sec
  omega

/-- The rows that are there: their numbers, and their records. -/
def GoodX (X : List (Nat × List Rc)) (last : Nat) : Prop := (X.map (·.1)).Nodup ∧ ∀ x ∈ X, x.1 ≤ last ∧ (∀ y ∈ x.2, okR y) ∧ Rises x.2

theorem used_rows (temp : ByteArray) (X : List (Nat × List Rc)) : usedB (X.map (rowE temp)) ≤ 2 * (X.flatMap (·.2)).length := by
  induction X with
  | nil => rw [List.map_nil, usedB_nil]; simp
  | cons x X ih =>
    rw [List.map_cons, usedB_cons, List.flatMap_cons, List.length_append]
    have := sec_file x.2
    show sec (fileB x.2).length + _ ≤ _
    omega

/-- Which names may be there behind a crash. -/
def Mw (temp : ByteArray) (on : List UInt8) (m : List UInt8) : Prop := m = on ∨ ∃ r, m = rowB temp r

/-- A sorter behind an error: e' the error. -/
def SorE (sp : Nat) (k : Skn) (A0 : Dsk) (W0 : World) (fp0 : List Nat) (on : List UInt8) (er : Int) (nn : Nat) (o0 o1 : Int) (e' : Int) (w' : World) : Prop :=
  ∃ B fd cnt hv rv H Rl last, Dk w' fd k.p B.1 B.2 ∧ SoM w' sp k cnt hv rv H Rl last ∧ (∀ z ∈ sofp sp hv rv, z ∉ fd) ∧ Kept fp0 W0 w' ∧ Newly W0 fp0 (fd ++ sofp sp hv rv) ∧ o0 ≤ B.2.ops ∧ B.2.ops ≤ o1 ∧
    ((((e' = er ∧ er ≠ 0) ∨ (e' = 6 ∧ A0.2.room - A0.2.used < 4 * nn)) ∧ ∃ E', Ext A0 B E' ∧ (E'.map (·.1)).Perm (on :: Rl.map (rowB k.temp)) ∧ (∀ y ∈ Rl, y < 1000000) ∧ Rl.length ≤ 100000) ∨ (e' = 7 ∧ Cr A0 B (Mw k.temp on) (4 * nn)))

/-- cut's loop: X are the rows, H is held; l0 all records of the file, nn how many. -/
structure CutL (sp : Nat) (k : Skn) (A0 : Dsk) (W0 : World) (fp0 : List Nat) (on : List UInt8) (l0 : List Rc) (sid : Sid) (er : Int) (nn : Nat) (o0 : Int) (A : Dsk) (fd fs : List Nat) (cnt : Nat) (hv rv : Value) (H : List Rc) (X : List (Nat × List Rc)) (x : Rc) (i : Bool) (rs : List Rc) (w : World) : Prop where
  at3 : At3 W0 w fp0 sp k A0 A (X.map (rowE k.temp) ++ [(on, [], [])]) fd fs cnt hv rv H (X.map (·.1)) X.length sid x i rs er
  good : GoodX X X.length
  like : Like k.how (X.flatMap (·.2) ++ (H ++ lst i x rs)) l0
  okr : ∀ y ∈ lst i x rs, okR y
  cnts : cnt + (lst i x rs).length = nn
  size : (X.flatMap (·.2)).length + H.length ≤ cnt
  full : (i = true → H.length = k.bud) ∧ H.length ≤ k.bud ∧ (i = false → er = 0)
  cut : cnt = X.length * k.bud + H.length ∨ (H = [] ∧ i = false ∧ (X.length - 1) * k.bud < cnt ∧ cnt ≤ X.length * k.bud)
  ops : o0 ≤ A.2.ops ∧ A.2.ops ≤ o0 + 259 * X.length + 3 * (cnt - H.length : Int)

section
variable {sp : Nat} {k : Skn} {A0 A B : Dsk} {W0 w w' : World} {fp0 : List Nat} {on : List UInt8} {l0 : List Rc} {sid : Sid} {er : Int} {nn : Nat} {o0 : Int} {fd fs fd' fs' : List Nat} {cnt : Nat} {hv rv hv' rv' : Value} {H : List Rc} {R : List Nat} {last : Nat} {X : List (Nat × List Rc)} {x : Rc} {i : Bool} {rs : List Rc} {E : List Ab}

/-- All names of E may be there. -/
theorem cut_names (X : List (Nat × List Rc)) : ∀ x ∈ X.map (rowE k.temp) ++ [(on, ([] : List Int), ([] : List Int))], Mw k.temp on x.1 := fun x hx => by
  simp only [List.mem_append, List.mem_map, List.mem_singleton] at hx
  rcases hx with ⟨y, _, rfl⟩ | rfl
  · exact .inr ⟨y.1, rfl⟩
  · exact .inl rfl

/-- The state, told from its own world on. -/
theorem At3.own0 (h : At3 W0 w fp0 sp k A0 A E fd fs cnt hv rv H R last sid x i rs er) : At3 w w (fd ++ (sofp sp hv rv ++ fs)) sp k A0 A E fd fs cnt hv rv H R last sid x i rs er :=
  ⟨h.disk, h.sorter, h.src, Fr3.start h.fr.ab h.fr.ac h.fr.bc, h.ext⟩

theorem At3.back {cnt' : Nat} {H' : List Rc} {R' : List Nat} {last' : Nat} {x' : Rc} {i' : Bool} {rs' : List Rc} {E' : List Ab} (h : At3 W0 w fp0 sp k A0 A E fd fs cnt hv rv H R last sid x i rs er) (g : At3 w w' (fd ++ (sofp sp hv rv ++ fs)) sp k A0 B E' fd' fs' cnt' hv' rv' H' R' last' sid x' i' rs' er) : At3 W0 w' fp0 sp k A0 B E' fd' fs' cnt' hv' rv' H' R' last' sid x' i' rs' er :=
  ⟨g.disk, g.sorter, g.src, ⟨h.fr.kept.trans g.fr.kept h.fr.new, h.fr.new.trans g.fr.new h.fr.kept.size, g.fr.ab, g.fr.ac, g.fr.bc⟩, g.ext⟩

theorem outL_own {how : Int} {H : List Rc} (h : Rises H) : outL how H = canR how H := by
  rw [← outL_can]
  congr 1
  exact Rises.unique h (sorts_rise _) (by simpa using (sortR_perm [] H).symm)
end

end Go.Proofs.YtgpbanjammipiaaGreatDoor

namespace Go.Proofs.YtgpbanjammipiaaGreatDoor
open Go.RowKit Go.Maps

section
variable {sp q : Nat} {k : Skn} {A0 A B B2 : Dsk} {W0 w w1 w2 w3 : World} {fp0 : List Nat} {on : List UInt8} {l0 : List Rc} {sid : Sid} {er e' : Int} {nn : Nat} {o0 o1 : Int} {fd fs fd1 fd2 : List Nat} {tv : Value} {cnt : Nat} {hv rv hv2 rv1 : Value} {H : List Rc} {X : List (Nat × List Rc)} {x : Rc} {i : Bool} {rs : List Rc}

/-- What was written ahead of an error, in the sorter. -/
theorem cut_used (C : CutL sp k A0 W0 fp0 on l0 sid er nn o0 A fd fs cnt hv rv H X x i rs w) : sec (fileB (canR k.how H)).length + usedB (X.map (rowE k.temp) ++ [(on, ([] : List Int), ([] : List Int))]) ≤ 2 * nn := by
  have h1 := sec_file (canR k.how H)
  have h2 := canR_le k.how H
  have h3 := used_rows k.temp X
  have h4 := C.size
  have h5 := C.cnts
  rw [usedB_app, usedB_cons, usedB_nil]
  have e0 : sec ([] : List Int).length = 0 := by decide
  dsimp only
  omega

/-- An error behind begin, or behind write. -/
theorem cut_err (C : CutL sp k A0 W0 fp0 on l0 sid er nn o0 A fd fs cnt hv rv H X x i rs w) {B : Dsk} {H' : List Rc} {Rl : List Nat} {cnt' last' : Nat} {hv' rv' : Value} (d : Dk w1 fd1 k.p B.1 B.2) (s : SoM w1 sp k cnt' hv' rv' H' Rl last') (hd : ∀ z ∈ sofp sp hv' rv', z ∉ fd1) (kk : Kept (fd ++ sofp sp hv rv) w w1)
    (n1 : Newly w (fd ++ sofp sp hv rv) fd1) (n2 : Newly w (fd ++ sofp sp hv rv) (sofp sp hv' rv')) (p1 : o0 ≤ B.2.ops) (p2 : B.2.ops ≤ o1)
    (hc : (e' = 6 ∧ A0.2.room - A0.2.used < 4 * nn ∧ ∃ E', Ext A0 B E' ∧ (E'.map (·.1)).Perm (on :: Rl.map (rowB k.temp)) ∧ (∀ y ∈ Rl, y < 1000000) ∧ Rl.length ≤ 100000) ∨ (e' = 7 ∧ Cr A0 B (Mw k.temp on) (4 * nn))) : SorE sp k A0 W0 fp0 on er nn o0 o1 e' w1 := by
  have hin := newly_app C.at3.fr.inA C.at3.fr.inB
  refine ⟨B, fd1, cnt', hv', rv', H', Rl, last', d, s, hd, C.at3.fr.kept.trans kk hin, newly_app (hin.trans n1 C.at3.fr.kept.size) (hin.trans n2 C.at3.fr.kept.size), p1, p2, ?_⟩
  rcases hc with ⟨h1, h2, h3⟩ | h
  · exact .inl ⟨.inr ⟨h1, h2⟩, h3⟩
  · exact .inr h

/-- The row is written: the state behind it. -/
theorem cut_wrote (C : CutL sp k A0 W0 fp0 on l0 sid er nn o0 A fd fs cnt hv rv H X x i rs w) (d : Dk w2 fd2 k.p B2.1 B2.2) (s : SoM w2 sp k cnt hv2 rv1 [] (X.map (·.1) ++ [X.length + 1]) (X.length + 1)) (hd : ∀ z ∈ sofp sp hv2 rv1, z ∉ fd2)
    (kk : Kept (fd ++ sofp sp hv rv) w w2) (n1 : Newly w (fd ++ sofp sp hv rv) fd2) (n2 : Newly w (fd ++ sofp sp hv rv) (sofp sp hv2 rv1)) (hx : Ext A0 B2 ((rowB k.temp (X.length + 1), fileB (canR k.how H), fileB (canR k.how H)) :: (X.map (rowE k.temp) ++ [(on, [], [])]))) :
    At3 W0 w2 fp0 sp k A0 B2 ((X ++ [(X.length + 1, canR k.how H)]).map (rowE k.temp) ++ [(on, [], [])]) fd2 fs cnt hv2 rv1 [] ((X ++ [(X.length + 1, canR k.how H)]).map (·.1)) (X ++ [(X.length + 1, canR k.how H)]).length sid x i rs er := by
  refine ⟨d, ?_, C.at3.src.kept kk (fun y hy e => ?_), C.at3.fr.moveAB C.at3.src.lt kk n1 n2 hd, hx.perm ?_⟩
  · simpa using s
  · rcases List.mem_append.1 e with e | e
    · exact C.at3.fr.ac y hy e
    · exact C.at3.fr.bc y hy e
  · rw [List.map_append]
    simp only [List.map_cons, List.map_nil, List.append_assoc, List.cons_append, List.nil_append]
    exact List.perm_middle.symm

theorem goodX_snoc (C : CutL sp k A0 W0 fp0 on l0 sid er nn o0 A fd fs cnt hv rv H X x i rs w) : GoodX (X ++ [(X.length + 1, canR k.how H)]) (X ++ [(X.length + 1, canR k.how H)]).length := by
  obtain ⟨h1, h2⟩ := C.good
  have hok := C.at3.sorter.ok
  refine ⟨?_, fun y hy => ?_⟩
  · rw [List.map_append, List.nodup_append]
    refine ⟨h1, by simp, fun a ha b hb e => ?_⟩
    simp only [List.map_cons, List.map_nil, List.mem_singleton] at hb
    obtain ⟨y, hy, rfl⟩ := List.mem_map.1 ha
    have := (h2 y hy).1
    omega
  · simp only [List.length_append, List.length_singleton]
    simp only [List.mem_append, List.mem_singleton] at hy
    rcases hy with hy | rfl
    · obtain ⟨a, b, c⟩ := h2 y hy
      exact ⟨by omega, b, c⟩
    · exact ⟨Nat.le_refl _, canR_ok hok, canR_rises hok⟩

/-- .. and behind fill. -/
theorem cut_filled (C : CutL sp k A0 W0 fp0 on l0 sid er nn o0 A fd fs cnt hv rv H X x i rs w) (hH : H ≠ []) (hbud : 0 < k.bud) (G : At3 W0 w2 fp0 sp k A0 B2 ((X ++ [(X.length + 1, canR k.how H)]).map (rowE k.temp) ++ [(on, [], [])]) fd2 fs cnt hv2 rv1 [] ((X ++ [(X.length + 1, canR k.how H)]).map (·.1)) (X ++ [(X.length + 1, canR k.how H)]).length sid x i rs er)
    (hops : A.2.ops ≤ B2.2.ops ∧ B2.2.ops ≤ A.2.ops + 1 + (3 * H.length + 8)) {e : Ending}
    (F : FillP sp k A0 ((X ++ [(X.length + 1, canR k.how H)]).map (rowE k.temp) ++ [(on, [], [])]) (Mw k.temp on) rv1 ((X ++ [(X.length + 1, canR k.how H)]).map (·.1)) (X ++ [(X.length + 1, canR k.how H)]).length sid er w2 (fd2 ++ (sofp sp hv2 rv1 ++ fs)) cnt [] (lst i x rs) B2.2.ops e w3) (hnn : nn ≤ 125) (ho1 : o0 + 262 * nn + 2000 ≤ o1) (hXl : X.length ≤ nn) :
    (e = .returned (.int .i64 0) ∧ ∃ A3 fd3 fs3 cnt3 hv3 H3 x3 i3 rs3, CutL sp k A0 W0 fp0 on l0 sid er nn o0 A3 fd3 fs3 cnt3 hv3 rv1 H3 (X ++ [(X.length + 1, canR k.how H)]) x3 i3 rs3 w3 ∧ (H3 ≠ [] → (lst i3 x3 rs3).length < (lst i x rs).length) ∧ X.length + 1 ≤ nn) ∨
    (∃ e', e = .returned (.int .i64 e') ∧ e' ≠ 0 ∧ SorE sp k A0 W0 fp0 on er nn o0 o1 e' w3) := by
  obtain ⟨B3, e', rfl, p1, p2, hc⟩ := F
  have hCo := C.ops
  have hCc := C.cnts
  have hCs := C.size
  have hok := C.at3.sorter.ok
  have hcl := canR_le k.how H
  have hl0 : 0 < H.length := List.length_pos_iff.2 hH
  have hcut : cnt = X.length * k.bud + H.length := by
    rcases C.cut with h | ⟨h, _⟩
    · exact h
    · exact absurd h hH
  have hXb : X.length ≤ X.length * k.bud := Nat.le_mul_of_pos_right _ hbud
  have hX' : (X ++ [(X.length + 1, canR k.how H)]).length = X.length + 1 := by simp
  rcases hc with ⟨rfl, fd3, fs3, hv3, x3, i3, rs3, tk, G3, hL, hfull, her, hle⟩ | ⟨fd3, hv3, H', cnt', d3, s3, hd3, k3, n3, hc⟩
  · left
    have hLl : (lst i x rs).length = tk.length + (lst i3 x3 rs3).length := by rw [hL, List.length_append]
    simp only [List.length_nil, Nat.zero_add] at hfull hle
    have htl : (sortR [] tk).length = tk.length := by rw [sortR_length]; simp
    refine ⟨rfl, B3, fd3, fs3, cnt + tk.length, hv3, sortR [] tk, x3, i3, rs3, ⟨G.back G3, goodX_snoc C, ?_, fun y hy => C.okr y (by rw [hL]; exact List.mem_append.2 (.inr hy)), by omega, ?_, ⟨fun h => by rw [htl]; exact hfull h, by rw [htl]; exact hle, her⟩, ?_, by omega, ?_⟩, fun h => ?_, by omega⟩
    · refine Like.trans ?_ C.like
      rw [List.flatMap_append, hL]
      simp only [List.flatMap_cons, List.flatMap_nil, List.append_nil]
      rw [List.append_assoc]
      refine (Like.refl _ _).append ?_
      refine (canR_like hok).append ?_
      exact (Like.of_perm (by simpa using sortR_perm [] tk)).append (Like.refl _ _)
    · rw [List.flatMap_append, htl]
      simp only [List.flatMap_cons, List.flatMap_nil, List.append_nil, List.length_append]
      omega
    · rw [hX', htl]
      cases hi : i with
      | true =>
        have := C.full.1 hi
        left
        rw [Nat.add_mul]
        omega
      | false =>
        have hz : (lst i x rs).length = 0 := by rw [hi]; rfl
        right
        have ht0 : tk = [] := List.eq_nil_of_length_eq_zero (by omega)
        have hi3 : i3 = false := by
          cases i3 with
          | false => rfl
          | true =>
            have h9 : (lst true x3 rs3).length = rs3.length + 1 := by simp [lst]
            omega
        refine ⟨by rw [ht0]; rfl, hi3, ?_, ?_⟩
        · rw [ht0, Nat.add_sub_cancel]
          simp
          omega
        · have := C.full.2.1
          rw [ht0, Nat.add_mul]
          simp
          omega
    · rw [hX', htl]
      have : ((X.length + 1 : Nat) : Int) = X.length + 1 := by omega
      omega
    · have : tk.length ≠ 0 := fun e => h (by rw [List.eq_nil_of_length_eq_zero e]; rfl)
      omega
  · right
    have hin := newly_app G.fr.inA (newly_app G.fr.inB G.fr.inC)
    refine ⟨e', rfl, ?_, B3, fd3, cnt', hv3, rv1, H', _, _, d3, s3, hd3, G.fr.kept.trans k3 G.fr.new, G.fr.new.trans n3 G.fr.kept.size, by omega, ?_, ?_⟩
    · rcases hc with ⟨h, h2, _⟩ | ⟨h, _⟩
      · rw [h]; exact h2
      · omega
    · omega
    · rcases hc with ⟨h1, h2, h3⟩ | ⟨h1, h2⟩
      · refine .inl ⟨.inl ⟨h1, h2⟩, _, h3, ?_, fun y hy => ?_, ?_⟩
        · rw [List.map_append, List.map_map, List.map_map]
          simp only [List.map_cons, List.map_nil]
          exact List.perm_append_comm
        · obtain ⟨z, hz, rfl⟩ := List.mem_map.1 hy
          have := (goodX_snoc C).2 z hz
          omega
        · rw [List.length_map, hX']
          omega
      · refine .inr ⟨h1, h2.mono (fun _ h => h) ?_⟩
        rw [usedB_app, usedB_cons, usedB_nil]
        have h3 := used_rows k.temp (X ++ [(X.length + 1, canR k.how H)])
        rw [List.flatMap_append] at h3
        simp only [List.flatMap_cons, List.flatMap_nil, List.append_nil, List.length_append] at h3
        have e0 : sec ([] : List Int).length = 0 := by decide
        dsimp only
        omega
end

end Go.Proofs.YtgpbanjammipiaaGreatDoor

namespace Go.Proofs.YtgpbanjammipiaaGreatDoor
open Go.RowKit Go.Maps

/-- What cut leaves. -/
def CutP (sp : Nat) (k : Skn) (A0 : Dsk) (W0 : World) (fp0 : List Nat) (on : List UInt8) (l0 : List Rc) (sid : Sid) (er : Int) (nn : Nat) (o0 o1 : Int) (e : Ending) (w' : World) : Prop :=
  (e = .returned (.int .i64 0) ∧ ∃ A fd fs cnt hv rv X x i rs, CutL sp k A0 W0 fp0 on l0 sid er nn o0 A fd fs cnt hv rv [] X x i rs w' ∧ X.length ≤ nn) ∨ (∃ e', e = .returned (.int .i64 e') ∧ e' ≠ 0 ∧ SorE sp k A0 W0 fp0 on er nn o0 o1 e' w')

theorem perm_ends {α : Type} (a b : α) (l : List α) : (a :: (l ++ [b])).Perm (b :: (l ++ [a])) :=
  ((List.perm_append_comm (l₁ := l) (l₂ := [b])).cons a).trans ((List.Perm.swap b a l).trans ((List.perm_append_comm (l₁ := [a]) (l₂ := l)).cons b))

section
variable {sp : Nat} {k : Skn} {A0 A : Dsk} {W0 w : World} {fp0 : List Nat} {on : List UInt8} {l0 : List Rc} {sid : Sid} {er : Int} {nn : Nat} {o0 o1 : Int} {fd fs : List Nat} {cnt : Nat} {hv rv : Value} {H : List Rc} {X : List (Nat × List Rc)} {x : Rc} {i : Bool} {rs : List Rc}

set_option maxRecDepth 100000 in
set_option maxHeartbeats 4000000 in
theorem soCut_any (C : CutL sp k A0 W0 fp0 on l0 sid er nn o0 A fd fs cnt hv rv H X x i rs w) (hX : X.length ≤ nn) (ht : Tab W0) (htf : gTab ∉ fp0) (hbud : 0 < k.bud ∧ k.bud ≤ 100000) (htm : k.temp.size ≤ 17) (hnn : nn ≤ 125) (ho0 : o0 ≤ 700000) (ho1 : o0 + 262 * nn + 2000 ≤ o1)
    (hon : ∀ r, on ≠ rowB k.temp r) (h0 : ∀ r, lookA A0.1 (rowB k.temp r) = none) (hl : Lies A0 sid) (hnm : sid.nm.size ≤ maxLen) :
    Calls Tryz.prog 57 #[.pointer (some ⟨sp, 0, none⟩), .pointer (some ⟨sid.b, 0, none⟩)] w (CutP sp k A0 W0 fp0 on l0 sid er nn o0 o1) := by
  have C0 := hide (And.intro C hX)
  have HH := hide (And.intro ht (And.intro htf (And.intro hbud (And.intro htm (And.intro hnn (And.intro ho0 (And.intro ho1 (And.intro hon (And.intro h0 (And.intro hl hnm))))))))))
  obtain ⟨b, hb⟩ : ∃ b, b = sid.b := ⟨_, rfl⟩
  rw [← hb]
  have HB := hide hb
  obtain ⟨g0, hg0⟩ : ∃ g, g = if H = [] then 0 else (lst i x rs).length + 1 := ⟨_, rfl⟩
  have HG0 := hide hg0
  clear C hX ht htf hbud htm hnn ho0 ho1 hon h0 hl hnm hb hg0
  go_enter Tryz.func57, Tryz.ntmps57
  have hmf : ∀ (fn : Fn) (first cap : Array Value) (w : World), (Instr.makeFunc fn first cap).run Tryz.prog w = .ok (.func fn first cap) w := fun _ _ _ _ => rfl
  go_wp2_with fail
  go_loopg [] (g0) (fun gk wr => Hid (∃ A fd fs cnt hv rv H X x i rs, CutL sp k A0 W0 fp0 on l0 sid er nn o0 A fd fs cnt hv rv H X x i rs wr ∧ X.length ≤ nn ∧ gk = if H = [] then 0 else (lst i x rs).length + 1))
  case atStart => exact ⟨A, fd, fs, cnt, hv, rv, H, X, x, i, rs, C0.out.1, C0.out.2, HG0.out⟩
  case round =>
    clear C0 HG0
    obtain ⟨A2, fd2, fs2, cnt2, hv2, rv2, H2, X2, x2, i2, rs2, C, hX, hgk⟩ := hrel.out
    have hHlen : H2.length ≤ 100000 := Nat.le_trans C.full.2.1 HH.out.2.2.1.2
    have LEN := hide (C.at3.sorter.len (by omega))
    cases H2 with
    | nil =>
      have HC := hide (And.intro C hX)
      clear C hX hrel
      go_wp2_with fail
      refine LEN.out.mono ?_
      rintro e w1 ⟨rfl, m, rfl⟩
      go_wp2
      go_ret
      obtain ⟨C, hX⟩ := HC.out
      left
      refine ⟨rfl, A2, fd2, fs2, cnt2, hv2, rv2, X2, x2, i2, rs2, ?_, hX⟩
      have bq : Below wr.heap.size wr (wr.drewN m) := ⟨rfl, rfl, rfl, Nat.le_refl _, fun _ _ => rfl⟩
      exact ⟨C.at3.below bq, C.good, C.like, C.okr, C.cnts, C.size, C.full, C.cut, C.ops⟩
    | cons y H3 =>
      have hlen : (0 : Int) < ((y :: H3).length : Nat) := by simp only [List.length_cons]; omega
      obtain ⟨n, hn⟩ : ∃ n, n = (y :: H3).length := ⟨_, rfl⟩
      rw [← hn] at LEN hlen
      have HC := hide (And.intro C (And.intro hX (And.intro hgk hHlen)))
      clear C hX hrel hn hgk hHlen
      go_wp2_with fail
      refine LEN.out.mono ?_
      rintro e w1 ⟨rfl, m, rfl⟩
      have bq : Below wr.heap.size wr (wr.drewN m) := ⟨rfl, rfl, rfl, Nat.le_refl _, fun _ _ => rfl⟩
      obtain ⟨w1, hw1⟩ : ∃ w1, w1 = wr.drewN m := ⟨_, rfl⟩
      rw [← hw1] at bq ⊢
      obtain ⟨C, hX, hgk, hHlen⟩ := HC.out
      have C1 : CutL sp k A0 W0 fp0 on l0 sid er nn o0 A2 fd2 fs2 cnt2 hv2 rv2 (y :: H3) X2 x2 i2 rs2 w1 := ⟨C.at3.below bq, C.good, C.like, C.okr, C.cnts, C.size, C.full, C.cut, C.ops⟩
      obtain ⟨ht, htf, hbud, htm, hnn, ho0, ho1, hon, h0, hl, hnm⟩ := HH.out
      have hCo := C.ops
      have hCc := C.cnts
      have BG := hide (soBegin_any (M := Mw k.temp on) C1.at3.sorter C1.at3.disk C1.at3.fr.ab C1.at3.ext (cut_names X2) (ht.kept C1.at3.fr.kept htf).1 htm (by omega) (by rw [List.length_map]; omega) (fun z hz => by
        simp only [List.mem_append, List.mem_map, List.mem_singleton] at hz
        rcases hz with ⟨v, hv9, rfl⟩ | rfl
        · intro e
          have h1 := rowN_inj e
          have := (C1.good.2 v hv9).1
          omega
        · exact hon _) (h0 _) (by omega))
      have HC1 := hide (And.intro C1 (And.intro hX (And.intro hgk hHlen)))
      clear C1 C hX hgk hHlen ht htf hbud htm hnn ho0 ho1 hon h0 hl hnm hCo hCc hw1 bq HC LEN
      go_wp2_with fail
      refine BG.out.mono ?_
      rintro e w2 ⟨B, ops1, kk1, ⟨q, fd3, tv, rv1, rfl, wk, s1, dis, nw, ns, ext, _⟩ | ⟨fd3, rfl, d3, s3, dis, n3, cr⟩⟩
      · obtain ⟨C1, hX, hgk, hHlen⟩ := HC1.out
        obtain ⟨ht, htf, hbud, htm, hnn, ho0, ho1, hon, h0, hl, hnm⟩ := HH.out
        have hCo := C1.ops
        have hCc := C1.cnts
        have WR := hide (soWrite_any (M := Mw k.temp on) (pop_feeds sp k cnt2 rv1 (X2.map (·.1) ++ [X2.length + 1]) (X2.length + 1) A0 (X2.map (rowE k.temp) ++ [(on, [], [])]) (rowN k.temp (X2.length + 1)).data.toList) wk ⟨hv2, s1, rfl, hHlen⟩ dis ext (.inr ⟨X2.length + 1, rfl⟩) (cut_names X2) (rowN_may htm (by omega)).2 (by omega))
        have HW := hide (And.intro wk (And.intro s1 (And.intro dis (And.intro nw (And.intro ns (And.intro ops1 kk1))))))
        clear wk s1 dis nw ns ext ops1 kk1 C1 hX hgk hHlen ht htf hbud htm hnn ho0 ho1 hon h0 hl hnm hCo hCc
        go_wp2_with fail
        refine WR.out.mono ?_
        rintro e w3 ⟨B2, kc, fd4, ff4, rfl, d4, ds4, K4, N4, q1, q2, CS⟩
        obtain ⟨C1, hX, hgk, hHlen⟩ := HC1.out
        obtain ⟨ht, htf, hbud, htm, hnn, ho0, ho1, hon, h0, hl, hnm⟩ := HH.out
        obtain ⟨wk, s1, dis, nw, ns, ops1, kk1⟩ := HW.out
        have hCo := C1.ops
        have hCc := C1.cnts
        have hto : ∀ z ∈ wfp fd3 q tv ++ sofp sp hv2 rv1, z ∈ fd2 ++ sofp sp hv2 rv2 ∨ w1.heap.size ≤ z := fun z hz => by
          rcases List.mem_append.1 hz with h | h
          · exact nw z h
          · exact (ns z h).imp (fun h => List.mem_append.2 (.inr h)) id
        have k13 : Kept (fd2 ++ sofp sp hv2 rv2) w1 w3 := kk1.trans K4 hto
        have n13 : ∀ z ∈ fd4 ++ ff4, z ∈ fd2 ++ sofp sp hv2 rv2 ∨ w1.heap.size ≤ z := fun z hz => by
          rcases N4 z hz with h | h
          · exact hto z h
          · exact .inr (Nat.le_trans kk1.size h)
        have n1 : Newly w1 (fd2 ++ sofp sp hv2 rv2) fd4 := fun z hz => n13 z (List.mem_append.2 (.inl hz))
        have n2 : Newly w1 (fd2 ++ sofp sp hv2 rv2) ff4 := fun z hz => n13 z (List.mem_append.2 (.inr hz))
        rw [outL_own C1.at3.sorter.rises] at CS
        have hus := cut_used C1
        rcases CS with ⟨rfl, ⟨hv4, s4, rfl, _⟩, x4⟩ | ⟨rfl, ⟨hv4, H4, s4, rfl⟩, ⟨F, x4⟩, hroom⟩ | ⟨rfl, ⟨hv4, H4, s4, rfl⟩, c4⟩
        · have G := cut_wrote C1 d4 s4 ds4 k13 n1 n2 x4
          have FL := hide (fill_any (M := Mw k.temp on) G.own0 (cut_names _) hl C1.okr C1.full.2.2 (by simp) hbud.2 (by omega) (by omega) hnm)
          have HG := hide (And.intro G (And.intro q1 (And.intro q2 ops1)))
          rw [← HB.out] at FL
          clear wk s1 dis nw ns ops1 kk1 C1 hX hgk hHlen ht htf hbud htm hnn ho0 ho1 hon h0 hl hnm hCo hCc G d4 ds4 K4 N4 q1 q2 x4 s4 k13 n13 n1 n2 hto hus
          go_wp2_with fail
          refine FL.out.mono ?_
          rintro e w4 hF
          obtain ⟨C1, hX, hgk, hHlen⟩ := HC1.out
          obtain ⟨ht, htf, hbud, htm, hnn, ho0, ho1, hon, h0, hl, hnm⟩ := HH.out
          obtain ⟨G, q1, q2, ops1⟩ := HG.out
          rcases cut_filled C1 (by simp) hbud.1 G ⟨by omega, by omega⟩ hF hnn ho1 hX with ⟨rfl, A5, fd5, fs5, cnt5, hv5, H5, x5, i5, rs5, C5, hlt, hle⟩ | ⟨e', rfl, he', hE⟩
          · have HN := hide (And.intro C5 (And.intro hlt (And.intro hle hgk)))
            clear C1 hX hgk hHlen ht htf hbud htm hnn ho0 ho1 hon h0 hl hnm G q1 q2 ops1 hF C5 hlt hle
            go_wp2
            go_roundg (if H5 = [] then 0 else (lst i5 x5 rs5).length + 1)
            case measure =>
              obtain ⟨_, hlt, _, hgk⟩ := HN.out
              rw [if_neg (List.cons_ne_nil _ _)] at hgk
              by_cases h5 : H5 = []
              · rw [if_pos h5]; omega
              · rw [if_neg h5]
                have := hlt h5
                omega
            case rel =>
              obtain ⟨C5, hlt, hle, hgk⟩ := HN.out
              refine ⟨A5, fd5, fs5, cnt5, hv5, rv1, H5, _, x5, i5, rs5, C5, ?_, rfl⟩
              rw [List.length_append, List.length_singleton]
              exact hle
          · have hE9 := hide hE
            clear C1 hX hgk hHlen ht htf hbud htm hnn ho0 ho1 hon h0 hl hnm G q1 q2 ops1 hF hE
            go_wp2
            go_ret
            exact .inr ⟨e', rfl, he', hE9.out⟩
        · have HE := hide (cut_err (e' := 6) (o1 := o1) C1 d4 s4 ds4 k13 n1 n2 (by omega) (by omega) (.inl ⟨rfl, by omega, _, x4, (by
            simp only [List.map_cons, List.map_append, List.map_map, List.map_nil]
            exact perm_ends _ _ _), fun v hv9 => by
            simp only [List.mem_append, List.mem_map, List.mem_singleton] at hv9
            rcases hv9 with ⟨z, hz, rfl⟩ | rfl
            · have := (C1.good.2 z hz).1
              omega
            · omega, by simp; omega⟩))
          clear wk s1 dis nw ns ops1 kk1 C1 hX hgk hHlen ht htf hbud htm hnn ho0 ho1 hon h0 hl hnm hCo hCc d4 ds4 K4 N4 q1 q2 x4 s4 k13 n13 n1 n2 hto hus hroom
          go_wp2
          go_ret
          exact .inr ⟨6, rfl, by decide, HE.out⟩
        · have HE := hide (cut_err (e' := 7) (o1 := o1) C1 d4 s4 ds4 k13 n1 n2 (by omega) (by omega) (.inr ⟨rfl, c4.mono (fun _ h => h) (by omega)⟩))
          clear wk s1 dis nw ns ops1 kk1 C1 hX hgk hHlen ht htf hbud htm hnn ho0 ho1 hon h0 hl hnm hCo hCc d4 ds4 K4 N4 q1 q2 c4 s4 k13 n13 n1 n2 hto hus
          go_wp2
          go_ret
          exact .inr ⟨7, rfl, by decide, HE.out⟩
      · obtain ⟨C1, hX, hgk, hHlen⟩ := HC1.out
        obtain ⟨ht, htf, hbud, htm, hnn, ho0, ho1, hon, h0, hl, hnm⟩ := HH.out
        have hCo := C1.ops
        have hCc := C1.cnts
        have hus := cut_used C1
        have hsf := sec_nonneg (fileB (canR k.how (y :: H3))).length
        have HE := hide (cut_err (e' := 7) (o1 := o1) C1 d3 s3 dis kk1 n3 (fun z hz => .inl (List.mem_append.2 (.inr hz))) (by omega) (by omega) (.inr ⟨rfl, cr.mono (fun _ h => h) (by omega)⟩))
        clear C1 hX hgk hHlen ht htf hbud htm hnn ho0 ho1 hon h0 hl hnm hCo hCc hus hsf d3 s3 dis n3 cr kk1 ops1
        go_wp2
        go_ret
        exact .inr ⟨7, rfl, by decide, HE.out⟩
end

end Go.Proofs.YtgpbanjammipiaaGreatDoor
