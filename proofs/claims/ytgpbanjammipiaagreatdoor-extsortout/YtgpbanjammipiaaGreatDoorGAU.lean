/-
  Lemma texts, one behind the other: XMgF, XMgL. No statement of the seat is proved here.
-/
import Derived.Test.YtgpbanjammipiaaGreatDoorGAT
namespace Go.Proofs.YtgpbanjammipiaaGreatDoor
open Go.RowKit Go.Maps

/-- merge's feed behind a pop: a was popped. -/
structure MgQ (bk : Int → Nat) (W0 : World) (hb pb sp : Nat) (k : Skn) (cnt : Nat) (hvS rvS : Value) (HS : List Rc) (R : List Nat) (last : Nat) (E : List Ab) (w : World) (S : List Rc) (hv : Value) (L : List K.Rc) (a : Asr) (Q : List Asr) : Prop where
  heap : K.Hp bk w hb hv L
  perm : L.Perm (Q.map Asr.elt)
  srca : (∃ i, SoA w k.p a.fs a.sid a.x i a.rs 0) ∧ a.Good bk E
  srcs : ∀ b ∈ Q, SoA w k.p b.fs b.sid b.x true b.rs 0 ∧ b.Good bk E
  dis : (mgCh hb pb sp hvS rvS hv (a :: Q)).Pairwise Dis
  push : w.heap[pb]? = some (.cells #[.func (.func 83) #[] #[.pointer (some ⟨hb, 0, none⟩)]] 106 (0, 0))
  sor : SoM w sp k cnt hvS rvS HS R last
  same : ∀ g ∈ sofp sp hvS rvS, w.heap[g]? = W0.heap[g]?
  rises : Rises S
  all : S.Perm (a.rs ++ Q.flatMap Asr.all)
  few : Q.length + 1 ≤ 100000

section
variable {bk : Int → Nat} {W0 w w' : World} {hb pb sp : Nat} {k : Skn} {cnt : Nat} {hvS rvS hv hv1 hv' : Value} {HS S : List Rc} {R : List Nat} {last : Nat} {E : List Ab} {ff fq fd fd' fs' : List Nat} {L L' : List K.Rc} {P Q : List Asr} {a : Asr} {e : K.Rc} {A B : Dsk}

theorem MgQ.low (h : MgQ bk W0 hb pb sp k cnt hvS rvS HS R last E w S hv L a Q) : ∀ x ∈ (mgCh hb pb sp hvS rvS hv (a :: Q)).flatten, x < w.heap.size := fun x hx => by
  rcases mgCh_mem.1 hx with hx | rfl | rfl | hx | ⟨b, hb2, hx9⟩
  · exact h.heap.lt.2.1 x hx
  · exact h.heap.lt.1
  · exact heap_lt h.push
  · exact h.sor.lt x hx
  · rcases List.mem_cons.1 hb2 with rfl | hb2
    · obtain ⟨i, hi⟩ := h.srca.1
      exact hi.lt x hx9
    · exact (h.srcs b hb2).1.lt x hx9

/-- The heap's blocks are apart from all others. -/
theorem mg_apart (h : (mgCh hb pb sp hvS rvS hv P).Pairwise Dis) : (hb ∉ own hv) ∧ (∀ c ∈ [pb] :: sofp sp hvS rvS :: P.map (·.fs), (∀ y ∈ c, y ∉ own hv ∧ y ≠ hb)) := by
  simp only [mgCh, List.pairwise_cons] at h
  obtain ⟨h1, h2, _⟩ := h
  refine ⟨fun e => h1 [hb] (by simp) hb e (by simp), fun c hc y hy => ⟨fun e => h1 c (List.mem_cons_of_mem _ hc) y e hy, fun e => h2 c hc hb (by simp) (by rw [← e]; exact hy)⟩⟩

theorem MgI.popped (h : MgI bk W0 hb pb sp k cnt hvS rvS HS R last E w ff S hv (e :: L) P) (hp : K.Hp bk w' hb hv1 L) (hk : Kept (hb :: own hv) w w') (hn : Newly w (own hv) (own hv1)) :
    ∃ a Q S', e = a.elt ∧ S = a.x :: S' ∧ MgQ bk W0 hb pb sp k cnt hvS rvS HS R last E w' S' hv1 L a Q ∧ ∀ z ∈ (mgCh hb pb sp hvS rvS hv1 (a :: Q)).flatten, z ∈ ff ∨ w.heap.size ≤ z := by
  obtain ⟨a, Q, hq, he, S', hS, hperm, hrise⟩ := h.first
  obtain ⟨q1, q2, q3, q4, q5⟩ := h.reord hq
  have ap := mg_apart q3
  have hst : ∀ c ∈ [pb] :: sofp sp hvS rvS :: (a :: Q).map (·.fs), ∀ y ∈ c, y ∉ hb :: own hv := fun c hc y hy e => by
    obtain ⟨a1, a2⟩ := ap.2 c hc y hy
    rcases List.mem_cons.1 e with e | e
    · exact a2 e
    · exact a1 e
  have hlo : ∀ c ∈ [pb] :: sofp sp hvS rvS :: (a :: Q).map (·.fs), ∀ y ∈ c, y < w.heap.size := fun c hc y hy => h.low y (by
    rw [h.foot]
    refine mgCh_mem.2 ?_
    rcases List.mem_cons.1 hc with rfl | hc
    · exact .inr (.inr (.inl (by simpa using hy)))
    · rcases List.mem_cons.1 hc with rfl | hc
      · exact .inr (.inr (.inr (.inl hy)))
      · obtain ⟨b, hb2, rfl⟩ := List.mem_map.1 hc
        exact .inr (.inr (.inr (.inr ⟨b, hq.mem_iff.2 hb2, hy⟩))))
  have sk : ∀ b ∈ a :: Q, SoA w' k.p b.fs b.sid b.x true b.rs 0 ∧ b.Good bk E := fun b hb2 => ⟨(q2 b hb2).1.kept hk (hst _ (by
    refine List.mem_cons_of_mem _ (List.mem_cons_of_mem _ (List.mem_map.2 ⟨b, hb2, rfl⟩)))), (q2 b hb2).2⟩
  refine ⟨a, Q, S', he, hS, ⟨hp, ?_, ⟨⟨true, (sk a (by simp)).1⟩, (sk a (by simp)).2⟩, fun b hb2 => sk b (List.mem_cons_of_mem _ hb2), ?_, hk.heap9 h.push (hst [pb] (by simp) pb (by simp)), h.sor.kept hk (hst _ (by simp)), fun g hg => ?_, hrise, hperm, ?_⟩, fun z hz => ?_⟩
  · rw [List.map_cons, ← he] at q1
    exact q1.cons_inv
  · have hd := q3
    simp only [mgCh, List.pairwise_cons] at hd ⊢
    obtain ⟨h1, h2, h3⟩ := hd
    refine ⟨fun c hc y hy => ?_, h2, h3⟩
    rcases List.mem_cons.1 hc with rfl | hc
    · intro e
      obtain rfl : y = hb := by simpa using e
      exact hp.lt.2.2 hy
    · rcases hn y hy with e | e
      · exact h1 c (List.mem_cons_of_mem _ hc) y e
      · intro e2
        have := hlo c hc y e2
        omega
  · rw [heap_kept hk (h.sor.lt g hg) (hst _ (by simp) g hg)]
    exact h.same g hg
  · have := h.few
    simp only [List.length_cons] at q5
    omega
  · rcases mgCh_mem.1 hz with hz | rfl | rfl | hz | ⟨b, hb2, hz⟩
    · refine (hn z hz).imp (fun e => ?_) id
      rw [h.foot]; exact mgCh_mem.2 (.inl e)
    · exact .inl (by rw [h.foot]; exact mgCh_mem.2 (.inr (.inl rfl)))
    · exact .inl (by rw [h.foot]; exact mgCh_mem.2 (.inr (.inr (.inl rfl))))
    · exact .inl (by rw [h.foot]; exact mgCh_mem.2 (.inr (.inr (.inr (.inl hz)))))
    · exact .inl (by rw [h.foot]; exact mgCh_mem.2 (.inr (.inr (.inr (.inr ⟨b, hq.mem_iff.2 hb2, hz⟩)))))

theorem MgQ.stay (h : MgQ bk W0 hb pb sp k cnt hvS rvS HS R last E w S hv L a Q) (hk : Below w.heap.size w w') : MgQ bk W0 hb pb sp k cnt hvS rvS HS R last E w' S hv L a Q := by
  have kk := Kept.of_below (fp := []) hk
  refine ⟨h.heap.kept kk (by simp) (by simp) (by simp), h.perm, ⟨h.srca.1.imp (fun _ hi => hi.kept kk (by simp)), h.srca.2⟩, fun b hb2 => ⟨(h.srcs b hb2).1.kept kk (by simp), (h.srcs b hb2).2⟩, h.dis, kk.heap9 h.push (by simp), h.sor.below hk, fun g hg => ?_, h.rises, h.all, h.few⟩
  rw [heap_kept kk (h.sor.lt g hg) (by simp)]
  exact h.same g hg

theorem MgQ.ready (h : MgQ bk W0 hb pb sp k cnt hvS rvS HS R last E w S hv L a Q) (hfd : ∀ z ∈ (mgCh hb pb sp hvS rvS hv (a :: Q)).flatten, z ∉ fd) : hb ∉ fd ++ a.fs ∧ (∀ y ∈ own hv, y ∉ fd ++ a.fs) ∧ ∀ e ∈ L, bk e.2.2 ∉ fd ++ a.fs := by
  have ap := (mg_apart h.dis).2 a.fs (by simp)
  have hd := h.dis
  simp only [mgCh, List.map_cons, List.pairwise_cons] at hd
  refine ⟨fun e => ?_, fun y hy e => ?_, fun e he h9 => ?_⟩
  · rcases List.mem_append.1 e with e | e
    · exact hfd hb (mgCh_mem.2 (.inr (.inl rfl))) e
    · exact (ap hb e).2 rfl
  · rcases List.mem_append.1 e with e | e
    · exact hfd y (mgCh_mem.2 (.inl hy)) e
    · exact (ap y e).1 hy
  · obtain ⟨b, hb2, rfl⟩ := List.mem_map.1 (h.perm.mem_iff.1 he)
    have hm : bk b.elt.2.2 ∈ b.fs := by
      show bk b.sid.row ∈ b.fs
      rw [(h.srcs b hb2).2.at_]
      exact (h.srcs b hb2).1.mem
    rcases List.mem_append.1 h9 with e | e
    · exact hfd _ (mgCh_mem.2 (.inr (.inr (.inr (.inr ⟨b, List.mem_cons_of_mem _ hb2, hm⟩))))) e
    · exact hd.2.2.2.2.1 b.fs (List.mem_map.2 ⟨b, hb2, rfl⟩) _ e hm

/-- .. and behind the push. -/
theorem MgQ.fed (h : MgQ bk W0 hb pb sp k cnt hvS rvS HS R last E w S hv1 L a Q) (hfd : ∀ z ∈ (mgCh hb pb sp hvS rvS hv1 (a :: Q)).flatten, z ∉ fd) (kk : Kept (fd ++ a.fs ++ hb :: own hv1) w w') (nfd : Newly w (fd ++ a.fs) fd') (hp' : K.Hp bk w' hb hv' L') (nv : Newly w (own hv1) (own hv'))
    (df : ∀ y ∈ fs', y ∉ fd') (nf : Newly w (fd ++ a.fs) fs') (dh : ∀ y ∈ hb :: own hv', y ∉ fd' ∧ y ∉ fs') (hc : (∃ x' rs', a.rs = x' :: rs' ∧ SoA w' k.p fs' a.sid x' true rs' 0 ∧ L' = K.insR (elt x' a.sid.row) L) ∨ (a.rs = [] ∧ L' = L ∧ fs' = [])) :
    ∃ P', MgI bk W0 hb pb sp k cnt hvS rvS HS R last E w' (mgCh hb pb sp hvS rvS hv' P').flatten S hv' L' P' ∧ (∀ z ∈ (mgCh hb pb sp hvS rvS hv' P').flatten, z ∉ fd') ∧ Newly w (fd ++ (mgCh hb pb sp hvS rvS hv1 (a :: Q)).flatten) (mgCh hb pb sp hvS rvS hv' P').flatten ∧ P'.length ≤ Q.length + 1 ∧ ∀ b ∈ P', b.sid.row = a.sid.row ∨ b ∈ Q := by
  have ap := mg_apart h.dis
  have hd := h.dis
  simp only [mgCh, List.map_cons, List.pairwise_cons] at hd
  obtain ⟨d1, d2, d3, d4, d5, d6⟩ := hd
  have hin : ∀ c ∈ [pb] :: sofp sp hvS rvS :: Q.map (·.fs), ∀ y ∈ c, y ∈ (mgCh hb pb sp hvS rvS hv1 (a :: Q)).flatten := fun c hc y hy => by
    refine mgCh_mem.2 ?_
    rcases List.mem_cons.1 hc with rfl | hc
    · exact .inr (.inr (.inl (by simpa using hy)))
    · rcases List.mem_cons.1 hc with rfl | hc
      · exact .inr (.inr (.inr (.inl hy)))
      · obtain ⟨b, hb2, rfl⟩ := List.mem_map.1 hc
        exact .inr (.inr (.inr (.inr ⟨b, List.mem_cons_of_mem _ hb2, hy⟩)))
  have hca : ∀ c ∈ [pb] :: sofp sp hvS rvS :: Q.map (·.fs), ∀ y ∈ c, y ∉ a.fs := fun c hc y hy => by
    rcases List.mem_cons.1 hc with rfl | hc
    · exact d3 a.fs (by simp) y hy
    · rcases List.mem_cons.1 hc with rfl | hc
      · exact d4 a.fs (by simp) y hy
      · exact fun e => d5 c hc y e hy
  have hcn : ∀ c ∈ [pb] :: sofp sp hvS rvS :: Q.map (·.fs), ∀ y ∈ c, y ∉ fd ++ a.fs := fun c hc y hy e => by
    rcases List.mem_append.1 e with e | e
    · exact hfd y (hin c hc y hy) e
    · exact hca c hc y hy e
  have hcv : ∀ c ∈ [pb] :: sofp sp hvS rvS :: Q.map (·.fs), ∀ y ∈ c, y ∉ own hv1 ∧ y ≠ hb := fun c hc y hy => by
    refine ap.2 c ?_ y hy
    simp only [List.map_cons, List.mem_cons] at hc ⊢
    rcases hc with h | h | h
    · exact .inl h
    · exact .inr (.inl h)
    · exact .inr (.inr (.inr h))
  have hck : ∀ c ∈ [pb] :: sofp sp hvS rvS :: Q.map (·.fs), ∀ y ∈ c, y ∉ fd ++ a.fs ++ hb :: own hv1 := fun c hc y hy e => by
    rcases List.mem_append.1 e with e | e
    · exact hcn c hc y hy e
    · rcases List.mem_cons.1 e with e | e
      · exact (hcv c hc y hy).2 e
      · exact (hcv c hc y hy).1 e
  have hcl : ∀ c ∈ [pb] :: sofp sp hvS rvS :: Q.map (·.fs), ∀ y ∈ c, y < w.heap.size := fun c hc y hy => h.low y (hin c hc y hy)
  have c1 : ∀ c ∈ [pb] :: sofp sp hvS rvS :: Q.map (·.fs), ∀ y ∈ c, y ∉ fd' := fun c hc y hy => apart_new nfd (hcl c hc y hy) (hcn c hc y hy)
  have c2 : ∀ c ∈ [pb] :: sofp sp hvS rvS :: Q.map (·.fs), ∀ y ∈ c, y ∉ fs' := fun c hc y hy => apart_new nf (hcl c hc y hy) (hcn c hc y hy)
  have c3 : ∀ c ∈ [pb] :: sofp sp hvS rvS :: Q.map (·.fs), ∀ y ∈ c, y ∉ own hv' := fun c hc y hy => apart_new nv (hcl c hc y hy) (hcv c hc y hy).1
  have hQ : ∀ b ∈ Q, b.fs ∈ [pb] :: sofp sp hvS rvS :: Q.map (·.fs) := fun b hb2 => List.mem_cons_of_mem _ (List.mem_cons_of_mem _ (List.mem_map.2 ⟨b, hb2, rfl⟩))
  have s1 : ∀ b ∈ Q, SoA w' k.p b.fs b.sid b.x true b.rs 0 ∧ b.Good bk E := fun b hb2 => ⟨(h.srcs b hb2).1.kept kk (hck _ (hQ b hb2)), (h.srcs b hb2).2⟩
  have p1 := kk.heap9 h.push (hck [pb] (by simp) pb (by simp))
  have so1 := h.sor.kept kk (hck (sofp sp hvS rvS) (by simp))
  have sm1 : ∀ g ∈ sofp sp hvS rvS, w'.heap[g]? = W0.heap[g]? := fun g hg => by
    rw [heap_kept kk (h.sor.lt g hg) (hck (sofp sp hvS rvS) (by simp) g hg)]
    exact h.same g hg
  have hdisQ : (own hv' :: [hb] :: [pb] :: sofp sp hvS rvS :: Q.map (·.fs)).Pairwise Dis := by
    simp only [List.pairwise_cons]
    refine ⟨fun c hc y hy => ?_, fun c hc y hy e => ?_, fun c hc => d3 c (by simp only [List.mem_cons] at hc ⊢; exact hc.imp id .inr), fun c hc => d4 c (List.mem_cons_of_mem _ hc), d6⟩
    · rcases List.mem_cons.1 hc with rfl | hc
      · intro e
        obtain rfl : y = hb := by simpa using e
        exact hp'.lt.2.2 hy
      · exact fun e => c3 c hc y e hy
    · obtain rfl : y = hb := by simpa using hy
      exact (hcv c hc y e).2 rfl
  have hnew : ∀ z, (z ∈ own hv' ∨ z = hb ∨ z = pb ∨ z ∈ sofp sp hvS rvS ∨ z ∈ fs' ∨ ∃ b ∈ Q, z ∈ b.fs) → z ∈ fd ++ (mgCh hb pb sp hvS rvS hv1 (a :: Q)).flatten ∨ w.heap.size ≤ z := fun z hz => by
    rcases hz with hz | rfl | rfl | hz | hz | ⟨b, hb2, hz⟩
    · exact (nv z hz).imp (fun e => List.mem_append.2 (.inr (mgCh_mem.2 (.inl e)))) id
    · exact .inl (List.mem_append.2 (.inr (mgCh_mem.2 (.inr (.inl rfl)))))
    · exact .inl (List.mem_append.2 (.inr (mgCh_mem.2 (.inr (.inr (.inl rfl))))))
    · exact .inl (List.mem_append.2 (.inr (mgCh_mem.2 (.inr (.inr (.inr (.inl hz)))))))
    · refine (nf z hz).imp (fun e => ?_) id
      rcases List.mem_append.1 e with e | e
      · exact List.mem_append.2 (.inl e)
      · exact List.mem_append.2 (.inr (mgCh_mem.2 (.inr (.inr (.inr (.inr ⟨a, by simp, e⟩))))))
    · exact .inl (List.mem_append.2 (.inr (mgCh_mem.2 (.inr (.inr (.inr (.inr ⟨b, List.mem_cons_of_mem _ hb2, hz⟩)))))))
  have hout : ∀ z, (z ∈ own hv' ∨ z = hb ∨ z = pb ∨ z ∈ sofp sp hvS rvS ∨ z ∈ fs' ∨ ∃ b ∈ Q, z ∈ b.fs) → z ∉ fd' := fun z hz => by
    rcases hz with hz | rfl | rfl | hz | hz | ⟨b, hb2, hz⟩
    · exact (dh z (List.mem_cons_of_mem _ hz)).1
    · exact (dh z (by simp)).1
    · exact c1 [z] (by simp) z (by simp)
    · exact c1 _ (by simp) z hz
    · exact df z hz
    · exact c1 _ (hQ b hb2) z hz
  have hfew := h.few
  rcases hc with ⟨x', rs', hrs, hso, rfl⟩ | ⟨hrs, rfl, rfl⟩
  · have hG := h.srca.2
    refine ⟨⟨a.sid, x', rs', fs'⟩ :: Q, ⟨hp', ?_, fun b hb2 => ?_, ?_, p1, so1, sm1, h.rises, ?_, rfl, by simpa using hfew⟩, fun z hz => hout z ?_, fun z hz => hnew z ?_, by simp, fun b hb2 => ?_⟩
    · exact (K.insR_perm _ _).trans (h.perm.cons _)
    · rcases List.mem_cons.1 hb2 with rfl | hb2
      · refine ⟨hso, hG.at_, hG.row, fun y hy => hG.ok y ?_, ?_, hG.file, hG.nm⟩
        · show y ∈ a.x :: a.rs
          rw [hrs]
          exact List.mem_cons_of_mem _ hy
        · have := hG.rises
          unfold Asr.all at this
          rw [hrs] at this
          exact (List.pairwise_cons.1 this).2
      · exact s1 b hb2
    · show (own hv' :: [hb] :: [pb] :: sofp sp hvS rvS :: fs' :: Q.map (·.fs)).Pairwise Dis
      simp only [List.pairwise_cons] at hdisQ ⊢
      obtain ⟨e1, e2, e3, e4, e5⟩ := hdisQ
      refine ⟨fun c hc => ?_, fun c hc => ?_, fun c hc => ?_, fun c hc => ?_, fun c hc => ?_, e5⟩
      · simp only [List.mem_cons] at hc
        rcases hc with rfl | rfl | rfl | rfl | hc
        · exact e1 _ (by simp)
        · exact e1 _ (by simp)
        · exact e1 _ (by simp)
        · exact fun y hy => (dh y (List.mem_cons_of_mem _ hy)).2
        · exact e1 c (by simp only [List.mem_cons]; exact .inr (.inr (.inr hc)))
      · simp only [List.mem_cons] at hc
        rcases hc with rfl | rfl | rfl | hc
        · exact e2 _ (by simp)
        · exact e2 _ (by simp)
        · intro y hy
          obtain rfl : y = hb := by simpa using hy
          exact (dh y (by simp)).2
        · exact e2 c (by simp only [List.mem_cons]; exact .inr (.inr hc))
      · simp only [List.mem_cons] at hc
        rcases hc with rfl | rfl | hc
        · exact e3 _ (by simp)
        · exact c2 [pb] (by simp)
        · exact e3 c (by simp only [List.mem_cons]; exact .inr hc)
      · rcases List.mem_cons.1 hc with rfl | hc
        · exact c2 _ (by simp)
        · exact e4 c hc
      · intro y hy e
        exact c2 c (List.mem_cons_of_mem _ (List.mem_cons_of_mem _ hc)) y e hy
    · have h9 := h.all
      rw [hrs] at h9
      simpa [Asr.all, List.flatMap_cons] using h9
    · rcases mgCh_mem.1 hz with h | h | h | h | ⟨b, hb2, h⟩
      · exact .inl h
      · exact .inr (.inl h)
      · exact .inr (.inr (.inl h))
      · exact .inr (.inr (.inr (.inl h)))
      · rcases List.mem_cons.1 hb2 with rfl | hb2
        · exact .inr (.inr (.inr (.inr (.inl h))))
        · exact .inr (.inr (.inr (.inr (.inr ⟨b, hb2, h⟩))))
    · rcases mgCh_mem.1 hz with h | h | h | h | ⟨b, hb2, h⟩
      · exact .inl h
      · exact .inr (.inl h)
      · exact .inr (.inr (.inl h))
      · exact .inr (.inr (.inr (.inl h)))
      · rcases List.mem_cons.1 hb2 with rfl | hb2
        · exact .inr (.inr (.inr (.inr (.inl h))))
        · exact .inr (.inr (.inr (.inr (.inr ⟨b, hb2, h⟩))))
    · rcases List.mem_cons.1 hb2 with rfl | hb2
      · exact .inl rfl
      · exact .inr hb2
  · refine ⟨Q, ⟨hp', h.perm, s1, hdisQ, p1, so1, sm1, h.rises, ?_, rfl, by omega⟩, fun z hz => hout z ?_, fun z hz => hnew z ?_, by omega, fun b hb2 => .inr hb2⟩
    · have := h.all
      rwa [hrs, List.nil_append] at this
    · rcases mgCh_mem.1 hz with h | h | h | h | h
      · exact .inl h
      · exact .inr (.inl h)
      · exact .inr (.inr (.inl h))
      · exact .inr (.inr (.inr (.inl h)))
      · exact .inr (.inr (.inr (.inr (.inr h))))
    · rcases mgCh_mem.1 hz with h | h | h | h | h
      · exact .inl h
      · exact .inr (.inl h)
      · exact .inr (.inr (.inl h))
      · exact .inr (.inr (.inr (.inl h)))
      · exact .inr (.inr (.inr (.inr (.inr h))))

theorem MgQ.err (h : MgQ bk W0 hb pb sp k cnt hvS rvS HS R last E w S hv L a Q) (hfd : ∀ z ∈ (mgCh hb pb sp hvS rvS hv (a :: Q)).flatten, z ∉ fd) (kk : Kept (fd ++ a.fs ++ hb :: own hv) w w') :
    SoM w' sp k cnt hvS rvS HS R last ∧ (∀ g ∈ sofp sp hvS rvS, w'.heap[g]? = W0.heap[g]?) ∧ ∀ g ∈ sofp sp hvS rvS, g ∉ fd ++ a.fs := by
  have ap := (mg_apart h.dis).2 (sofp sp hvS rvS) (by simp)
  have hd := h.dis
  simp only [mgCh, List.map_cons, List.pairwise_cons] at hd
  have h2 : ∀ g ∈ sofp sp hvS rvS, g ∉ fd ++ a.fs := fun g hg e => by
    rcases List.mem_append.1 e with e | e
    · exact hfd g (mgCh_mem.2 (.inr (.inr (.inr (.inl hg))))) e
    · exact hd.2.2.2.1 a.fs (by simp) g hg e
  have h3 : ∀ g ∈ sofp sp hvS rvS, g ∉ fd ++ a.fs ++ hb :: own hv := fun g hg e => by
    rcases List.mem_append.1 e with e | e
    · exact h2 g hg e
    · rcases List.mem_cons.1 e with e | e
      · exact (ap g hg).2 e
      · exact (ap g hg).1 e
  refine ⟨h.sor.kept kk h3, fun g hg => ?_, h2⟩
  rw [heap_kept kk (h.sor.lt g hg) (h3 g hg)]
  exact h.same g hg

theorem mg_end {w1 w2 w3 w4 WF : World} {S' : List Rc} {fd4 : List Nat} {e4 : Int} {x1 x2 : Int} {u v : Value}
    (h1 : MgI bk W0 hb pb sp k cnt hvS rvS HS R last E w1 ff S hv (e :: L) P) (d : Dk w fd k.p A.1 A.2) (bb : Below w.heap.size w w1) (hsz : w.heap.size < w1.heap.size) (hQ3 : MgQ bk W0 hb pb sp k cnt hvS rvS HS R last E w3 S' hv1 L a Q) (hff : ∀ z ∈ (mgCh hb pb sp hvS rvS hv1 (a :: Q)).flatten, z ∈ ff ∨ w1.heap.size ≤ z)
    (hfd0 : ∀ z ∈ (mgCh hb pb sp hvS rvS hv1 (a :: Q)).flatten, z ∉ fd) (k2 : Kept (hb :: own hv) w1 w2) (b3 : Below w2.heap.size w2 w3) (hS : S = a.x :: S') (hlow : ∀ x ∈ ff, x < w.heap.size) (hax : (x1, x2) = a.x)
    (d4 : Dk w4 fd4 k.p B.1 B.2) (k4 : Kept (fd ++ a.fs ++ hb :: own hv1) w3.drew w4) (nf4 : Newly w3.drew (fd ++ a.fs) fd4) (R4 : Red 2 A B)
    (CS : (B.2.down = false ∧ e4 = 0 ∧ ∃ fs' hv' L', K.Hp bk w4 hb hv' L' ∧ Newly w3.drew (own hv1) (own hv') ∧ (∀ y ∈ fs', y ∉ fd4) ∧ Newly w3.drew (fd ++ a.fs) fs' ∧ (∀ y ∈ hb :: own hv', y ∉ fd4 ∧ y ∉ fs') ∧
        ((∃ x' rs', a.rs = x' :: rs' ∧ SoA w4 k.p fs' a.sid x' true rs' 0 ∧ L' = K.insR (elt x' a.sid.row) L) ∨ (a.rs = [] ∧ L' = L ∧ fs' = []))) ∨ (B.2.down = true ∧ e4 = 7))
    (hWF : WF = (w4.setCell ⟨w.heap.size, 0, none⟩ u).setCell ⟨w.heap.size, 1, none⟩ v) :
    FeedP k.p (fun w ff S => ∃ hv L P, MgI bk W0 hb pb sp k cnt hvS rvS HS R last E w ff S hv L P) (MgE W0 sp k cnt hvS rvS HS R last) w fd ff A S (.returned (.tuple #[.agg #[.int .u64 x1, .int .u64 x2], .bool true, .int .i64 e4])) WF := by
  have hsz1 := bb.size
  have hsz2 := k2.size
  have hsz3 := b3.size
  have hr0 : w.heap.size ∉ (mgCh hb pb sp hvS rvS hv1 (a :: Q)).flatten := fun e => by
    rcases hff _ e with e | e
    · have := hlow _ e; omega
    · omega
  have ks : Kept [w.heap.size] w4 WF := by rw [hWF]; exact ((Kept.refl _ w4).setCell (.inl (by simp)) _).setCell (.inl (by simp)) _
  have hmem : ∀ {z}, z ∈ fd ++ a.fs → z ∈ fd ++ ff ∨ w.heap.size ≤ z := fun {z} hz => by
    rcases List.mem_append.1 hz with hz | hz
    · exact .inl (List.mem_append.2 (.inl hz))
    · rcases hff z (mgCh_mem.2 (.inr (.inr (.inr (.inr ⟨a, by simp, hz⟩))))) with h | h
      · exact .inl (List.mem_append.2 (.inr h))
      · exact .inr (by omega)
  have hmem2 : ∀ {z}, z ∈ (mgCh hb pb sp hvS rvS hv1 (a :: Q)).flatten → z ∈ fd ++ ff ∨ w.heap.size ≤ z := fun {z} hz => (hff z hz).imp (fun h => List.mem_append.2 (.inr h)) (fun h => by omega)
  have hr1 : ∀ {z}, z ∈ fd ++ a.fs → z ≠ w.heap.size := fun {z} hz e => by
    rcases List.mem_append.1 hz with hz | hz
    · have := d.lt z hz; omega
    · exact hr0 (by rw [← e]; exact mgCh_mem.2 (.inr (.inr (.inr (.inr ⟨a, by simp, hz⟩)))))
  have k13 : Kept (fd ++ ff) w w3.drew := by
    have q1 : Kept (fd ++ ff) w w1 := (Kept.of_below (fp := []) bb).mono (by simp)
    have q2 : Kept (fd ++ ff) w w2 := q1.trans k2 (fun z hz => .inl (List.mem_append.2 (.inr (by
      rw [h1.foot]
      refine mgCh_mem.2 ?_
      rcases List.mem_cons.1 hz with e | e
      · exact .inr (.inl e)
      · exact .inl e))))
    exact (q2.trans (Kept.of_below (fp := []) b3) (fun _ hx => by simp at hx)).drew
  have k14 : Kept (fd ++ ff) w w4 := k13.trans k4 (fun z hz => by
    rcases List.mem_append.1 hz with hz | hz
    · exact hmem hz
    · rcases List.mem_cons.1 hz with rfl | hz
      · exact hmem2 (mgCh_mem.2 (.inr (.inl rfl)))
      · exact hmem2 (mgCh_mem.2 (.inl hz)))
  have k1F : Kept (fd ++ ff) w WF := k14.trans ks (fun z hz => .inr (by simp only [List.mem_singleton] at hz; omega))
  have hs3 : w.heap.size < w3.drew.heap.size := by
    show _ < w3.heap.size
    omega
  have n4 : ∀ {l : List Nat}, Newly w3.drew (fd ++ a.fs) l → (∀ z ∈ l, z ≠ w.heap.size) ∧ Newly w (fd ++ ff) l := fun {l} hn => by
    refine ⟨fun z hz e => ?_, fun z hz => ?_⟩
    · rcases hn z hz with h | h
      · exact hr1 h e
      · omega
    · rcases hn z hz with h | h
      · exact hmem h
      · exact .inr (by omega)
  have hd4 := (n4 nf4).1
  have kks : ∀ z ∈ fd4, z ∉ [w.heap.size] := fun z hz e => hd4 z hz (by simpa using e)
  have hQ4 := hQ3.stay (Below.refl _ w3).drew
  rw [show Value.agg #[.int .u64 x1, .int .u64 x2] = valR a.x from by rw [← hax]; rfl]
  rcases CS with ⟨up, rfl, fs', hv', L', hp', nv, df, nf, dh, hc⟩ | ⟨dn, rfl⟩
  · obtain ⟨P', hI, ho, hnn, _, _⟩ := hQ4.fed hfd0 k4 nf4 hp' nv df nf dh hc
    refine ⟨B, fd4, a.x, true, 0, rfl, d4.kept ks kks, k1F, (n4 nf4).2, R4, _, ho, fun z hz => ?_, .inl ⟨up, rfl, S', ⟨hv', L', P', hI.stay ks (fun z hz e => ?_)⟩, .inl ⟨hS, rfl⟩⟩⟩
    · rcases hnn z hz with h | h
      · rcases List.mem_append.1 h with h | h
        · exact .inl (List.mem_append.2 (.inl h))
        · exact hmem2 h
      · exact .inr (by omega)
    · simp only [List.mem_singleton] at e
      rcases hnn z hz with h | h
      · rcases List.mem_append.1 h with h | h
        · have := d.lt z h; omega
        · exact hr0 (by rw [← e]; exact h)
      · omega
  · obtain ⟨e1, e2, e3⟩ := hQ4.err hfd0 k4
    have hso : ∀ z ∈ sofp sp hvS rvS, z ∉ [w.heap.size] := fun z hz e => by
      simp only [List.mem_singleton] at e
      exact hr0 (by rw [← e]; exact mgCh_mem.2 (.inr (.inr (.inr (.inl hz)))))
    refine ⟨B, fd4, a.x, true, 7, rfl, d4.kept ks kks, k1F, (n4 nf4).2, R4, sofp sp hvS rvS, fun z hz => apart_new nf4 (hQ4.sor.lt z hz) (e3 z hz), fun z hz => hmem2 (mgCh_mem.2 (.inr (.inr (.inr (.inl hz))))), .inr ⟨dn, rfl, e1.kept ks hso, fun g hg => ?_, fun z hz => hz⟩⟩
    rw [heap_kept ks (e1.lt g hg) (hso g hg)]
    exact e2 g hg

theorem mgRes (tmps : Array Value) (w : World) (b : Nat) (x1 x2 : Int) (h2 : tmps.getD 2 undef = .pointer (some ⟨b, 0, none⟩)) (c1 : w.cell? ⟨b, 0, none⟩ = some (.int .u64 x1)) (c2 : w.cell? ⟨b, 1, none⟩ = some (.int .u64 x2)) :
    (results Tryz.f85 tmps).run Tryz.prog w = .ok (.tuple #[.agg #[.int .u64 x1, .int .u64 x2], tmps.getD 3 undef, tmps.getD 4 undef]) w := by
  have h2' : tmps[2]?.getD undef = .pointer (some ⟨b, 0, none⟩) := by simpa using h2
  simp [results, Tryz.results85, go_sem, h2', c1, c2]

set_option maxRecDepth 100000 in
set_option maxHeartbeats 4000000 in
theorem mgfeed_any {A0 : Dsk} {x9 : Ab} (h : MgI bk W0 hb pb sp k cnt hvS rvS HS R last E w ff S hv L P) (d : Dk w fd k.p A.1 A.2) (hdis : ∀ y ∈ ff, y ∉ fd) (hx : Ext A0 A (x9 :: E)) (hops : A.2.ops ≤ 999990) :
    Calls Tryz.prog 85 #[.pointer (some ⟨hb, 0, none⟩), .pointer (some ⟨pb, 0, none⟩)] w
      (FeedP k.p (fun w ff S => ∃ hv L P, MgI bk W0 hb pb sp k cnt hvS rvS HS R last E w ff S hv L P) (MgE W0 sp k cnt hvS rvS HS R last) w fd ff A S) := by
  obtain ⟨w1, hw1⟩ : ∃ w1, w1 = w.alloc (.cells #[.int .u64 0, .int .u64 0] 52) := ⟨_, rfl⟩
  have bb : Below w.heap.size w w1 := by rw [hw1]; exact (Below.refl _ w).alloc (Nat.le_refl _) _
  have hbx : w1.heap[w.heap.size]? = some (.cells #[.int .u64 0, .int .u64 0] 52 (0, 0)) := by rw [hw1]; exact heap_alloc_new w _
  have hlow := h.low
  have hsz := heap_lt hbx
  cases L with
  | nil =>
    obtain ⟨rfl, rfl⟩ := h.nil
    have h1 := h.stay (Kept.of_below (fp := []) bb) (by simp)
    have PP : Calls Tryz.prog 86 #[.pointer (some ⟨hb, 0, none⟩)] w1 fun e w' => e = .returned (.tuple #[.pointer none, .bool false]) ∧ w' = w1 := h1.heap.pop_nil
    have HPP := hide PP
    have c0 : w1.cell? ⟨w.heap.size, 0, none⟩ = some (.int .u64 0) := cell_of_heap hbx 0
    have c1 : w1.cell? ⟨w.heap.size, 1, none⟩ = some (.int .u64 0) := cell_of_heap hbx 1
    have cf : ∀ o, w1.frozen? ⟨w.heap.size, o, none⟩ = false := fun o => frozen_of_heap hbx o
    have HB := hide (And.intro h1 (And.intro d (And.intro bb (And.intro hbx (And.intro hlow (And.intro hdis hx))))))
    rw [hw1] at HPP c0 c1 cf
    have HW1 := hide hw1
    clear PP h h1 d hbx bb hw1 hlow hdis hx hsz
    go_enter Tryz.func85, Tryz.ntmps85
    go_wp2_with fail
    refine HPP.out.mono ?_
    rintro e w2 ⟨rfl, rfl⟩
    go_wp2
    obtain ⟨h1, d, bb, hbx, hlow, hdis, hx⟩ := HB.out
    rw [← HW1.out]
    refine bodyPost_ret (mgRes _ _ w.heap.size 0 0 rfl ((cell_of_heap hbx 0).trans rfl) ((cell_of_heap hbx 1).trans rfl)) rfl ?_
    refine ⟨A, fd, (0, 0), false, 0, rfl, d.below bb, (Kept.of_below (fp := []) bb).mono (by simp), fun z hz => .inl (List.mem_append.2 (.inl hz)), Red.refl (by omega) hx.up, ff, hdis, fun z hz => .inl (List.mem_append.2 (.inr hz)), .inl ⟨hx.up, rfl, [], ⟨hv, [], [], h1⟩, .inr ⟨rfl, rfl, rfl⟩⟩⟩
  | cons e L =>
    have h1 := h.stay (Kept.of_below (fp := []) bb) (by simp)
    have hlen : L.length ≤ 100000 := by
      have h8 := h.perm.length_eq
      have h9 := h.few
      simp only [List.length_cons, List.length_map] at h8
      omega
    have HPP := hide (h1.heap.pop_cons hlen)
    have HB := hide (And.intro h1 (And.intro d (And.intro bb (And.intro hbx (And.intro hlow (And.intro hdis (And.intro hx (And.intro hsz hlen))))))))
    rw [hw1] at HPP
    have HW1 := hide hw1
    clear h h1 d hbx bb hw1 hlow hdis hx hsz hlen
    obtain ⟨b, hb9⟩ : ∃ b, b = bk e.2.2 := ⟨_, rfl⟩
    rw [← hb9] at HPP
    have HBK := hide hb9
    clear hb9
    go_enter Tryz.func85, Tryz.ntmps85
    go_wp2_with fail
    refine HPP.out.mono ?_
    rw [← HW1.out]
    rintro e2 w2 ⟨rfl, hv1, hp2, k2, n2⟩
    obtain ⟨h1, d, bb, hbx, hlow, hdis, hx, hsz, hlen⟩ := HB.out
    obtain ⟨a, Q, S', he, hS, hQ, hff⟩ := h1.popped hp2 k2 n2
    obtain ⟨i0, hga1⟩ := hQ.srca.1
    have hga := And.intro hga1 hQ.srca.2
    have hb9 : b = a.sid.b := by rw [HBK.out, he]; exact hga.2.at_
    have hsrc := hga.1.src
    obtain ⟨⟨x1, x2⟩, hax⟩ : ∃ y, y = a.x := ⟨_, rfl⟩
    rw [← hax, ← hb9] at hsrc
    have c0 : w2.cell? ⟨b, 0, none⟩ = some (.int .u64 x1) := cell_of_heap hsrc 0
    have c1 : w2.cell? ⟨b, 1, none⟩ = some (.int .u64 x2) := cell_of_heap hsrc 1
    obtain ⟨w3, hw3⟩ : ∃ w3, w3 = w2.alloc (.cells #[.int .u64 x1, .int .u64 x2] 52) := ⟨_, rfl⟩
    have b3 : Below w2.heap.size w2 w3 := by rw [hw3]; exact (Below.refl _ w2).alloc (Nat.le_refl _) _
    have hQ3 := hQ.stay b3
    have hb4 : w3.heap[w2.heap.size]? = some (.cells #[.int .u64 x1, .int .u64 x2] 52 (0, 0)) := by rw [hw3]; exact heap_alloc_new w2 _
    have f0 : w3.drew.cell? ⟨w2.heap.size, 0, none⟩ = some (.int .u64 x1) := cell_of_heap hb4 0
    have f1 : w3.drew.cell? ⟨w2.heap.size, 1, none⟩ = some (.int .u64 x2) := cell_of_heap hb4 1
    have fp : w3.drew.cell? ⟨pb, 0, none⟩ = some (.func (.func 83) #[] #[.pointer (some ⟨hb, 0, none⟩)]) := cell_of_heap hQ3.push 0
    have e0 : w3.drew.cell? ⟨w.heap.size, 0, none⟩ = some (.int .u64 0) := ((Kept.of_below (fp := []) b3).cell (k2.cell (cell_of_heap hbx 0) (fun e => by
      have := hlow w.heap.size (by
        rw [h1.foot]
        refine mgCh_mem.2 ?_
        rcases List.mem_cons.1 e with e | e
        · exact .inr (.inl e)
        · exact .inl e)
      omega)) (by simp)).trans rfl
    have hr0 : w.heap.size ∉ (mgCh hb pb sp hvS rvS hv1 (a :: Q)).flatten := fun e => by
      rcases hff _ e with e | e
      · have := hlow _ e; omega
      · omega
    have hfd0 : ∀ z ∈ (mgCh hb pb sp hvS rvS hv1 (a :: Q)).flatten, z ∉ fd := fun z hz e => by
      rcases hff _ hz with h | h
      · exact hdis z h e
      · have := d.lt z e; omega
    have hinQ : ∀ z ∈ fd ++ a.fs ++ hb :: own hv1, z ∈ fd ∨ z ∈ (mgCh hb pb sp hvS rvS hv1 (a :: Q)).flatten := fun z hz => by
      rcases List.mem_append.1 hz with hz | hz
      · rcases List.mem_append.1 hz with hz | hz
        · exact .inl hz
        · exact .inr (mgCh_mem.2 (.inr (.inr (.inr (.inr ⟨a, by simp, hz⟩)))))
      · rcases List.mem_cons.1 hz with rfl | hz
        · exact .inr (mgCh_mem.2 (.inr (.inl rfl)))
        · exact .inr (mgCh_mem.2 (.inl hz))
    have hbig : ∀ z ∈ fd ++ a.fs ++ hb :: own hv1, z < w2.heap.size ∧ z ≠ w.heap.size := fun z hz => by
      rcases hinQ z hz with h | h
      · have h7 := d.lt z h
        have h8 := k2.size
        exact ⟨by omega, by omega⟩
      · exact ⟨hQ.low z h, fun e => hr0 (by rw [← e]; exact h)⟩
    have h03 := heap_lt hb4
    have dd3 := (d.below bb).kept (k2.mono (fp' := hb :: own hv) (fun _ h => h)) (fun z hz e => hdis z (by
        rw [h1.foot]
        refine mgCh_mem.2 ?_
        rcases List.mem_cons.1 e with e | e
        · exact .inr (.inl e)
        · exact .inl e) hz)
    have PM : Hid (∀ W, Below w3.heap.size w3 W → Calls Tryz.prog 83 #[.pointer (some ⟨b, 0, none⟩), .pointer (some ⟨hb, 0, none⟩)] W (PushP bk W k.p fd a.fs A a.sid a.rs hb hv1 L)) := fun W bW => by
      have hW := hQ3.stay bW
      rw [hb9]
      obtain ⟨F, G, hF, hpre⟩ := hga.2.file
      obtain ⟨i1, hga2⟩ := hW.srca.1
      exact mpush_any hga2 ((dd3.below b3).below bW) hW.heap hga.2.at_ hga.2.row (fun y hy => hga.2.ok y (List.mem_cons_of_mem _ hy)) (fun y hy => hfd0 y (mgCh_mem.2 (.inr (.inr (.inr (.inr ⟨a, by simp, hy⟩))))))
        (hQ.ready hfd0).1 (hQ.ready hfd0).2.1 (hQ.ready hfd0).2.2
        hx.up ⟨_, hx.here (List.mem_cons_of_mem _ hF), hpre⟩ (by omega) hga.2.nm hlen
    have HC : Hid (∀ {W W' : World}, Kept (fd ++ a.fs ++ hb :: own hv1) W W' → (∀ {o u}, W.cell? ⟨w2.heap.size, o, none⟩ = some u → W'.cell? ⟨w2.heap.size, o, none⟩ = some u) ∧ (∀ {o u}, W.cell? ⟨w.heap.size, o, none⟩ = some u → W'.cell? ⟨w.heap.size, o, none⟩ = some u)) := fun kk =>
      ⟨fun c => kk.cell c (fun e => by have h9 := (hbig w2.heap.size e).1; omega), fun c => kk.cell c (fun e => (hbig w.heap.size e).2 rfl)⟩
    have hnp : pb ≠ w.heap.size := fun e => hr0 (by rw [← e]; exact mgCh_mem.2 (.inr (.inr (.inl rfl))))
    have hn7 : w2.heap.size ≠ w.heap.size := by have := k2.size; omega
    have hpo : pb ∉ fd ++ a.fs ++ hb :: own hv1 := fun e => by
      have ap := (mg_apart hQ.dis).2 [pb] (by simp) pb (by simp)
      have hd := hQ.dis
      simp only [mgCh, List.map_cons, List.pairwise_cons] at hd
      rcases List.mem_append.1 e with e | e
      · rcases List.mem_append.1 e with e | e
        · exact hfd0 pb (mgCh_mem.2 (.inr (.inr (.inl rfl)))) e
        · exact hd.2.2.1 a.fs (by simp) pb (by simp) e
      · rcases List.mem_cons.1 e with e | e
        · exact ap.2 e
        · exact ap.1 e
    have HPB : Hid (∀ {W W' : World} {u : Value}, Kept (fd ++ a.fs ++ hb :: own hv1) W W' → W.cell? ⟨pb, 0, none⟩ = some u → W'.cell? ⟨pb, 0, none⟩ = some u) := fun kk c => kk.cell c hpo
    have HF0 : Hid (∀ {W : World}, Kept (fd ++ a.fs ++ hb :: own hv1) w3.drew W → W.heap[w.heap.size]? = some (.cells #[.int .u64 0, .int .u64 0] 52 (0, 0))) := fun kk => by
      refine kk.heap9 ?_ (fun e => (hbig w.heap.size e).2 rfl)
      have h9 := k2.heap9 hbx (fun e => by
        have := hlow w.heap.size (by
          rw [h1.foot]
          refine mgCh_mem.2 ?_
          rcases List.mem_cons.1 e with e | e
          · exact .inr (.inl e)
          · exact .inl e)
        omega)
      exact (Kept.of_below (fp := []) b3).heap9 h9 (by simp)
    have HG := hide (And.intro h1 (And.intro d (And.intro bb (And.intro hsz (And.intro hQ3 (And.intro hff (And.intro hfd0 (And.intro k2 (And.intro b3 (And.intro hx (And.intro he (And.intro hS (And.intro hlow (And.intro hax hb9))))))))))))))
    rw [hw3] at fp f0 f1 e0 PM HF0
    have HW3 := hide hw3
    clear h1 d bb hbx hlow hdis hx hsz hlen hQ hff hga hga1 hb9 hax hsrc b3 hQ3 hb4 hr0 hfd0 hinQ hbig h03 dd3 hw3 hpo hp2 k2 n2 he hS
    go_wp2
    go_region_held (fun W => W.cell? ⟨w2.heap.size, 0, none⟩ = some (.int .u64 x1) ∧ W.cell? ⟨w2.heap.size, 1, none⟩ = some (.int .u64 x2) ∧ W.cell? ⟨pb, 0, none⟩ = some (.func (.func 83) #[] #[.pointer (some ⟨hb, 0, none⟩)])) (first | exact ⟨by assumption, by assumption, by assumption⟩ | exact ⟨cell_set9 (by assumption) hn7, cell_set9 (by assumption) hn7, cell_set9 (by assumption) hnp⟩)
      (first | (go_at_call 83; refine (PM.out _ (Below.refl _ _).drew).mono ?_; rintro e3 w4 ⟨B, fd4, e4, rfl, d4, k4, nf4, R4, CS⟩; have g0 := (HC.out k4).1 f0; have g1 := (HC.out k4).1 f1; have gp := HPB.out k4 fp; have gr := HF0.out k4; have gf : ∀ o, w4.frozen? ⟨w.heap.size, o, none⟩ = false := fun o => frozen_of_heap gr o; have gr0 : w4.cell? ⟨w.heap.size, 0, none⟩ = some (.int .u64 0) := cell_of_heap gr 0; have gr1 : w4.cell? ⟨w.heap.size, 1, none⟩ = some (.int .u64 0) := cell_of_heap gr 1; have HGR := hide gr; clear gr; have HP := hide (And.intro d4 (And.intro k4 (And.intro nf4 (And.intro R4 CS)))); clear d4 nf4 R4 CS k4))
    go_wp2
    obtain ⟨h1, d, bb, hsz, hQ3, hff, hfd0, k2, b3, hx, he, hS, hlow, hax, hb9⟩ := HG.out
    obtain ⟨d4, k4, nf4, R4, CS⟩ := HP.out
    have hb5 := heap_setCell (heap_setCell HGR.out 0 (.int .u64 x1)) 1 (.int .u64 x2)
    refine bodyPost_ret (mgRes _ _ w.heap.size x1 x2 rfl ((cell_of_heap hb5 0).trans rfl) ((cell_of_heap hb5 1).trans rfl)) rfl ?_
    rw [← HW3.out] at k4 nf4 CS
    exact mg_end h1 d bb hsz hQ3 hff hfd0 k2 b3 hS hlow hax d4 k4 nf4 R4 CS rfl

/-- merge's closure feeds. -/
theorem mg_feeds (bk : Int → Nat) (W0 : World) (hb pb sp : Nat) (k : Skn) (cnt : Nat) (hvS rvS : Value) (HS : List Rc) (R : List Nat) (last : Nat) (A0 : Dsk) (E : List Ab) (n : List UInt8) :
    IsFeed k.p 85 (#[] ++ #[.pointer (some ⟨hb, 0, none⟩), .pointer (some ⟨pb, 0, none⟩)]) sp k.how A0 E n
      (fun w ff S => ∃ hv L P, MgI bk W0 hb pb sp k cnt hvS rvS HS R last E w ff S hv L P) (MgE W0 sp k cnt hvS rvS HS R last) where
  ent := enters_of Tryz.func85 (by kernel_rfl) rfl
  lt := fun {w ff S} ⟨hv, L, P, h⟩ => h.low
  kept := fun {w w' ff fq S} ⟨hv, L, P, h⟩ hk hf => ⟨hv, L, P, h.stay hk hf⟩
  how := fun ⟨_, _, _, h⟩ => h.sor.cellAt.2.2.2.2.1
  ok := fun ⟨_, _, _, h⟩ => h.okS
  fe := fun {w ff S} ⟨hv, L, P, h⟩ => h.err
  feb := fun {w w' ff} h hb => h.below hb
  call := fun {w fd ff A S x} d ⟨hv, L, P, h⟩ hd hx _ ho => mgfeed_any h d hd hx ho
end

end Go.Proofs.YtgpbanjammipiaaGreatDoor

namespace Go.Proofs.YtgpbanjammipiaaGreatDoor
open Go.RowKit Go.Maps

/-! ### Other blocks of other rows -/

section
variable {bk bk' : Int → Nat} {W0 w w' : World} {hb pb sp : Nat} {k : Skn} {cnt : Nat} {hvS rvS hv : Value} {HS S : List Rc} {R : List Nat} {last : Nat} {E : List Ab} {ff : List Nat} {L : List K.Rc} {P : List Asr}

theorem Hp_rebook {S : List K.Rc} {p : Nat} {v : Value} (h : K.Hp bk w p v S) (he : ∀ e ∈ S, bk e.2.2 = bk' e.2.2) : K.Hp bk' w p v S := by
  obtain ⟨l, a, o⟩ := h
  have hel : ∀ e ∈ l, bk e.2.2 = bk' e.2.2 := fun e hm => he e (o.perm.mem_iff.1 hm)
  refine ⟨l, ⟨a.cells, ⟨?_, fun e hm => ?_⟩, a.apart⟩, o⟩
  · have : K.flatR bk' l = K.flatR bk l := List.map_congr_left (fun e hm => by unfold K.ptr; rw [hel e hm])
    rw [this]
    exact a.row.1
  · rw [← hel e hm]
    exact a.row.2 e hm

theorem MgI.rebook (h : MgI bk W0 hb pb sp k cnt hvS rvS HS R last E w ff S hv L P) (he : ∀ a ∈ P, bk a.sid.row = bk' a.sid.row) : MgI bk' W0 hb pb sp k cnt hvS rvS HS R last E w ff S hv L P := by
  refine ⟨Hp_rebook h.heap (fun e hm => ?_), h.perm, fun a ha => ⟨(h.srcs a ha).1, ?_⟩, h.dis, h.push, h.sor, h.same, h.rises, h.all, h.foot, h.few⟩
  · obtain ⟨a, ha, rfl⟩ := List.mem_map.1 (h.perm.mem_iff.1 hm)
    exact he a ha
  · have g := (h.srcs a ha).2
    exact ⟨by rw [← he a ha]; exact g.at_, g.row, g.ok, g.rises, g.file, g.nm⟩
end

/-! ### What was made so far -/

/-- The sources of the rows Xd are made. -/
structure MgLd (W0 : World) (fd0 : List Nat) (hb pb sp : Nat) (k : Skn) (cnt : Nat) (hvS rvS : Value) (HS : List Rc) (R : List Nat) (last : Nat) (E : List Ab) (A0 : Dsk) (nm : ByteArray) (q : Nat) (tv : Value) (o0 : Int) (A : Dsk) (fd : List Nat) (Xd : List (Nat × List Rc)) (w : World) : Prop where
  ex : ∃ bk ff hv L P, MgI bk W0 hb pb sp k cnt hvS rvS HS R last E w ff (sortR [] (P.flatMap Asr.all)) hv L P ∧ (P.flatMap Asr.all).Perm (Xd.flatMap (·.2)) ∧ (∀ a ∈ P, ∃ x ∈ Xd, a.sid.row = (x.1 : Int)) ∧ P.length ≤ Xd.length ∧ (∀ z ∈ ff, z ∉ wfp fd q tv) ∧ (∀ z ∈ ff, z ∈ sofp sp hvS rvS ∨ z ∈ fd0 ∨ W0.heap.size ≤ z)
  wk : WkE w fd tv k.p q A nm []
  ext : Ext A0 A ((nm.data.toList, [], []) :: E)
  kept : Kept fd0 W0 w
  new : Newly W0 fd0 fd
  ops : o0 ≤ A.2.ops ∧ A.2.ops ≤ o0 + 3 * Xd.length

/-- A crash came. -/
def MgCr (W0 : World) (fd0 : List Nat) (sp : Nat) (k : Skn) (cnt : Nat) (hvS rvS : Value) (HS : List Rc) (R : List Nat) (last : Nat) (E : List Ab) (A0 : Dsk) (nm : ByteArray) (M : List UInt8 → Prop) (o0 o1 : Int) (w : World) : Prop :=
  ∃ B fd, Dk w fd k.p B.1 B.2 ∧ SoM w sp k cnt hvS rvS HS R last ∧ Cr A0 B M (usedB ((nm.data.toList, [], []) :: E)) ∧ Kept fd0 W0 w ∧ Newly W0 fd0 fd ∧ (∀ z ∈ sofp sp hvS rvS, z ∉ fd) ∧ o0 ≤ B.2.ops ∧ B.2.ops ≤ o1

section
variable {W0 w w2 w3 w4 : World} {fd0 : List Nat} {hb pb sp : Nat} {k : Skn} {cnt : Nat} {hvS rvS : Value} {HS : List Rc} {R : List Nat} {last : Nat} {E : List Ab} {A0 A : Dsk} {nm nm1 : ByteArray} {q qr : Nat} {tv : Value} {o0 : Int} {fd : List Nat} {Xd : List (Nat × List Rc)} {M : List UInt8 → Prop} {n : Nat} {T : List Rc}

/-- What the push of a new source leaves. -/
def LoadP (W0 : World) (fd0 : List Nat) (hb pb sp : Nat) (k : Skn) (cnt : Nat) (hvS rvS : Value) (HS : List Rc) (R : List Nat) (last : Nat) (E : List Ab) (A0 : Dsk) (nm : ByteArray) (q : Nat) (tv : Value) (M : List UInt8 → Prop) (o0 : Int) (Xd : List (Nat × List Rc)) (e : Ending) (w' : World) : Prop :=
  (e = .returned (.int .i64 0) ∧ ∃ B fd, MgLd W0 fd0 hb pb sp k cnt hvS rvS HS R last E A0 nm q tv o0 B fd Xd w') ∨ (e = .returned (.int .i64 7) ∧ MgCr W0 fd0 sp k cnt hvS rvS HS R last E A0 nm M o0 (o0 + 3 * Xd.length) w')

/-- A source's cells when it is made. -/
theorem MgLd.push (D : MgLd W0 fd0 hb pb sp k cnt hvS rvS HS R last E A0 nm q tv o0 A fd Xd w) (hM : ∀ x ∈ (nm.data.toList, [], []) :: E, M x.1) (k12 : Kept [] w w2) (hup : Ext A0 (bg A) ((nm.data.toList, [], []) :: E)) (hops : (bg A).2.ops = A.2.ops + 1) (hr : RkX w2 w3 fd k.p qr (bg A) nm1 (fileB T) rst0) (hqr : w2.heap.size ≤ qr)
    (h4 : w4 = w3.alloc (socells qr (0, 0) false (n : Int))) (hn : n < 1000000) (hnew : ∀ x ∈ Xd, x.1 ≠ n) (hT : ∀ y ∈ T, okR y) (hTr : Rises T) (hF : (nm1.data.toList, fileB T, fileB T) ∈ E) (hn1 : nm1.size ≤ maxLen) (hXd : Xd.length < 100000) (hmax : A.2.ops ≤ 999900) :
    Calls Tryz.prog 83 #[.pointer (some ⟨w3.heap.size, 0, none⟩), .pointer (some ⟨hb, 0, none⟩)] w4 (LoadP W0 fd0 hb pb sp k cnt hvS rvS HS R last E A0 nm q tv M o0 (Xd ++ [(n, T)])) := by
  obtain ⟨⟨bk0, ff, hv, L, P, I0, hperm, hrows, hlen, hdis, hfoot⟩, wk, ext, kept, new, ops⟩ := D
  obtain ⟨fd3, tvr, rk, k23, n23⟩ := hr
  obtain ⟨bk, hbk⟩ : ∃ bk : Int → Nat, bk = fun r => if r = (n : Int) then w3.heap.size else bk0 r := ⟨_, rfl⟩
  have hbkn : bk (n : Int) = w3.heap.size := by rw [hbk]; simp
  have I1 := I0.rebook (bk' := bk) (fun a ha => by
    obtain ⟨x, hx, e⟩ := hrows a ha
    have := hnew x hx
    rw [hbk]
    dsimp only
    rw [if_neg (by omega)])
  have hk13 : Kept fd w w3 := (k12.mono (fp' := fd) (by simp)).trans k23 (fun _ h => .inl h)
  have b34 : Below w3.heap.size w3 w4 := by rw [h4]; exact (Below.refl _ w3).alloc (Nat.le_refl _) _
  have hk14 : Kept fd w w4 := hk13.trans (Kept.of_below (fp := []) b34) (fun _ h => by simp at h)
  have I4 := I1.stay hk14 (fun x hx e => hdis x hx (wfp_mem.2 (.inl e)))
  have hsrc : w4.heap[w3.heap.size]? = some (socells qr (0, 0) false (n : Int)) := by rw [h4]; exact heap_alloc_new w3 _
  have rk4 := rk.cells
  have hq4 : w4.heap[qr]? = some (rcells k.p nm1 (fileB T).length rst0.at_ tvr rst0.short rst0.err) := (Kept.of_below (fp := []) b34).heap9 rk.cells (by simp)
  have hqlt := heap_lt rk.cells
  have hslt := heap_lt hsrc
  have so : SoA w4 k.p [w3.heap.size, qr] ⟨w3.heap.size, qr, n, nm1, fileB T⟩ (0, 0) false T 0 := by
    refine ⟨tvr, rst0, ⟨hsrc, hq4, rk.text.kept (Kept.of_below (fp := []) b34) (fun _ _ _ => by simp), rk.at_le, rk.len, fun h => absurd rfl h, fun h => absurd rfl h⟩, ?_, rfl⟩
    have := wil_start (fileB T)
    rwa [readB_file T hT] at this
  have hlow := I1.low
  have hsz2 := k12.size
  have hsz3 := k23.size
  have n3 : Newly w fd fd3 := fun z hz => (n23 z (rfp_mem.2 (.inl hz))).imp id (fun e => Nat.le_trans hsz2 e)
  have hlow2 : ∀ z ∈ ff, z < w2.heap.size := fun z hz => Nat.lt_of_lt_of_le (hlow z hz) hsz2
  have hfd3 : ∀ z ∈ ff, z ∉ fd3 := fun z hz => apart_new n3 (hlow z hz) (fun e => hdis z hz (wfp_mem.2 (.inl e)))
  have hffs : ∀ z ∈ ff, z ∉ [w3.heap.size, qr] := fun z hz e => by
    have := hlow2 z hz
    simp only [List.mem_cons, List.not_mem_nil, or_false] at e
    omega
  have hQ : MgQ bk W0 hb pb sp k cnt hvS rvS HS R last E w4 (sortR [] (T ++ P.flatMap Asr.all)) hv L ⟨⟨w3.heap.size, qr, n, nm1, fileB T⟩, (0, 0), T, [w3.heap.size, qr]⟩ P := by
    refine ⟨I4.heap, I4.perm, ⟨⟨false, so⟩, hbkn, ⟨by show (0 : Int) ≤ (n : Int); omega, by show (n : Int) < _; omega⟩, fun y hy => ?_, ?_, ⟨_, _, hF, List.prefix_rfl⟩, hn1⟩, I4.srcs, ?_, I4.push, I4.sor, I4.same, sorts_rise _, by simpa using sortR_perm [] (T ++ P.flatMap Asr.all), by omega⟩
    · rcases List.mem_cons.1 hy with rfl | hy
      · show okR (0, 0)
        exact ⟨by decide, by decide⟩
      · exact hT y hy
    · refine List.pairwise_cons.2 ⟨fun y hy => ?_, hTr⟩
      have := hT y hy
      obtain ⟨y1, y2⟩ := y
      simp only [okR] at this
      simp only [ltR, Bool.or_eq_false_iff, Bool.and_eq_false_iff, decide_eq_false_iff_not]
      show ¬ y1 < 0 ∧ (¬ y1 = 0 ∨ ¬ y2 < 0)
      omega
    · have hd := I4.dis
      have hin : ∀ c ∈ mgCh hb pb sp hvS rvS hv P, Dis c [w3.heap.size, qr] := fun c hc y hy => hffs y (by rw [I4.foot]; exact List.mem_flatten.2 ⟨c, hc, hy⟩)
      simp only [mgCh, List.map_cons, List.pairwise_cons] at hd ⊢
      obtain ⟨d1, d2, d3, d4, d5⟩ := hd
      refine ⟨fun c hc => ?_, fun c hc => ?_, fun c hc => ?_, fun c hc => ?_, fun c hc => ?_, d5⟩
      · simp only [List.mem_cons] at hc
        rcases hc with rfl | rfl | rfl | rfl | hc
        · exact d1 _ (by simp)
        · exact d1 _ (by simp)
        · exact d1 _ (by simp)
        · exact hin _ (by simp [mgCh])
        · exact d1 c (by simp only [List.mem_cons]; exact .inr (.inr (.inr hc)))
      · simp only [List.mem_cons] at hc
        rcases hc with rfl | rfl | rfl | hc
        · exact d2 _ (by simp)
        · exact d2 _ (by simp)
        · exact hin _ (by simp [mgCh])
        · exact d2 c (by simp only [List.mem_cons]; exact .inr (.inr hc))
      · simp only [List.mem_cons] at hc
        rcases hc with rfl | rfl | hc
        · exact d3 _ (by simp)
        · exact hin _ (by simp [mgCh])
        · exact d3 c (by simp only [List.mem_cons]; exact .inr hc)
      · rcases List.mem_cons.1 hc with rfl | hc
        · exact hin _ (by simp [mgCh])
        · exact d4 c hc
      · exact (hin c (by simp only [mgCh, List.mem_cons]; exact .inr (.inr (.inr (.inr hc))))).symm
  have hch : ∀ z, z ∈ (mgCh hb pb sp hvS rvS hv (⟨⟨w3.heap.size, qr, n, nm1, fileB T⟩, (0, 0), T, [w3.heap.size, qr]⟩ :: P)).flatten → z ∈ ff ∨ z ∈ [w3.heap.size, qr] := fun z hz => by
    rw [I4.foot]
    rcases mgCh_mem.1 hz with h | h | h | h | ⟨b, hb2, h⟩
    · exact .inl (mgCh_mem.2 (.inl h))
    · exact .inl (mgCh_mem.2 (.inr (.inl h)))
    · exact .inl (mgCh_mem.2 (.inr (.inr (.inl h))))
    · exact .inl (mgCh_mem.2 (.inr (.inr (.inr (.inl h)))))
    · rcases List.mem_cons.1 hb2 with rfl | hb2
      · exact .inr h
      · exact .inl (mgCh_mem.2 (.inr (.inr (.inr (.inr ⟨b, hb2, h⟩)))))
  have d4 : Dk w4 fd3 k.p (bg A).1 (bg A).2 := rk.disk.below b34
  have hsrcfd : ∀ y ∈ [w3.heap.size, qr], y ∉ fd3 := fun y hy e => by
    simp only [List.mem_cons, List.not_mem_nil, or_false] at hy
    rcases hy with rfl | rfl
    · have := rk.disk.lt _ e; omega
    · exact rk.qfd e
  have hfd4 : ∀ z ∈ (mgCh hb pb sp hvS rvS hv (⟨⟨w3.heap.size, qr, n, nm1, fileB T⟩, (0, 0), T, [w3.heap.size, qr]⟩ :: P)).flatten, z ∉ fd3 := fun z hz => by
    rcases hch z hz with h | h
    · exact hfd3 z h
    · exact hsrcfd z h
  obtain ⟨r1, r2, r3⟩ := hQ.ready hfd4
  have hw0 := kept.size
  refine (mpush_any so d4 hQ.heap hbkn ⟨by show (0 : Int) ≤ (n : Int); omega, by show (n : Int) < _; omega⟩ hT hsrcfd r1 r2 r3 hup.up ⟨_, hup.here (List.mem_cons_of_mem _ hF), List.prefix_rfl⟩ (by omega) hn1 (by
    have := I4.perm.length_eq
    rw [List.length_map] at this
    omega)).mono ?_
  rintro e w5 ⟨B, fd5, e5, rfl, d5, k45, n5, R5, CS⟩
  have wq : q < w.heap.size := wk.lt q (wfp_mem.2 (.inr (.inl rfl)))
  -- all that the push may touch is the disk's or new
  have htouch : ∀ z ∈ fd3 ++ [w3.heap.size, qr] ++ hb :: own hv, (z ∈ fd0 ∨ W0.heap.size ≤ z) ∧ z ∉ sofp sp hvS rvS ∧ (z ∈ fd3 ∨ z ∉ wfp fd q tv) := fun z hz => by
    have ap := mg_apart I4.dis
    rcases List.mem_append.1 hz with hz | hz
    · rcases List.mem_append.1 hz with hz | hz
      · refine ⟨?_, fun e => hfd3 z (by rw [I4.foot]; exact mgCh_mem.2 (.inr (.inr (.inr (.inl e))))) hz, .inl hz⟩
        rcases n3 z hz with h | h
        · exact new z h
        · exact .inr (Nat.le_trans hw0 h)
      · have hge : w2.heap.size ≤ z := by
          simp only [List.mem_cons, List.not_mem_nil, or_false] at hz
          rcases hz with rfl | rfl <;> omega
        refine ⟨.inr (by omega), fun e => ?_, .inr (fun e => ?_)⟩
        · have := I1.sor.lt z e; omega
        · have := wk.lt z e; omega
    · have hm : z ∈ ff ∧ z ∉ sofp sp hvS rvS := by
        rw [I4.foot]
        rcases List.mem_cons.1 hz with rfl | hz
        · exact ⟨mgCh_mem.2 (.inr (.inl rfl)), fun e => (ap.2 _ (by simp) _ e).2 rfl⟩
        · exact ⟨mgCh_mem.2 (.inl hz), fun e => (ap.2 _ (by simp) _ e).1 hz⟩
      refine ⟨?_, hm.2, .inr (hdis z hm.1)⟩
      rcases hfoot z hm.1 with h | h
      · exact absurd h hm.2
      · exact h
  have k04 : Kept fd0 W0 w4 := kept.trans hk14 new
  have k05 : Kept fd0 W0 w5 := k04.trans k45 (fun z hz => (htouch z hz).1)
  have hsrcnew : ∀ z ∈ [w3.heap.size, qr], w2.heap.size ≤ z := fun z hz => by
    simp only [List.mem_cons, List.not_mem_nil, or_false] at hz
    rcases hz with rfl | rfl <;> omega
  have new5 : Newly W0 fd0 fd5 := fun z hz => by
    rcases n5 z hz with h | h
    · rcases List.mem_append.1 h with h | h
      · exact (htouch z (List.mem_append.2 (.inl (List.mem_append.2 (.inl h))))).1
      · exact .inr (by have := hsrcnew z h; omega)
    · exact .inr (Nat.le_trans k04.size h)
  have ro := R5.ops
  rcases CS with ⟨up, rfl, fs', hv', L', hp', nv, df, nf, dh, hc⟩ | ⟨dn, rfl⟩
  · left
    obtain ⟨P', hI, ho, hnn, hl', hr'⟩ := hQ.fed hfd4 k45 n5 hp' nv df nf dh hc
    have hS : sortR [] (P'.flatMap Asr.all) = sortR [] (T ++ P.flatMap Asr.all) := Rises.unique (sorts_rise _) (sorts_rise _) ((sortR_perm _ _).trans (by simpa using hI.all.symm))
    have hfar : ∀ y ∈ q :: own tv, y ∉ (mgCh hb pb sp hvS rvS hv' P').flatten := fun y hy e => by
      have hyw : y ∈ wfp fd q tv := by
        rcases List.mem_cons.1 hy with rfl | hy
        · exact wfp_mem.2 (.inr (.inl rfl))
        · exact wfp_mem.2 (.inr (.inr hy))
      have hyl := wk.lt y hyw
      have hyf : y ∉ fd := by
        rcases List.mem_cons.1 hy with rfl | hy
        · exact wk.qfd
        · exact wk.tfd y hy
      rcases hnn y e with h | h
      · rcases List.mem_append.1 h with h | h
        · exact apart_new n3 hyl hyf h
        · rcases hch y h with h | h
          · exact hdis y h hyw
          · have := hsrcnew y h; omega
      · have := b34.size; omega
    have hkw : Kept (fd ++ hb :: own hv) w w5 := (hk14.mono (fun z hz => List.mem_append.2 (.inl hz))).trans k45 (fun z hz => by
      rcases List.mem_append.1 hz with hz | hz
      · rcases List.mem_append.1 hz with hz | hz
        · exact (n3 z hz).imp (fun h => List.mem_append.2 (.inl h)) id
        · exact .inr (by have := hsrcnew z hz; omega)
      · exact .inl (List.mem_append.2 (.inr hz)))
    have hnw : Newly w (fd ++ hb :: own hv) fd5 := fun z hz => by
      rcases n5 z hz with h | h
      · rcases List.mem_append.1 h with h | h
        · exact (n3 z h).imp (fun h => List.mem_append.2 (.inl h)) id
        · exact .inr (by have := hsrcnew z h; omega)
      · exact .inr (Nat.le_trans hk14.size h)
    refine ⟨rfl, B, fd5, ⟨⟨bk, _, hv', L', P', by rw [hS]; exact hI, ?_, fun a ha => ?_, by simp; omega, fun z hz e => ?_, fun z hz => ?_⟩, wk.fed d5 hkw hnw (fun z hz => hdis z (by
      rw [I4.foot]
      rcases List.mem_cons.1 hz with rfl | hz
      · exact mgCh_mem.2 (.inr (.inl rfl))
      · exact mgCh_mem.2 (.inl hz))), (R5.up up).2 _ _ hup, k05, new5, by omega, ?_⟩⟩
    · refine hI.all.symm.trans ((sortR_perm [] _).trans ?_)
      rw [List.nil_append, List.flatMap_append]
      simp only [List.flatMap_cons, List.flatMap_nil, List.append_nil]
      exact (List.perm_append_comm).trans (hperm.append_right _)
    · rcases hr' a ha with h | h
      · exact ⟨(n, T), by simp, h⟩
      · obtain ⟨x, hx, e⟩ := hrows a h
        exact ⟨x, by simp [hx], e⟩
    · rcases wfp_mem.1 e with e | e | e
      · exact ho z hz e
      · exact hfar z (by simp [e]) hz
      · exact hfar z (List.mem_cons_of_mem _ e) hz
    · rcases hnn z hz with h | h
      · rcases List.mem_append.1 h with h | h
        · rcases n3 z h with h | h
          · exact .inr (new z h)
          · exact .inr (.inr (Nat.le_trans hw0 h))
        · rcases hch z h with h | h
          · exact hfoot z h
          · exact .inr (.inr (by have := hsrcnew z h; omega))
      · exact .inr (.inr (by have := b34.size; omega))
    · simp only [List.length_append, List.length_singleton]
      omega
  · right
    obtain ⟨e1, e2, e3⟩ := hQ.err hfd4 k45
    refine ⟨rfl, B, fd5, d5, e1, R5.down dn _ _ _ hup hM, k05, new5, fun z hz => apart_new n5 (hQ.sor.lt z hz) (e3 z hz), by omega, ?_⟩
    simp only [List.length_append, List.length_singleton]
    omega
end

end Go.Proofs.YtgpbanjammipiaaGreatDoor
