/-
  Lemma texts, one behind the other: XSortW, XTop, XLaw, XShown, XEnd. No statement of the seat is proved here.
-/
import Derived.Test.YtgpbanjammipiaaGreatDoorGAX
import Derived.Test.YtgpbanjammipiaaGreatDoorGAV
import Derived.Laws.EntriesVeiled
import Derived.Test.YtgpbanjammipiaaGreatDoorGAK
import Derived.Test.YtgpbanjammipiaaGreatDoorGAG
import Derived.Test.YtgpbanjammipiaaGreatDoorGAM
namespace Go.Proofs.YtgpbanjammipiaaGreatDoor
open Go.RowKit Go.Maps

section
variable {sp q : Nat} {k : Skn} {A0 A : Dsk} {W0 w w1 : World} {fp0 fp1 : List Nat} {on : List UInt8} {out : ByteArray} {l0 : List Rc} {sid : Sid} {er : Int} {nn : Nat} {fd fs : List Nat} {tv : Value} {hv rv : Value} {x : Rc}

/-- The first step of the source. -/
theorem first_step (G : At3 w w fp0 sp k A0 A [(on, [], [])] fd fs 0 hv rv [] [] 0 sid x false l0 er) {e : Ending} (P : StepP w k.p fd fs A sid l0 er e w1) (hM : Mw k.temp on on) :
    (e = .returned (.int .i64 0) ∧ ∃ B fd1 fs1 x1 i1 rs1, At3 w w1 fp0 sp k A0 B [(on, [], [])] fd1 fs1 0 hv rv [] [] 0 sid x1 i1 rs1 er ∧ lst i1 x1 rs1 = l0 ∧ (i1 = false → er = 0) ∧ A.2.ops ≤ B.2.ops ∧ B.2.ops ≤ A.2.ops + 2) ∨
    (∃ e', e = .returned (.int .i64 e') ∧ e' ≠ 0 ∧ SorE sp k A0 w fp0 on er l0.length A.2.ops (A.2.ops + 2) e' w1) := by
  obtain ⟨B, fd1, e', rfl, d1, k1, n1, rd, hc⟩ := P
  have hro := rd.ops
  rcases hc with ⟨up, fs1, x1, i1, rs1, so1, ds1, n2, (⟨hL, hi, rfl⟩ | ⟨hL, hr1, hi, rfl⟩)⟩ | ⟨dn, rfl, _⟩
  · exact .inl ⟨rfl, B, fd1, fs1, x1, i1, rs1, G.stepped d1 k1 n1 up rd so1 ds1 n2, by rw [hi, hL]; rfl, by rw [hi]; simp, hro.1, hro.2⟩
  · by_cases her : e' = 0
    · subst her
      exact .inl ⟨rfl, B, fd1, fs1, x1, i1, rs1, G.stepped d1 k1 n1 up rd so1 ds1 n2, by rw [hi, hL]; rfl, fun _ => rfl, hro.1, hro.2⟩
    · obtain ⟨q1, q2, q3, q4⟩ := G.erred d1 k1 n1
      exact .inr ⟨e', rfl, her, B, fd1, 0, hv, rv, [], [], 0, d1, q1, q2, q3, q4, hro.1, hro.2, .inl ⟨.inl ⟨rfl, her⟩, _, (rd.up up).2 _ _ G.ext, by simp, by simp, by simp⟩⟩
  · obtain ⟨q1, q2, q3, q4⟩ := G.erred d1 k1 n1
    refine .inr ⟨7, rfl, by decide, B, fd1, 0, hv, rv, [], [], 0, d1, q1, q2, q3, q4, hro.1, hro.2, .inr ⟨rfl, (rd.down dn _ _ (Mw k.temp on) G.ext (fun z hz => ?_)).mono (fun _ h => h) ?_⟩⟩
    · simp only [List.mem_singleton] at hz
      subst hz
      exact hM
    · rw [usedB_cons, usedB_nil]
      have e0 : sec ([] : List Int).length = 0 := by decide
      dsimp only
      omega

/-- The sorter's blocks are not the writer's. -/
theorem sofp_wfp {fd2 : List Nat} {hv2 rv2 : Value} (wk : WkE w fd tv k.p q A out []) (hd : ∀ z ∈ sofp sp hv rv ++ fs, z ∉ wfp fd q tv) (hab : ∀ z ∈ sofp sp hv2 rv2, z ∉ fd2) (hin : Newly w (fd ++ (sofp sp hv rv ++ fs)) (sofp sp hv2 rv2)) : ∀ z ∈ sofp sp hv2 rv2, z ∉ wfp fd2 q tv := fun z hz e => by
  rcases wfp_mem.1 e with e | e
  · exact hab z hz e
  · have hqw : z ∈ wfp fd q tv := wfp_mem.2 (.inr e)
    rcases hin z hz with h | h
    · rcases List.mem_append.1 h with h | h
      · rcases e with e | e
        · exact wk.qfd (e ▸ h)
        · exact wk.tfd z e h
      · exact hd z h hqw
    · have := wk.lt z hqw
      omega

theorem rows_block {w : World} {rv : Value} {l : List Nat} (h : RowO w rv l) : ∀ x n c, rv = .slice (some x) n c → x.spot = none ∧ x.block ∈ own rv := fun x n c e => by
  rcases h with ⟨e2, _⟩ | ⟨g, off, cap, cur, e2, _⟩
  · rw [e2] at e; simp at e
  · rw [e2] at e
    simp only [Value.slice.injEq, Option.some.injEq] at e
    obtain ⟨rfl, _, _⟩ := e
    exact ⟨rfl, by rw [e2]; simp [own, Value.ownBlock]⟩

set_option maxRecDepth 100000 in
set_option maxHeartbeats 8000000 in
theorem soSort_any (G : At3 w w (fd ++ (sofp sp hv rv ++ fs)) sp k A0 A [(out.data.toList, [], [])] fd fs 0 hv rv [] [] 0 sid x false l0 er) (wk : WkE w fd tv k.p q A out []) (hd : ∀ z ∈ sofp sp hv rv ++ fs, z ∉ wfp fd q tv)
    (hok : ∀ y ∈ l0, okR y) (hl0 : l0.length ≤ 120) (ht : Tab w) (htf : gTab ∉ wfp fd q tv ++ (sofp sp hv rv ++ fs)) (hbud : 0 < k.bud ∧ k.bud ≤ 100000) (hfan : 2 ≤ k.fan ∧ k.fan ≤ 100000) (htm : k.temp.size ≤ 17) (hon : ∀ r, out.data.toList ≠ rowB k.temp r)
    (h0 : ∀ r, lookA A0.1 (rowB k.temp r) = none) (hl : Lies A0 sid) (hnm : sid.nm.size ≤ maxLen) (hout : out.size ≤ maxLen) (ho : A.2.ops ≤ 600000) (ho0 : 0 ≤ A.2.ops) :
    Calls Tryz.prog 32 #[.pointer (some ⟨sp, 0, none⟩), .pointer (some ⟨sid.b, 0, none⟩), .pointer (some ⟨q, 0, none⟩)] w (SortP sp k A0 w (wfp fd q tv ++ (sofp sp hv rv ++ fs)) out.data.toList l0 er A.2.ops (A.2.ops + 200000)) := by
  have hf01 : ∀ z ∈ fd ++ (sofp sp hv rv ++ fs), z ∈ wfp fd q tv ++ (sofp sp hv rv ++ fs) := fun z hz => by
    rcases List.mem_append.1 hz with h | h
    · exact List.mem_append.2 (.inl (wfp_mem.2 (.inl h)))
    · exact List.mem_append.2 (.inr h)
  have hq01 : ∀ z ∈ q :: own tv, z ∈ wfp fd q tv ++ (sofp sp hv rv ++ fs) := fun z hz => by
    rcases List.mem_cons.1 hz with h | h
    · exact List.mem_append.2 (.inl (wfp_mem.2 (.inr (.inl h))))
    · exact List.mem_append.2 (.inl (wfp_mem.2 (.inr (.inr h))))
  obtain ⟨fp1, hfp1⟩ : ∃ f, f = wfp fd q tv ++ (sofp sp hv rv ++ fs) := ⟨_, rfl⟩
  rw [← hfp1] at hf01 hq01 htf ⊢
  have htf0 : gTab ∉ fd ++ (sofp sp hv rv ++ fs) := fun e => htf (hf01 _ e)
  obtain ⟨b, hb⟩ : ∃ b, b = sid.b := ⟨_, rfl⟩
  obtain ⟨o1, ho1⟩ : ∃ o, o = A.2.ops + 200000 := ⟨_, rfl⟩
  rw [← hb, ← ho1]
  have ST := hide (G.step hl (by omega) hnm)
  rw [← hb] at ST
  -- the writer, wherever the disk has moved on
  have WF : Hid (∀ w2 fd2 B, Dk w2 fd2 k.p B.1 B.2 → Kept (fd ++ (sofp sp hv rv ++ fs)) w w2 → Newly w (fd ++ (sofp sp hv rv ++ fs)) fd2 → WkE w2 fd2 tv k.p q B out []) := fun w2 fd2 B d kk n => wk.fed d kk n hd
  have HH := hide (And.intro G (And.intro hf01 (And.intro hq01 (And.intro htf0 (And.intro hok (And.intro hl0 (And.intro ht (And.intro hbud (And.intro hfan (And.intro htm (And.intro hon (And.intro h0 (And.intro hl (And.intro hnm (And.intro hout (And.intro ho (And.intro ho1 (And.intro hb (And.intro htf (And.intro hd (And.intro wk ho0)))))))))))))))))))))
  clear G hf01 hq01 htf0 hok hl0 ht hbud hfan htm hon h0 hl hnm hout ho ho1 hb htf hd hfp1 wk ho0
  go_enter Tryz.func32, Tryz.ntmps32
  have hmf : ∀ (fn : Fn) (first cap : Array Value) (w : World), (Instr.makeFunc fn first cap).run Tryz.prog w = .ok (.func fn first cap) w := fun _ _ _ _ => rfl
  go_wp2_with fail
  refine ST.out.mono ?_
  rintro e w1 hS
  rcases first_step HH.out.1 hS (.inl rfl) with ⟨rfl, B, fd1, fs1, x1, i1, rs1, G1, hL, hi1, p1, p2⟩ | ⟨e', rfl, he', hE⟩
  rotate_left
  · have hE9 := hide hE
    clear hE hS ST
    have heb : (e' == 0) = false := by simpa using he'
    go_wp2
    go_ret
    have ho1 := HH.out.2.2.2.2.2.2.2.2.2.2.2.2.2.2.2.2.1
    have hlen : l0.length ≤ 120 := HH.out.2.2.2.2.2.1
    exact .inr ⟨e', rfl, he', hE9.out.mono HH.out.2.1 (Int.le_refl _) (by omega)⟩
  · obtain ⟨G, hf01, hq01, htf0, hok, hl0, ht, hbud, hfan, htm, hon, h0, hl, hnm, hout, ho, ho1, hb, htf, hd, wk, ho0⟩ := HH.out
    have FL := hide (fill_any (M := Mw k.temp out.data.toList) G1.own0 (fun z hz => by
      simp only [List.mem_singleton] at hz
      subst hz
      exact .inl rfl) hl (by rw [hL]; exact hok) hi1 (by simp) hbud.2 (by rw [hL]; omega) (by rw [hL]; omega) hnm)
    rw [← hb, hL] at FL
    have HG := hide (And.intro G1 (And.intro p1 p2))
    clear G hf01 hq01 htf0 hok hl0 ht hbud hfan htm hon h0 hl hnm hout ho ho1 hb htf hd wk ho0 G1 p1 p2 hL hi1 hS ST
    go_wp2_with fail
    refine FL.out.mono ?_
    rintro e w2 ⟨B2, e', rfl, p3, p4, hF⟩
    rcases hF with ⟨rfl, fd2, fs2, hv2, x2, i2, rs2, tk, G2, hL2, hfull, hi2, hle⟩ | ⟨fd2, hv2, H2, cnt2, d2, s2, hd2, k2, n2, hF⟩
    rotate_left
    · obtain ⟨G1, p1, p2⟩ := HG.out
      have hlen : l0.length ≤ 120 := HH.out.2.2.2.2.2.1
      have ho1 := HH.out.2.2.2.2.2.2.2.2.2.2.2.2.2.2.2.2.1
      obtain ⟨he', hE⟩ := sort_filled (nn := l0.length) (o0 := A.2.ops) (o1 := o1) G1 d2 s2 hd2 k2 n2 (by omega) (by omega) hF
      have hE9 := hide hE
      have heb : (e' == 0) = false := by simpa using he'
      clear hE hF d2 s2 hd2 k2 n2 G1 p1 p2 p3 p4 hlen ho1 HG FL
      go_wp2
      go_ret
      exact .inr ⟨e', rfl, he', hE9.out.mono HH.out.2.1 (Int.le_refl _) (Int.le_refl _)⟩
    · obtain ⟨G1, p1, p2⟩ := HG.out
      have G3 := G1.back G2
      simp only [List.length_nil, Nat.zero_add] at hfull hle G3
      have hp : A.2.ops ≤ B2.2.ops ∧ B2.2.ops ≤ A.2.ops + 2 + 2 * (l0.length : Nat) := ⟨by omega, by omega⟩
      have f1 : w2.cell? ⟨b, 2, none⟩ = some (.bool i2) := by rw [HH.out.2.2.2.2.2.2.2.2.2.2.2.2.2.2.2.2.2.1]; exact cell_of_heap G3.src.src 2
      have HK := hide (And.intro G3 (And.intro hL2 (And.intro hfull (And.intro hi2 (And.intro hle hp)))))
      clear G1 p1 p2 G2 G3 hL2 hfull hi2 hle hp p3 p4 HG FL
      cases i2 with
      | false =>
        obtain ⟨G3, hL2, hfull, hi2, hle, hp⟩ := HK.out
        obtain ⟨G, hf01, hq01, htf0, hok, hl0, ht, hbud, hfan, htm, hon, h0, hl, hnm, hout, ho, ho1, hb, htf, hd, wk, ho0⟩ := HH.out
        have htk : tk = l0 := by rw [hL2]; simp [lst]
        subst htk
        have hwk := WF.out w2 fd2 B2 G3.disk G3.fr.kept G3.fr.inA
        have hdw := sofp_wfp wk hd G3.fr.ab G3.fr.inB
        have hslen : (sortR [] tk).length = tk.length := by rw [sortR_length]; simp
        have WR := soWrite_any (M := Mw k.temp out.data.toList) (pop_feeds sp k tk.length rv [] 0 A0 [] out.data.toList) hwk ⟨hv2, G3.sorter, rfl, by omega⟩ hdw G3.ext (.inl rfl) (by simp) hout (by omega)
        rw [outL_can] at WR
        have HWR := hide WR
        clear WR hdw hwk hslen G3 hL2 hfull hi2 hle hp G hf01 hq01 htf0 hok hl0 ht hbud hfan htm hon h0 hl hnm hout ho ho1 hb htf hd wk ho0
        go_wp2_with fail
        refine HWR.out.mono ?_
        rintro e w3 hW
        have HW := hide hW
        obtain ⟨B3, kc, fd3, ff3, rfl, _⟩ := hW
        go_wp2
        go_ret
        obtain ⟨G3, hL2, hfull, hi2, hle, hp⟩ := HK.out
        have hl0 : tk.length ≤ 120 := HH.out.2.2.2.2.2.1
        have ho1 := HH.out.2.2.2.2.2.2.2.2.2.2.2.2.2.2.2.2.1
        have hslen : (sortR [] tk).length = tk.length := by rw [sortR_length]; simp
        exact sort_wrote G3 (by first | exact hi2 rfl | exact hi2 trivial) HH.out.2.1 HH.out.2.2.1 HW.out hp.1 (by omega)
      | true =>
        obtain ⟨G3, hL2, hfull, hi2, hle, hp⟩ := HK.out
        obtain ⟨G, hf01, hq01, htf0, hok, hl0, ht, hbud, hfan, htm, hon, h0, hl, hnm, hout, ho, ho1, hb, htf, hd, wk, ho0⟩ := HH.out
        have C0 := cut_start G3 hL2 (hfull rfl) hok
        have CU := hide (soCut_any (o1 := B2.2.ops + 262 * l0.length + 2000) C0 (by simp) ht htf0 hbud htm (by omega) (by omega) (by omega) hon h0 hl hnm)
        rw [← hb] at CU
        clear C0 G3 hL2 hfull hi2 hle hp G hf01 hq01 htf0 hok hl0 ht hbud hfan htm hon h0 hl hnm hout ho ho1 hb htf hd wk ho0
        go_wp2_with fail
        refine CU.out.mono ?_
        rintro e w3 (⟨rfl, A3, fd3, fs3, cnt3, hv3, rv3, X3, x3, i3, rs3, C3, hX3⟩ | ⟨e', rfl, he', hE⟩)
        rotate_left
        · have hE9 := hide hE
          have heb : (e' == 0) = false := by simpa using he'
          clear hE CU
          go_wp2
          go_ret
          obtain ⟨G3, hL2, hfull, hi2, hle, hp⟩ := HK.out
          have hl0 : l0.length ≤ 120 := HH.out.2.2.2.2.2.1
          have ho1 := HH.out.2.2.2.2.2.2.2.2.2.2.2.2.2.2.2.2.1
          exact .inr ⟨e', rfl, he', hE9.out.mono HH.out.2.1 hp.1 (by omega)⟩
        · have hn0 : 0 < l0.length := by
            have := HK.out.2.1
            have h9 : (lst true x2 rs2).length = rs2.length + 1 := rfl
            rw [this, List.length_append]
            omega
          obtain ⟨R3, her, hXp⟩ := C3.rows HH.out.2.2.2.2.2.2.2.1.1 hn0
          have hCo := C3.ops
          have hcn := C3.cnts
          have hp := HK.out.2.2.2.2.2
          have hl0 : l0.length ≤ 120 := HH.out.2.2.2.2.2.1
          have hPO : A.2.ops ≤ A3.2.ops ∧ A3.2.ops + 822 * X3.length ≤ A.2.ops + 2 + 2 * l0.length + 1084 * l0.length := by
            simp only [List.length_nil] at hCo
            omega
          have RR := hide (And.intro R3 (And.intro hXp (And.intro hPO (And.intro hX3 her))))
          clear R3 hXp hPO hX3 her hCo hcn hp hl0 C3 CU hn0
          obtain ⟨g0, hg0⟩ : ∃ g, g = X3.length := ⟨_, rfl⟩
          have HG0 := hide hg0
          clear hg0
          go_wp2_with fail
          go_loopg [] (g0) (fun gk wr => Hid (∃ A4 fd4 hv4 rv4 X4 last4, RowsS sp k A0 w (fd ++ (sofp sp hv rv ++ fs)) out.data.toList l0 l0.length A4 fd4 l0.length hv4 rv4 X4 last4 wr ∧ 0 < X4.length ∧ gk = X4.length ∧ A.2.ops ≤ A4.2.ops ∧ A4.2.ops + 822 * X4.length ≤ A.2.ops + 2 + 2 * l0.length + 1084 * l0.length ∧ last4 + 3 * X4.length ≤ 4 * l0.length ∧ X4.length ≤ l0.length))
          case atStart =>
            obtain ⟨R3, hXp, hPO, hX3, her⟩ := RR.out
            exact ⟨A3, fd3, hv3, rv3, X3, X3.length, R3, hXp, HG0.out, hPO.1, hPO.2, by omega, hX3⟩
          case round =>
            obtain ⟨A4, fd4, hv4, rv4, X4, last4, R4, hXp, hgk, hp0, hp1, hla, hXn⟩ := hrel.out
            have her := RR.out.2.2.2.2
            clear hrel RR HG0
            obtain ⟨s0, s1, s2, s3, s4, s5, s8, s9, sf⟩ := R4.sor.cellAt
            obtain ⟨ad, cap, hrv, hcap⟩ := R4.sor.rows.form
            rw [List.length_map] at hrv hcap
            obtain ⟨len, hlen⟩ : ∃ n, n = X4.length := ⟨_, rfl⟩
            obtain ⟨fan, hfan⟩ : ∃ f, f = k.fan := ⟨_, rfl⟩
            rw [← hlen] at hrv hcap
            rw [hrv] at s8
            rw [← hfan] at s3
            have HR := hide (And.intro R4 (And.intro hXp (And.intro hgk (And.intro hp0 (And.intro hp1 (And.intro hla (And.intro hXn (And.intro hrv (And.intro hlen (And.intro hfan her))))))))))
            clear R4 hXp hgk hp0 hp1 hla hXn hrv hlen hfan her s0 s1 s2 s4 s5 s9 sf
            by_cases hlt : fan < len
            · have hlt' : (fan : Int) < (len : Int) := by omega
              go_wp2
              go_quiet (fail)
              obtain ⟨wq, hwq⟩ : ∃ wq, wq = wr.drewN nq := ⟨_, rfl⟩
              rw [← hwq]
              have bq : Below wr.heap.size wr wq := by rw [hwq]; exact ⟨rfl, rfl, rfl, Nat.le_refl _, fun _ _ => rfl⟩
              obtain ⟨R4, hXp, hgk, hp0, hp1, hla, hXn, hrv, hlen, hfan, her⟩ := HR.out
              obtain ⟨G, hf01, hq01, htf0, hok, hl0, ht, hbud, hf2, htm, hon, h0, hl, hnm, hout, ho, ho1, hb, htf, hd, wk, ho0⟩ := HH.out
              have R5 := R4.stay (fq := []) (Kept.of_below bq) (by simp)
              have PA := hide (soPass_any (er := er) (o0 := A.2.ops) (o1 := A.2.ops + 200000) R5 hXp (by omega) (by omega) hf2.1 hf2.2 ht htf0 htm hon h0 (by omega) hp0 (by omega) (by omega))
              clear R4 hXp hgk hp0 hp1 hla hXn hrv hlen hfan her G hf01 hq01 htf0 hok hl0 ht hbud hf2 htm hon h0 hl hnm hout ho ho1 hb htf hd wk ho0 R5 bq hwq s3 s8
              go_wp2_with fail
              refine PA.out.mono ?_
              rintro e w5 (⟨rfl, A5, fd5, rv5, X5, last5, R5, hl5, hla5, q1, q2⟩ | ⟨e', rfl, he', hE⟩)
              · have H5 := hide (And.intro R5 (And.intro hl5 (And.intro hla5 (And.intro q1 q2))))
                clear R5 hl5 hla5 q1 q2 PA
                go_wp2
                go_roundg (X5.length)
                case measure =>
                  obtain ⟨R4, hXp, hgk, hp0, hp1, hla, hXn, hrv, hlen, hfan, her⟩ := HR.out
                  have hf2 := HH.out.2.2.2.2.2.2.2.2.1
                  have h3 := parts_third (L := X4.length) (fan := k.fan) (by omega) hf2.1
                  have := H5.out.2.1
                  omega
                case rel =>
                  obtain ⟨R4, hXp, hgk, hp0, hp1, hla, hXn, hrv, hlen, hfan, her⟩ := HR.out
                  obtain ⟨R5, hl5, hla5, q1, q2⟩ := H5.out
                  have hf2 := HH.out.2.2.2.2.2.2.2.2.1
                  have h3 := parts_third (L := X4.length) (fan := k.fan) (by omega) hf2.1
                  have h1 : 0 < partsN X4.length k.fan := by unfold partsN; exact Nat.succ_pos _
                  exact ⟨A5, fd5, hv4, rv5, X5, last5, R5, by omega, rfl, by omega, by omega, by omega, by omega⟩
              · have hE9 := hide hE
                have heb : (e' == 0) = false := by simpa using he'
                clear hE PA
                go_wp2
                go_ret
                have ho1 := HH.out.2.2.2.2.2.2.2.2.2.2.2.2.2.2.2.2.1
                exact .inr ⟨e', rfl, he', hE9.out.mono HH.out.2.1 (Int.le_refl _) (by omega)⟩
            · have hlt' : ¬ (fan : Int) < (len : Int) := by omega
              go_wp2
              go_quiet (fail)
              obtain ⟨wq, hwq⟩ : ∃ wq, wq = wr.drewN nq := ⟨_, rfl⟩
              rw [← hwq]
              have bq : Below wr.heap.size wr wq := by rw [hwq]; exact ⟨rfl, rfl, rfl, Nat.le_refl _, fun _ _ => rfl⟩
              have s8q : wq.cell? ⟨sp, 8, none⟩ = some (.slice ad len cap) := (Kept.of_below (fp := []) bq).cell s8 (by simp)
              obtain ⟨R4, hXp, hgk, hp0, hp1, hla, hXn, hrv, hlen, hfan, her⟩ := HR.out
              obtain ⟨G, hf01, hq01, htf0, hok, hl0, ht, hbud, hf2, htm, hon, h0, hl, hnm, hout, ho, ho1, hb, htf, hd, wk, ho0⟩ := HH.out
              have R5 := R4.stay (fq := []) (Kept.of_below bq) (by simp)
              have hsz := R5.size
              have hnfd : Newly w (fd ++ (sofp sp hv rv ++ fs)) fd4 := fun z hz => R5.new z (List.mem_append.2 (.inl hz))
              have hwk := WF.out wq fd4 A4 R5.disk R5.kept hnfd
              have hdw := sofp_wfp wk hd R5.dis (fun z hz => R5.new z (List.mem_append.2 (.inr hz)))
              have hx9 : Ext A0 A4 ((out.data.toList, [], []) :: (X4.map (rowE k.temp) ++ [])) := by simpa using R5.ext.perm (List.perm_append_comm (l₂ := [(out.data.toList, ([] : List Int), ([] : List Int))]))
              have hrb := rows_block R5.sor.rows
              have hu9 := R5.sor.rows.isI
              rw [hrv] at hu9
              have ME := hide (soMerge_any (M := Mw k.temp out.data.toList) (R' := []) (Eo := []) (by simpa using R5.sor) hwk hdw hx9 hu9 (fun x n c e => by
                  obtain ⟨z1, z2⟩ := hrb x n c (by rw [hrv]; exact e)
                  exact ⟨z1, R5.dis _ (sofp_mem.2 (.inr (.inr z2)))⟩) (fun z hz => by
                  rcases List.mem_cons.1 hz with rfl | hz
                  · exact .inl rfl
                  · rw [List.append_nil] at hz
                    obtain ⟨v, _, rfl⟩ := List.mem_map.1 hz
                    exact .inr ⟨v.1, rfl⟩) hout (ht.kept R5.kept htf0).1 (fun e => by
                  rcases wfp_mem.1 e with e | e
                  · exact apart_new hnfd ht.lt htf0 e
                  · exact htf (hq01 _ (List.mem_cons.2 e))) htm (fun v hv9 => by
                  obtain ⟨z1, z2, z3⟩ := R5.good.2 v hv9
                  exact ⟨by omega, z2, z3⟩) R5.good.1 (by omega) (by omega) (by omega))
              have H5 := hide (And.intro R5 hsz)
              clear R4 hXp hgk hp0 hp1 hla hXn hrv hlen hfan her G hf01 hq01 htf0 hok hl0 ht hbud hf2 htm hon h0 hl hnm hout ho ho1 hb htf hd wk ho0 R5 bq hwq s3 s8 hsz hnfd hwk hdw hx9 hrb hu9
              go_wp2_with fail
              refine ME.out.mono ?_
              rintro e w6 hM
              have HM := hide hM
              obtain ⟨B6, fd6, rv6, Rl6, e', rfl, _⟩ := hM
              go_wp2
              go_ret
              obtain ⟨R4, hXp, hgk, hp0, hp1, hla, hXn, hrv, hlen, hfan, her⟩ := HR.out
              obtain ⟨G, hf01, hq01, htf0, hok, hl0, ht, hbud, hf2, htm, hon, h0, hl, hnm, hout, ho, ho1, hb, htf, hd, wk, ho0⟩ := HH.out
              obtain ⟨R5, hsz⟩ := H5.out
              exact sort_merged R5 her hok (by omega) (by omega) hf01 hq01 HM.out hp0 (by omega)
end

end Go.Proofs.YtgpbanjammipiaaGreatDoor

namespace Go.Proofs.YtgpbanjammipiaaGreatDoor
open Go.RowKit Go.Maps

theorem SoM.start (w : World) (k : Skn) : SoM (w.alloc (.cells (scells k 0 (.slice none 0 0) (.slice none 0 0) 0) 77)) w.heap.size k 0 (.slice none 0 0) (.slice none 0 0) [] [] 0 :=
  ⟨heap_alloc_new _ _, ⟨[], RowR.nil _, HeapOf.nil⟩, RowO.nil _, by simp [own, Value.ownBlock], by simp [own, Value.ownBlock], by simp [own, Value.ownBlock]⟩

/-- What Sort leaves, where in is there and out is made. -/
def TopP (p : Nat) (A0 : Dsk) (temp out : ByteArray) (rs : List Rc) (er : Int) (n fan : Nat) (how : Int) (w : World) (fd : List Nat) (o0 : Int) (e : Ending) (w' : World) : Prop :=
  ∃ B fd', Dk w' fd' p B.1 B.2 ∧ Kept fd w w' ∧ Newly w fd fd' ∧ o0 ≤ B.2.ops ∧
   ((er = 0 ∧ B.2.ops ≤ o0 + 200010 ∧ e = .returned (.tuple #[.int .i64 (passesN (rs.length : Nat) n fan : Nat), .int .i64 0]) ∧ Ext A0 B [(out.data.toList, fileB (canR how rs), fileB (canR how rs))]) ∨
    (∃ e', e' ≠ 0 ∧ B.2.ops ≤ o0 + 310000 ∧ e = .returned (.tuple #[.int .i64 0, .int .i64 e']) ∧ ((((e' = er ∧ er ≠ 0) ∨ (e' = 6 ∧ A0.2.room - A0.2.used < 4 * rs.length)) ∧ Ext A0 B []) ∨ (e' = 7 ∧ Cr A0 B (Mw temp out.data.toList) (4 * rs.length)))))

section
variable {w w2 w3 : World} {fd fd2 fd3 : List Nat} {p q qw : Nat} {A A0 B : Dsk} {inn out temp : ByteArray} {n fan : Nat} {how : Int} {c : List Int} {tv tv3 : Value} {rs : List Rc} {er : Int}

/-- The sorter and the source are made: the state. -/
theorem top_start (rk : RkA w2 fd2 tv p q A0 inn c rst0) (wk : WkE w3 fd3 tv3 p qw B out []) (k3 : Kept fd2 w2 w3) (n3 : Newly w2 fd2 (wfp fd3 qw tv3)) (hx : Ext A0 B [(out.data.toList, [], [])]) (hr : readB false c = (rs, er)) {w5 : World}
    (hw5 : w5 = (w3.alloc (.cells (scells ⟨p, temp, n, fan, how⟩ 0 (.slice none 0 0) (.slice none 0 0) 0) 77)).alloc (.cells #[.int .u64 0, .int .u64 0, .bool false, .pointer (some ⟨q, 0, none⟩), .int .i64 0] 81)) :
    At3 w5 w5 (fd3 ++ (sofp w3.heap.size (.slice none 0 0) (.slice none 0 0) ++ [w3.heap.size + 1, q])) w3.heap.size ⟨p, temp, n, fan, how⟩ A0 B [(out.data.toList, [], [])] fd3 [w3.heap.size + 1, q] 0 (.slice none 0 0) (.slice none 0 0) [] [] 0 ⟨w3.heap.size + 1, q, 0, inn, c⟩ (0, 0) false rs er ∧
    WkE w5 fd3 tv3 p qw B out [] ∧ (∀ z ∈ sofp w3.heap.size (.slice none 0 0) (.slice none 0 0) ++ [w3.heap.size + 1, q], z ∉ wfp fd3 qw tv3) ∧ Kept [] w3 w5 := by
  have hb : Below w3.heap.size w3 w5 := by rw [hw5]; exact ((Below.refl _ w3).alloc (Nat.le_refl _) _).alloc (by simp) _
  have k35 : Kept [] w3 w5 := Kept.of_below hb
  have hql : q < w2.heap.size := heap_lt rk.cells
  have hq3 : q ∉ wfp fd3 qw tv3 := fun e => by
    rcases n3 q e with h | h
    · exact rk.qfd h
    · omega
  have hlt3 := wk.lt
  have hso : sofp w3.heap.size (.slice none 0 0) (.slice none 0 0) = [w3.heap.size] := by simp [sofp, own, Value.ownBlock]
  have hq23 := k3.size
  have hdis : ∀ z ∈ sofp w3.heap.size (.slice none 0 0) (.slice none 0 0) ++ [w3.heap.size + 1, q], z ∉ wfp fd3 qw tv3 := fun z hz e => by
    rw [hso] at hz
    simp only [List.cons_append, List.nil_append, List.mem_cons, List.not_mem_nil, or_false] at hz
    rcases hz with rfl | rfl | rfl
    · have := hlt3 _ e; omega
    · have := hlt3 _ e; omega
    · exact hq3 e
  have hs5 : SoM w5 w3.heap.size ⟨p, temp, n, fan, how⟩ 0 (.slice none 0 0) (.slice none 0 0) [] [] 0 := by
    rw [hw5]
    exact (SoM.start w3 _).below (((Below.refl _ _).alloc (Nat.le_refl _) _))
  have hsrc : w5.heap[w3.heap.size + 1]? = some (socells q (0, 0) false 0) := by
    have e2 := heap_alloc_new (w3.alloc (.cells (scells ⟨p, temp, n, fan, how⟩ 0 (.slice none 0 0) (.slice none 0 0) 0) 77)) (.cells #[.int .u64 0, .int .u64 0, .bool false, .pointer (some ⟨q, 0, none⟩), .int .i64 0] 81)
    rw [World.size_alloc] at e2
    rw [hw5]; exact e2
  have hrc : w5.heap[q]? = some (rcells p inn c.length rst0.at_ tv rst0.short rst0.err) := k35.heap9 (k3.heap9 rk.cells rk.qfd) (by simp)
  have hw9 : Wil c rst0 rs er := by
    have := wil_start c
    rw [hr] at this
    exact this
  have ht0 : rst0.text = [] := rfl
  refine ⟨⟨wk.disk.below hb, hs5, ⟨tv, rst0, ⟨hsrc, hrc, ?_, rk.at_le, rk.len, fun h => absurd ht0 h, fun h => absurd ht0 h⟩, hw9, by simp [sfp, ht0]⟩, Fr3.start (fun z hz e => hdis z (List.mem_append.2 (.inl hz)) (wfp_mem.2 (.inl e))) (fun z hz e => hdis z (List.mem_append.2 (.inr hz)) (wfp_mem.2 (.inl e))) (fun z hz => ?_), hx⟩, wk.below hb, hdis, k35⟩
  · exact (rk.text.kept k3 (fun h => absurd ht0 h)).kept k35 (fun h => absurd ht0 h)
  · rw [hso]
    simp only [List.mem_cons, List.not_mem_nil, or_false] at hz ⊢
    rcases hz with rfl | rfl <;> omega

set_option maxRecDepth 100000 in
set_option maxHeartbeats 8000000 in
theorem soTop_any (d : Dk w fd p A.1 A.2) (hn : 0 < n) (hn1 : n ≤ 100000) (hf : 2 ≤ fan) (hf1 : fan ≤ 100000) (hh : mayH how = true) (hk : A.2.ops ≤ 590000) (hk0 : 0 ≤ A.2.ops) (hnm : inn.size ≤ maxLen) (hnm2 : out.size ≤ maxLen) (htm : temp.size ≤ 17) (hup : (bg A).2.down = false) {x : Ab} (hx : lookA (bg A).1 inn.data.toList = some x) (hlen : x.2.1.length ≤ 1000000000)
    (hr : readB false x.2.1 = (rs, er)) (hok : ∀ y ∈ rs, okR y) (hl : rs.length ≤ 120) {B : Dsk} (hB : createA (beginA (bg A).1 (bg A).2) out.data.toList = (0, B)) (hBx : Ext (bg A) B [(out.data.toList, [], [])]) (hBo : B.2.ops = (bg A).2.ops + 1)
    (ht : Tab w) (htd : gTab ∉ fd) (hon : ∀ r, out.data.toList ≠ rowB temp r) (h0 : ∀ r, lookA (bg A).1 (rowB temp r) = none) (hc : (bg A).2.left = 0 ∨ (er = 0 ∧ 4 * (rs.length : Int) ≤ (bg A).2.room - (bg A).2.used)) :
    Calls Tryz.prog 14 #[.pointer (some ⟨p, 0, none⟩), .string inn, .string out, .string temp, .int .i64 (n : Int), .int .i64 (fan : Int), .int .i64 how] w (TopP p (bg A) temp out rs er n fan how w fd A.2.ops) := by
  have CN := hide (cutNil_any n how w hn hn1 hh)
  have NR := hide (fun (W : World) (b : Below w.heap.size w W) => newReaderA_go (d.below b) hup (by omega) hnm hx hlen)
  have hAo : (bg A).2.ops = A.2.ops + 1 := beginA_ops A.1 A.2
  have NW := hide (fun (W : World) (fd2 : List Nat) (d2 : Dk W fd2 p (bg A).1 (bg A).2) => newWriter_go d2 (by omega) out hnm2 hB)
  have hf2 : ¬ (fan : Int) < 2 := by omega
  have HH := hide (And.intro d (And.intro hx (And.intro hr (And.intro hok (And.intro hl (And.intro hBx (And.intro hBo (And.intro ht (And.intro htd (And.intro hon (And.intro h0 (And.intro hc (And.intro hAo (And.intro hk (And.intro hk0 (And.intro hn (And.intro hf hup)))))))))))))))))
  clear d hx hr hok hl hBx hBo ht htd hon h0 hc hh hn hf hB hAo hk hk0 hup
  go_enter Tryz.func14, Tryz.ntmps14
  go_wp2_with fail
  refine CN.out.mono ?_
  rintro e w1 ⟨cv, rfl, b1⟩
  have HB := hide b1
  clear b1
  go_wp2_with fail
  refine (NR.out _ HB.out).mono ?_
  rintro e w2 ⟨q, rfl, ⟨fd2, tv, rk, k2, n2⟩, _⟩
  have H2 := hide (And.intro rk (And.intro k2 n2))
  clear rk k2 n2
  go_wp2_with fail
  refine (NW.out _ fd2 H2.out.1.disk).mono ?_
  rintro e w3 ⟨qw, rfl, fp3, ⟨fd3, tv3, wk, hfp3⟩, k3, n3⟩
  subst hfp3
  have H3 := hide (And.intro wk (And.intro k3 n3))
  clear wk k3 n3 NW NR CN
  go_wp2_with fail
  obtain ⟨w5, hw5⟩ : ∃ w5, w5 = (w3.alloc (.cells (scells ⟨p, temp, n, fan, how⟩ 0 (.slice none 0 0) (.slice none 0 0) 0) 77)).alloc (.cells #[.int .u64 0, .int .u64 0, .bool false, .pointer (some ⟨q, 0, none⟩), .int .i64 0] 81) := ⟨_, rfl⟩
  have hw5' := hw5
  simp only [scells, show ((0 : Nat) : Int) = 0 from rfl] at hw5'
  rw [← hw5']
  clear hw5'
  obtain ⟨d, hx, hr, hok, hl, hBx, hBo, ht, htd, hon, h0, hc, hAo, hk, hk0, hn, hf, hup⟩ := HH.out
  obtain ⟨rk, k2, n2⟩ := H2.out
  obtain ⟨wk, k3, n3⟩ := H3.out
  obtain ⟨T1, T2, T3, k35⟩ := top_start rk wk k3 n3 hBx hr hw5
  have k01 : Kept fd w w1 := (Kept.of_below (fp := []) HB.out).mono (by simp)
  have k02 : Kept fd w w2 := k01.trans k2 (fun _ h => .inl h)
  have n02 : Newly w fd (rfp fd2 q tv rst0.text) := (Newly.refl w fd).trans n2 k01.size
  have nfd2 : Newly w fd fd2 := fun z hz => n02 z (rfp_mem.2 (.inl hz))
  have k03 : Kept fd w w3 := k02.trans k3 nfd2
  have k05 : Kept fd w w5 := k03.trans k35 (fun _ h => by simp at h)
  have n05 : Newly w fd (wfp fd3 qw tv3 ++ (sofp w3.heap.size (.slice none 0 0) (.slice none 0 0) ++ [w3.heap.size + 1, q])) := fun z hz => by
    rcases List.mem_append.1 hz with h | h
    · exact (nfd2.trans n3 k02.size) z h
    · have h3 := k03.size
      have h' : z = w3.heap.size ∨ z = w3.heap.size + 1 ∨ z = q := by simpa [sofp, own, Value.ownBlock] using h
      rcases h' with rfl | rfl | rfl
      · exact .inr h3
      · exact .inr (by omega)
      · exact n02 _ (rfp_mem.2 (.inr (.inl rfl)))
  have htf9 := apart_new n05 ht.lt htd
  have ht5 := (ht.kept k05 htd).1
  have SS := hide (soSort_any T1 T2 T3 hok hl ht5 htf9 ⟨hn, hn1⟩ ⟨hf, hf1⟩ htm hon h0 ⟨x, hx, List.prefix_refl _⟩ hnm hnm2 (by omega) (by omega))
  have H5 := hide (And.intro k05 (And.intro n05 (And.intro htf9 ht5)))
  clear d hx hr hok hl hBx hBo ht htd hon h0 hc hAo hk hk0 hn hf hup rk k2 n2 wk k3 n3 T1 T2 T3 k35 k01 k02 n02 nfd2 k03 k05 n05 htf9 ht5 hw5 H2 H3 HB
  refine SS.out.mono ?_
  rintro e w6 (⟨rfl, her, B6, fd6, hv6, rv6, Rl, last6, d6, s6, dis6, k6, n6, p0, p1, x6⟩ | ⟨e', rfl, he', B6, fd6, cnt6, hv6, rv6, H6, Rl, last6, d6, s6, dis6, k6, n6, p0, p1, hc6⟩)
  · have g5 : w6.cell? ⟨w3.heap.size, 5, none⟩ = some (.int .i64 (rs.length : Int)) := s6.cellAt.2.2.2.2.2.1
    have PP := hide (fun W => passes_any W (rs.length : Nat) (n : Int) (fan : Int) (by have := HH.out.2.2.2.2.1; omega) (by omega) (by omega))
    have H6 := hide (And.intro d6 (And.intro k6 (And.intro n6 (And.intro p0 (And.intro p1 (And.intro x6 her))))))
    clear d6 s6 dis6 k6 n6 p0 p1 x6 her SS
    go_wp2_with fail
    refine (PP.out _).mono ?_
    rintro e w7 ⟨rfl, b7⟩
    have H7 := hide b7
    clear b7
    go_wp2
    go_ret2
    obtain ⟨d6, k6, n6, p0, p1, x6, her⟩ := H6.out
    obtain ⟨k05, n05, _⟩ := H5.out
    obtain ⟨d, hx, hr, hok, hl, hBx, hBo, ht, htd, hon, h0, hc, hAo, hk, hk0, hn, hf, hup⟩ := HH.out
    exact ⟨B6, fd6, d6.below H7.out, (k05.trans k6 n05).trans (Kept.of_below (fp := []) H7.out) (fun _ h => by simp at h), fun z hz => (n05.trans n6 k05.size) z (List.mem_append.2 (.inl hz)), by omega, .inl ⟨her, by omega, rfl, x6⟩⟩
  · have heb : (e' == 0) = false := by simpa using he'
    rcases hc6 with ⟨hee, E', x6, hp, hRl, hRl2⟩ | ⟨rfl, cr⟩
    · obtain ⟨d, hx, hr, hok, hl, hBx, hBo, ht, htd, hon, h0, hc, hAo, hk, hk0, hn, hf, hup⟩ := HH.out
      obtain ⟨k05, n05, htf9, ht5⟩ := H5.out
      have hcalm : (bg A).2.left = 0 := by
        rcases hc with hc | ⟨hc1, hc2⟩
        · exact hc
        · rcases hee with ⟨_, h⟩ | ⟨_, h⟩
          · exact absurd hc1 h
          · omega
      have UN := hide (soUndo_up s6 d6 dis6 x6 hp hcalm (ht5.kept k6 htf9).1 (fun e => apart_new n6 ht5.lt htf9 (List.mem_append.2 (.inl e))) htm hRl hRl2 hnm2 (by omega))
      have H6 := hide (And.intro k6 (And.intro n6 (And.intro p0 (And.intro p1 (And.intro hee hRl2)))))
      clear d hx hr hok hl hBx hBo ht htd hon h0 hc hAo hk hk0 hn hf hup k05 n05 htf9 ht5 hcalm hee x6 hp hRl hRl2 d6 s6 dis6 k6 n6 p0 p1 SS
      go_wp2_with fail
      refine UN.out.mono ?_
      rintro e w7 ⟨rfl, B7, fd7, d7, k7, n7, q0, q1, x7⟩
      have H7 := hide (And.intro d7 (And.intro k7 (And.intro n7 (And.intro q0 (And.intro q1 x7)))))
      clear d7 k7 n7 q0 q1 x7 UN
      go_wp2
      go_ret2
      obtain ⟨k6, n6, p0, p1, hee, hRl2⟩ := H6.out
      obtain ⟨d7, k7, n7, q0, q1, x7⟩ := H7.out
      obtain ⟨k05, n05, _⟩ := H5.out
      obtain ⟨d, hx, hr, hok, hl, hBx, hBo, ht, htd, hon, h0, hc, hAo, hk, hk0, hn, hf, hup⟩ := HH.out
      have n06 := n05.trans n6 k05.size
      have k06 := k05.trans k6 n05
      exact ⟨B7, fd7, d7, k06.trans k7 (fun z hz => n06 z (List.mem_append.2 (.inl hz))), fun z hz => by
        rcases n7 z hz with h | h
        · exact n06 z (List.mem_append.2 (.inl h))
        · exact .inr (Nat.le_trans k06.size h), by omega, .inr ⟨e', he', by omega, rfl, .inl ⟨hee, x7⟩⟩⟩
    · have UN := hide (soUndo_down (out := out) s6 d6 cr.down)
      have H6 := hide (And.intro d6 (And.intro k6 (And.intro n6 (And.intro p0 (And.intro p1 cr)))))
      clear d6 s6 dis6 k6 n6 p0 p1 cr SS
      go_wp2_with fail
      refine UN.out.mono ?_
      rintro e w7 ⟨rfl, rfl⟩
      go_wp2
      go_ret2
      obtain ⟨d6, k6, n6, p0, p1, cr⟩ := H6.out
      obtain ⟨k05, n05, _⟩ := H5.out
      obtain ⟨d, hx, hr, hok, hl, hBx, hBo, ht, htd, hon, h0, hc, hAo, hk, hk0, hn, hf, hup⟩ := HH.out
      exact ⟨B6, fd6, d6, k05.trans k6 n05, fun z hz => (n05.trans n6 k05.size) z (List.mem_append.2 (.inl hz)), by omega, .inr ⟨7, by decide, by omega, rfl, .inr ⟨rfl, cr⟩⟩⟩
end

end Go.Proofs.YtgpbanjammipiaaGreatDoor

namespace Go.Proofs.YtgpbanjammipiaaGreatDoor
open Go.RowKit Go.Maps

theorem insA_sorted {l : List Ab} {x : Ab} (hs : l.Pairwise (fun f g => f.1 < g.1)) (hno : lookA l x.1 = none) : (insA l x).Pairwise (fun f g => f.1 < g.1) := by
  have hn := lookA_none hno
  clear hno
  induction l with
  | nil => simp [insA]
  | cons g r ih =>
    rw [List.pairwise_cons] at hs
    unfold insA
    split
    · rename_i h
      rw [List.pairwise_cons]
      refine ⟨fun y hy => ?_, ih hs.2 (fun y hy => hn y (by simp [hy]))⟩
      rcases List.mem_cons.1 ((insA_perm r x).mem_iff.1 hy) with rfl | hy
      · exact h
      · exact hs.1 y hy
    · rename_i h
      have h1 := name_lt h (hn g (by simp))
      rw [List.pairwise_cons, List.pairwise_cons]
      refine ⟨fun y hy => ?_, hs⟩
      rcases List.mem_cons.1 hy with rfl | hy
      · exact h1
      · exact List.lt_trans h1 (hs.1 y hy)

/-- The file's name has no dot. -/
theorem dot_row (temp : ByteArray) (r : Nat) : (46 : UInt8) ∈ rowB temp r := by
  unfold rowB
  rw [rowN_list]
  simp

theorem dot_ne {n : List UInt8} (h : (46 : UInt8) ∉ n) (temp : ByteArray) (r : Nat) : n ≠ rowB temp r := fun e => h (e ▸ dot_row temp r)

theorem dot_look {l : List Ab} (h : ∀ x ∈ l, (46 : UInt8) ∉ x.1) (temp : ByteArray) (r : Nat) : lookA l (rowB temp r) = none := lookA_no fun x hx e => h x hx (e ▸ dot_row temp r)

theorem ds_is {s : Ds} {R U : Int} (h1 : s.room = R) (h2 : s.used = U) (h3 : s.down = false) (h4 : s.left = 0) (h5 : s.keep = []) : s = upS R U s.ops := by
  obtain ⟨a, b, c, d, e, f⟩ := s
  simp only at h1 h2 h3 h4 h5
  subst h1 h2 h3 h4 h5
  rfl

/-- Beside a disk that is up and not armed: nothing is left, or one file. -/
theorem Ext.is_nil {w' : World} {fd' : List Nat} {p : Nat} {l : List Ab} {R U k : Int} {B : Dsk} (h : Ext (l, upS R U k) B []) (hs : l.Pairwise (fun f g => f.1 < g.1)) (d : Dk w' fd' p B.1 B.2) : B = (l, upS R U B.2.ops) := by
  obtain ⟨e1, e2⟩ := h.nil_eq hs d.sorted
  have c := h.calm rfl
  exact Prod.ext e1 (ds_is h.room e2 h.up c.1 c.2)

theorem Ext.is_one {w' : World} {fd' : List Nat} {p : Nat} {l : List Ab} {R U k : Int} {B : Dsk} {x : Ab} (h : Ext (l, upS R U k) B [x]) (hs : l.Pairwise (fun f g => f.1 < g.1)) (d : Dk w' fd' p B.1 B.2) : B = (insA l x, upS R (U + sec x.2.1.length) B.2.ops) := by
  have hno : lookA l x.1 = none := h.new x (by simp)
  have e1 : B.1 = insA l x := by
    refine sorted_ext d.sorted (insA_sorted hs hno) fun n => ?_
    rw [h.look, lookA_cons, lookA_nil]
    by_cases hn : x.1 = n
    · subst hn
      rw [if_pos rfl, lookA_ins l x hno]; rfl
    · rw [if_neg hn, lookA_insO l x n hn]; rfl
  have e2 := h.used
  rw [usedB_cons, usedB_nil] at e2
  have c := h.calm rfl
  exact Prod.ext e1 (ds_is h.room (by rw [e2]; show U + _ = _; omega) h.up c.1 c.2)

section
variable {w0 w : World} {p : Nat} {hs : List Nat} {l : List Ab} {R U k : Int} {inn out temp : ByteArray} {n fan : Nat} {how : Int} {rs : List Rc} {er : Int}

theorem create_up9 (hno : lookA l out.data.toList = none) (hm : mayB out.data.toList = true) : createA (beginA (l, upS R U k).1 (l, upS R U k).2) out.data.toList = (0, (insA l (out.data.toList, [], []), upS R U (k + 1))) := by
  rw [begin_up]
  unfold createA
  rw [if_neg (by simp [upS]), if_neg (by simp [hm])]
  dsimp only
  rw [hno]

/-- Sort, of a file that is there, on a disk that is up and not armed. -/
theorem Lw.sort_calm (h : Lw w0 w p (l, upS R U k) hs) (ht : Tab w0) (hn : 0 < n) (hn1 : n ≤ 100000) (hf : 2 ≤ fan) (hf1 : fan ≤ 100000) (hh : mayH how = true) (hk0 : 0 ≤ k) (hk : k ≤ 590000) (hnm : inn.size ≤ maxLen) (hnm2 : out.size ≤ maxLen) (htm : temp.size ≤ 17)
    {x : Ab} (hx : lookA l inn.data.toList = some x) (hlen : x.2.1.length ≤ 1000000000) (hr : readB false x.2.1 = (rs, er)) (hok : ∀ y ∈ rs, okR y) (hl : rs.length ≤ 120) (hno : lookA l out.data.toList = none) (hm : mayB out.data.toList = true) (hdo : (46 : UInt8) ∉ out.data.toList) (h0 : ∀ r, lookA l (rowB temp r) = none) :
    Calls Tryz.prog 14 #[.pointer (some ⟨p, 0, none⟩), .string inn, .string out, .string temp, .int .i64 (n : Int), .int .i64 (fan : Int), .int .i64 how] w fun e w' => ∃ k', k ≤ k' ∧ k' ≤ k + 310000 ∧ Hld hs w w' ∧
      ((er = 0 ∧ k' ≤ k + 200010 ∧ e = .returned (.tuple #[.int .i64 (passesN (rs.length : Nat) n fan : Nat), .int .i64 0]) ∧ Lw w0 w' p (insA l (out.data.toList, fileB (canR how rs), fileB (canR how rs)), upS R (U + sec (fileB (canR how rs)).length) k') hs) ∨
       (∃ e', e' ≠ 0 ∧ e = .returned (.tuple #[.int .i64 0, .int .i64 e']) ∧ ((e' = er ∧ er ≠ 0) ∨ (e' = 6 ∧ R - U < 4 * rs.length)) ∧ Lw w0 w' p (l, upS R U k') hs)) := by
  obtain ⟨fp, d, b, f, a⟩ := h
  have hbg : bg (l, upS R U k) = (l, upS R U (k + 1)) := rfl
  have hB := create_up9 (l := l) (R := R) (U := U) (k := k + 1) (out := out) hno hm
  have hok1 : okA l (upS R U (k + 1)) := beginA_ok d.ok
  have hBx : Ext (l, upS R U (k + 1)) (insA l (out.data.toList, [], []), upS R U (k + 1 + 1)) [(out.data.toList, [], [])] := by
    have := ((Ext.start (A0 := (l, upS R U (k + 1))) rfl).create (M := fun _ => True) hok1 (by simp) hm (by simp) hno).2
    rw [hB] at this
    rcases this with ⟨_, h⟩ | ⟨h, _⟩
    · exact h
    · cases h
  have hso := d.sorted
  refine (soTop_any (A := (l, upS R U k)) (B := (insA l (out.data.toList, [], []), upS R U (k + 1 + 1))) (temp := temp) (x := x) (er := er) (rs := rs) d hn hn1 hf hf1 hh hk hk0 hnm hnm2 htm rfl hx hlen hr hok hl hB hBx rfl (ht.below b) (fun e => ?_) (dot_ne hdo temp) h0 (.inl rfl)).mono ?_
  · have := f _ e
    have := ht.lt
    omega
  · rintro e w' ⟨B, fd', d', k', n', ho, H⟩
    have o : ∀ C : Dsk, B = C → Lw w0 w' p C hs ∧ Hld hs w w' := fun C e => e ▸ Lw.op b f a ⟨fd', d', k', n'⟩
    rw [hbg] at H
    have ho' : k ≤ B.2.ops := ho
    rcases H with ⟨h0, h1, h2, h3⟩ | ⟨e', h0, h1, h2, ⟨h3, h4⟩ | ⟨_, h3⟩⟩
    · have O := o _ (h3.is_one hso d')
      have h1' : B.2.ops ≤ k + 200010 := h1
      exact ⟨B.2.ops, ho', by omega, O.2, .inl ⟨h0, h1', h2, O.1⟩⟩
    · have O := o _ (h4.is_nil hso d')
      exact ⟨B.2.ops, ho', h1, O.2, .inr ⟨e', h0, h2, h3, O.1⟩⟩
    · exact absurd rfl h3.armed

/-- .. for whose records there is room. -/
theorem Lw.sort_ok (h : Lw w0 w p (l, upS R U k) hs) (ht : Tab w0) (hn : 0 < n) (hn1 : n ≤ 100000) (hf : 2 ≤ fan) (hf1 : fan ≤ 100000) (hh : mayH how = true) (hk0 : 0 ≤ k) (hk : k ≤ 590000) (hnm : inn.size ≤ maxLen) (hnm2 : out.size ≤ maxLen) (htm : temp.size ≤ 17)
    {x : Ab} (hx : lookA l inn.data.toList = some x) (hlen : x.2.1.length ≤ 1000000000) (hr : readB false x.2.1 = (rs, 0)) (hok : ∀ y ∈ rs, okR y) (hl : rs.length ≤ 120) (hno : lookA l out.data.toList = none) (hm : mayB out.data.toList = true) (hdo : (46 : UInt8) ∉ out.data.toList) (h0 : ∀ r, lookA l (rowB temp r) = none) (hroom : 4 * (rs.length : Int) ≤ R - U) :
    Calls Tryz.prog 14 #[.pointer (some ⟨p, 0, none⟩), .string inn, .string out, .string temp, .int .i64 (n : Int), .int .i64 (fan : Int), .int .i64 how] w fun e w' => ∃ k', e = .returned (.tuple #[.int .i64 (passesN (rs.length : Nat) n fan : Nat), .int .i64 0]) ∧
      Lw w0 w' p (insA l (out.data.toList, fileB (canR how rs), fileB (canR how rs)), upS R (U + sec (fileB (canR how rs)).length) k') hs ∧ Hld hs w w' ∧ k ≤ k' ∧ k' ≤ k + 200010 := by
  refine (h.sort_calm ht hn hn1 hf hf1 hh hk0 hk hnm hnm2 htm hx hlen hr hok hl hno hm hdo h0).mono ?_
  rintro e w' ⟨k', h1, h2, h3, ⟨_, h4, h5, h6⟩ | ⟨e', _, _, ⟨_, h4⟩ | ⟨_, h4⟩, _⟩⟩
  · exact ⟨k', h5, h6, h3, h1, h4⟩
  · exact absurd rfl h4
  · omega

/-- .. if out is there. -/
theorem Lw.sort_is (h : Lw w0 w p (l, upS R U k) hs) (hn : 0 < n) (hn1 : n ≤ 100000) (hf : 2 ≤ fan) (hh : mayH how = true) (hk : k ≤ 900000) (hnm : inn.size ≤ maxLen) (hnm2 : out.size ≤ maxLen)
    {x y : Ab} (hx : lookA l inn.data.toList = some x) (hlen : x.2.1.length ≤ 1000000000) (hy : lookA l out.data.toList = some y) (hm : mayB out.data.toList = true) :
    Calls Tryz.prog 14 #[.pointer (some ⟨p, 0, none⟩), .string inn, .string out, .string temp, .int .i64 (n : Int), .int .i64 (fan : Int), .int .i64 how] w fun e w' => e = .returned (.tuple #[.int .i64 0, .int .i64 5]) ∧ Lw w0 w' p (l, upS R U (k + 1 + 1)) hs ∧ Hld hs w w' := by
  obtain ⟨fp, d, b, f, a⟩ := h
  have hB : createA (beginA (bg (l, upS R U k)).1 (bg (l, upS R U k)).2) out.data.toList = (5, (l, upS R U (k + 1 + 1))) := by
    show createA (l, upS R U (k + 1 + 1)) _ = _
    unfold createA
    rw [if_neg (by simp [upS]), if_neg (by simp [hm])]
    dsimp only
    rw [hy]
  refine (sort_noout (A := (l, upS R U k)) (temp := temp) d n fan how hn hn1 hf hh (by simp only [upS]; omega) hnm hnm2 rfl hx hlen (by decide) hB).mono ?_
  rintro e w' ⟨rfl, o⟩
  exact ⟨rfl, Lw.op b f a o⟩

/-- .. if in is not there. -/
theorem Lw.sort_none (h : Lw w0 w p (l, upS R U k) hs) (hn : 0 < n) (hn1 : n ≤ 100000) (hf : 2 ≤ fan) (hh : mayH how = true) (hk : k ≤ 900000) (hnm : inn.size ≤ maxLen) (hx : lookA l inn.data.toList = none) :
    Calls Tryz.prog 14 #[.pointer (some ⟨p, 0, none⟩), .string inn, .string out, .string temp, .int .i64 (n : Int), .int .i64 (fan : Int), .int .i64 how] w fun e w' => e = .returned (.tuple #[.int .i64 0, .int .i64 4]) ∧ Lw w0 w' p (l, upS R U (k + 1)) hs ∧ Hld hs w w' := by
  obtain ⟨fp, d, b, f, a⟩ := h
  have he : errA (bg (l, upS R U k)) inn.data.toList = some 4 := by
    show errA (l, upS R U (k + 1)) _ = _
    unfold errA
    rw [if_neg (by simp [upS])]
    dsimp only
    rw [hx]
  refine (sort_noin (A := (l, upS R U k)) (out := out) (temp := temp) d n fan how hn hn1 hf hh (by simp only [upS]; omega) hnm he).mono ?_
  rintro e w' ⟨rfl, o⟩
  exact ⟨rfl, Lw.op b f a o⟩

/-- List. -/
theorem Lw.list (h : Lw w0 w p (l, upS R U k) hs) (m : Nat) (hm : l.length = m) (hk : k ≤ 999999) : Calls Tryz.prog 15 #[.pointer (some ⟨p, 0, none⟩)] w fun e w' =>
    ∃ a cap, e = .returned (.tuple #[.slice a m cap, .int .i64 0]) ∧ Lw w0 w' p (l, upS R U (k + 1)) hs ∧ Hld hs w w' := by
  subst hm
  obtain ⟨fp, d, b, f, a⟩ := h
  refine (d.list (by simp only [upS]; omega) rfl).mono ?_
  rintro e w' ⟨v, rfl, r, fp', d', k', n', y⟩
  have hv : ∃ a cap, v = .slice a l.length cap := by
    rcases r.2 with ⟨rfl, h0⟩ | ⟨g, cap, cur, rfl, _⟩
    · exact ⟨none, 0, by rw [show l.length = 0 from h0]⟩
    · exact ⟨_, cap, rfl⟩
  obtain ⟨a', cap, rfl⟩ := hv
  exact ⟨a', cap, rfl, Lw.op b f a ⟨fp', d', k', n'⟩⟩
end

/-! ### few -/

theorem min120 (len : Nat) : ∃ m : Nat, m = min len 120 ∧ (∀ (ts : Array TypeId) (t : TypeId) (w : World), (Builtin.min_ ts t #[.int .i64 (len : Int), .int .i64 120]).run Tryz.prog w = .ok (.int .i64 (m : Int)) w) :=
  ⟨min len 120, rfl, fun ts t w => min_len len 120 120 rfl ts t w⟩

set_option maxRecDepth 100000 in
set_option maxHeartbeats 1000000 in
theorem few10_any {w : World} {v : Value} {l : List Rc} (h : IsR w v l) (hl : l.length ≤ 9223372036854775807) :
    Calls Tryz.prog 11 #[v] w fun e w' => ∃ v', e = .returned v' ∧ RowR w' v' (l.take 120) ∧ Below w.heap.size w w' ∧ (∀ x ∈ own v', w.heap.size ≤ x) := by
  obtain ⟨a, cap, rfl, hcap⟩ := h.form
  obtain ⟨n, hn, hmin⟩ := min120 l.length
  have hnl : n ≤ l.length := by omega
  have ht : l.take 120 = l.take n := by
    rw [hn, List.take_eq_take_iff]
    omega
  have R0 := hide (rowR_empty w)
  have I1 := hide ((h.take n hnl).alloc (.cells #[] 52))
  have HL : Hid (([] : List Rc).length + (l.take n).length ≤ 1099511627776) := by show _ ≤ _; simp; omega
  have hmi : min (l.length : Int) 120 = (n : Int) := by omega
  have HT := hide ht
  clear h ht hn
  go_enter Tryz.func11, Tryz.ntmps11
  go_wp2_with (first | (at_builtin; refine wp_appendRc _ rfl _ _ rfl (.slice (some ⟨w.heap.size, 0, none⟩) 0 0) (.slice a n cap) [] (l.take n) rfl R0.out rfl I1.out HL.out ?_; intro v' w' hrow hk hn) | go_in)
  go_ret
  refine ⟨v', rfl, by rw [HT.out]; simpa using hrow, ((Below.refl _ w).alloc (Nat.le_refl _) _).trans (hk.below (by simp) (by simp [Value.ownBlock])), fun x hx => ?_⟩
  rcases hn x hx with h | h
  · simp [Value.ownBlock] at h
    omega
  · simp at h
    omega

end Go.Proofs.YtgpbanjammipiaaGreatDoor

namespace Go.Proofs.YtgpbanjammipiaaGreatDoor
open Go.RowKit Go.Maps

theorem nmIn : (⟨#[105, 110]⟩ : ByteArray).size ≤ maxLen := by show 2 ≤ maxLen; unfold maxLen; omega
theorem nmOut : (⟨#[111, 117, 116]⟩ : ByteArray).size ≤ maxLen := by show 3 ≤ maxLen; unfold maxLen; omega

def rs3 : List Rc := [(3, 0), (1, 0), (2, 0)]
theorem rs3_ok : ∀ y ∈ rs3, okR y := by
  intro y hy
  simp only [rs3, List.mem_cons, List.not_mem_nil, or_false] at hy
  rcases hy with rfl | rfl | rfl <;> exact ⟨⟨by decide, by decide⟩, by decide, by decide⟩
theorem rs3_can : canR 0 rs3 = [(1, 0), (2, 0), (3, 0)] := by decide
theorem rs3_passes : passesN 3 1 2 = 2 := by decide
theorem ten_passes : passesN 10 2 2 = 3 := by decide

theorem isR_three (w : World) : IsR (w.alloc (.cells #[.int .u64 3, .int .u64 0, .int .u64 1, .int .u64 0, .int .u64 2, .int .u64 0] 52)) (.slice (some ⟨w.heap.size, 0, none⟩) 3 3) rs3 := by
  refine ⟨_, 3, rfl, Nat.le_refl _, by simp, fun x hx j u hu => ?_, rs3_ok⟩
  simp only [Option.some.injEq] at hx
  subst hx
  rw [Addr.add_lit, Nat.zero_add, cell_of_heap (heap_alloc_new w _)]
  match j, hu with
  | 0, hu => simpa [flatR, encR, rs3] using hu
  | 1, hu => simpa [flatR, encR, rs3] using hu
  | 2, hu => simpa [flatR, encR, rs3] using hu
  | 3, hu => simpa [flatR, encR, rs3] using hu
  | 4, hu => simpa [flatR, encR, rs3] using hu
  | 5, hu => simpa [flatR, encR, rs3] using hu
  | j + 6, hu => simp [flatR, encR, rs3] at hu

set_option maxRecDepth 100000 in
set_option maxHeartbeats 4000000 in
theorem shown10_any (w : World) (hT : Tab w) : Calls Tryz.prog 10 #[] w fun e w' => e = .returned (.bool true) ∧ Below w.heap.size w w' := by
  obtain ⟨c, hc⟩ : ∃ c, c = fileB rs3 := ⟨_, rfl⟩
  obtain ⟨c2, hc2⟩ : ∃ c2, c2 = fileB (canR 0 rs3) := ⟨_, rfl⟩
  have hcl : c.length = 54 := by rw [hc, fileB_length]; rfl
  have hcl2 : c2.length = 54 := by rw [hc2, fileB_length, rs3_can]; rfl
  have hrd : readB false c = (rs3, 0) := by rw [hc]; exact readB_file _ rs3_ok
  have hrd2 : readB false c2 = (canR 0 rs3, 0) := by rw [hc2]; exact readB_file _ (canR_ok rs3_ok)
  have hs1 : sec c.length = 4 := by rw [hcl]; decide
  have hs2 : sec c2.length = 4 := by rw [hcl2]; decide
  have HC := hide (And.intro hc (And.intro hcl (And.intro hrd hs1)))
  have HC2 := hide (And.intro hc2 (And.intro hcl2 (And.intro hrd2 hs2)))
  have HT := hide hT
  clear hc hcl hrd hc2 hcl2 hrd2 hs1 hs2 hT
  go_enter Tryz.func10, Tryz.ntmps10
  go_wp2_with fail
  refine (Lw.new (w0 := w) (w := w) (hs := []) 1000 (by omega) (Below.refl _ _) (by simp)).mono ?_
  rintro e w1 ⟨p, rfl, L1, b1⟩
  have HL1 := hide (L1.hold (hs' := [w1.heap.size]) ((Below.refl _ w1).alloc (Nat.le_refl _) (.cells #[.int .u64 3, .int .u64 0, .int .u64 1, .int .u64 0, .int .u64 2, .int .u64 0] 52)) (by simp))
  have HI1 := hide (isR_three w1)
  clear L1 b1
  go_wp2_with fail
  refine (HL1.out.write_ok ⟨#[105, 110]⟩ nmIn rfl rfl (by omega) (by rw [← HC.out.1, HC.out.2.2.2]; decide) (by decide) HI1.out (by intro _ x hx; simpa [own, Value.ownBlock] using hx)).mono ?_
  rintro e w2 ⟨k2, rfl, L2, _, hk2, hk2'⟩
  rw [← HC.out.1, HC.out.2.2.2] at L2
  have e2 : insA [] ((⟨#[105, 110]⟩ : ByteArray).data.toList, c, c) = [([105, 110], c, c)] := rfl
  rw [e2, show (0 : Int) + 4 = 4 from rfl] at L2
  have hk2b : k2 ≤ 10 := by have : rs3.length = 3 := rfl; omega
  have HL2 := hide (L2.sub (hs' := []) (by simp))
  clear L2 HL1 HI1 e2 hk2'
  go_wp2_with fail
  refine (HL2.out.sort_ok (n := 1) (fan := 2) (how := 0) HT.out (by decide) (by decide) (by decide) (by decide) rfl (by omega) (by omega) nmIn nmOut (by decide) (x := ([105, 110], c, c)) rfl (by rw [HC.out.2.1]; omega) HC.out.2.2.1 rs3_ok (by decide) rfl rfl (by decide) (dot_look (by simp) _) (by decide)).mono ?_
  rintro e w3 ⟨k3, rfl, L3, _, hk3, hk3'⟩
  rw [← HC2.out.1, HC2.out.2.2.2, show (4 : Int) + 4 = 8 from rfl] at L3
  have e3 : insA [([105, 110], c, c)] ((⟨#[111, 117, 116]⟩ : ByteArray).data.toList, c2, c2) = [([105, 110], c, c), ([111, 117, 116], c2, c2)] := rfl
  rw [e3] at L3
  rw [show (rs3.length : Nat) = 3 from rfl]
  have hp3 : passesN ((3 : Nat) : Int) ((1 : Nat) : Int) ((2 : Nat) : Int) = 2 := rs3_passes
  rw [hp3]
  have HL3 := hide L3
  clear L3 HL2 e3 hp3
  go_wp2_with fail
  refine (HL3.out.read ⟨#[111, 117, 116]⟩ nmOut (x := ([111, 117, 116], c2, c2)) rfl (by rw [HC2.out.2.1]; omega) HC2.out.2.2.1 (canR_ok rs3_ok) (by rw [rs3_can]; simp; omega)).mono ?_
  rintro e w4 ⟨v4, k4, rfl, r4, L4, _, hk4, hk4'⟩
  rw [if_pos rfl, rs3_can] at r4
  rw [rs3_can] at hk4'
  simp only [List.length_cons, List.length_nil] at hk4'
  obtain ⟨g, cap, rfl, _⟩ := r4.blk (by simp)
  have HL4 := hide L4
  have HR4 := hide r4
  clear L4 r4 HL3
  go_wp2_with fail
  refine (HL4.out.sort_is (n := 1) (fan := 2) (how := 0) (by decide) (by decide) (by decide) rfl (by omega) nmIn nmOut (x := ([105, 110], c, c)) rfl (by rw [HC.out.2.1]; omega) (y := ([111, 117, 116], c2, c2)) rfl rfl).mono ?_
  rintro e w5 ⟨rfl, L5, d5⟩
  have r5 := HR4.out.hld d5 (by simp)
  have HL5 := hide L5
  have HR5 := hide r5
  clear L5 r5 HL4 HR4 d5
  go_wp2_with fail
  refine (sort_arg w5 _ _ _ _ 0 2 0 (by decide) (.inl (by decide))).mono ?_
  rintro e w6 ⟨rfl, b6⟩
  have r6 := HR5.out.hld (Hld.below b6 (hs := own (.slice (some ⟨g, 0, none⟩) 3 cap))) (by simp)
  have HL6 := hide (HL5.out.below b6)
  have HR6 := hide r6
  clear b6 r6 HL5 HR5
  go_wp2_with fail
  refine (HL6.out.list 2 rfl (by omega)).mono ?_
  rintro e w7 ⟨a7, cap7, rfl, L7, d7⟩
  have r7 := HR6.out.hld d7 (by simp)
  obtain ⟨c0, _⟩ := r7.cell2 0 (by simp)
  obtain ⟨c4, _⟩ := r7.cell2 2 (by simp)
  simp only [Nat.zero_mul] at c0 c4
  have c0' : w7.cell? ⟨g, 0, none⟩ = some (.int .u64 1) := c0
  have c4' : w7.cell? ⟨g, 4, none⟩ = some (.int .u64 3) := c4
  have HB := hide L7.bel
  have PP := hide (fun W => passes_any W 10 2 2 (by decide) (by decide) (by decide))
  rw [ten_passes] at PP
  clear L7 d7 r7 c0 c4 HL6 HR6
  go_wp2_with (go_at_call 20; refine (PP.out _).mono ?_; rintro e w8 ⟨rfl, b8⟩; have HB8 := hide b8; clear b8)
  go_ret
  exact ⟨rfl, below_then HB.out HB8.out⟩

end Go.Proofs.YtgpbanjammipiaaGreatDoor

namespace Go.Proofs.YtgpbanjammipiaaGreatDoor
open Go.RowKit Go.Maps

theorem min_int (a b : Int) : ∀ (ts : Array TypeId) (t : TypeId) (w : World), (Builtin.min_ ts t #[.int .i64 a, .int .i64 b]).run Tryz.prog w = .ok (.int .i64 (min a b)) w := fun ts t w => by
  rw [run_min_int2]
  congr 2
  split <;> omega

/-! ### What is read is right, and not too many -/

theorem decB_sub (c : List Int) : ∀ z ∈ (decB c).1, z ∈ c := by
  intro z hz
  unfold decB at hz
  split at hz
  · simp at hz
  · split at hz
    · simp at hz
    · split at hz
      · simp at hz
      · split at hz
        · simp at hz
        · exact List.mem_of_mem_drop (List.mem_of_mem_take hz)

theorem readN_ok (n : Nat) (s : Bool) (c : List Int) (h : ∀ z ∈ c, 0 ≤ z ∧ z ≤ 255) : ∀ y ∈ (readN n s c).1, okR y := by
  induction n generalizing s c with
  | zero => simp [readN]
  | succ n ih =>
    intro y hy
    rw [readN] at hy
    split at hy
    · simp at hy
    · split at hy
      · simp at hy
      · split at hy
        · simp at hy
        · dsimp only at hy
          rcases List.mem_append.1 hy with hy | hy
          · exact recsOf_ok _ _ (fun z hz => h z (decB_sub c z hz)) y hy
          · exact ih _ _ (fun z hz => h z (List.mem_of_mem_drop hz)) y hy

theorem readB_ok (s : Bool) (c : List Int) (h : ∀ z ∈ c, 0 ≤ z ∧ z ≤ 255) : ∀ y ∈ (readB s c).1, okR y := readN_ok _ s c h

theorem readN_len16 (n : Nat) (s : Bool) (c : List Int) : 16 * (readN n s c).1.length ≤ c.length := by
  induction n generalizing s c with
  | zero => simp [readN]
  | succ n ih =>
    rw [readN]
    split
    · simp
    · split
      · simp
      · rename_i h1 h2
        split
        · simp
        · have h3 := decB_pos c (by simpa using h2)
          have h4 : 16 * (recsT (decB c).1).length ≤ (decB c).1.length := by rw [recsT, recsOf_length]; omega
          have h5 := ih (decide ((decB c).1.length < 800)) (c.drop (decB c).2.1)
          rw [List.length_drop] at h5
          rw [List.length_append]
          omega
theorem readB_len16 (s : Bool) (c : List Int) : 16 * (readB s c).1.length ≤ c.length := readN_len16 _ s c

/-! ### Records cut to a hundred and twenty, and their file -/

/-- What the laws know of records and of their file: c its bytes, o what Sorted tells of them, d its bytes. -/
structure Rec10 (how : Int) (es : List Rc) (c d : List Int) : Prop where
  few : es.length ≤ 120
  ok : ∀ y ∈ es, okR y
  file : c = fileB es
  len : c.length ≤ 1000000
  secs0 : 0 ≤ sec c.length
  secs : sec c.length ≤ 2 * (es.length : Int)
  read : readB false c = (es, 0)
  out : d = fileB (canR how es)
  few2 : (canR how es).length ≤ 120
  ok2 : ∀ y ∈ canR how es, okR y
  len2 : d.length ≤ 1000000
  secs20 : 0 ≤ sec d.length
  secs2 : sec d.length ≤ 2 * (es.length : Int)
  read2 : readB false d = (canR how es, 0)

theorem rec10 (how : Int) {es : List Rc} (hl : es.length ≤ 120) (hok : ∀ y ∈ es, okR y) : Rec10 how es (fileB es) (fileB (canR how es)) := by
  have h1 := canR_le how es
  have h2 := sec_file es
  have h3 := sec_file (canR how es)
  exact ⟨hl, hok, rfl, by rw [fileB_length]; omega, sec_nonneg _, h2, readB_file es hok, rfl, by omega, canR_ok hok, by rw [fileB_length]; omega, sec_nonneg _, by omega, readB_file _ (canR_ok hok)⟩

theorem mayH_in {how : Int} (h : mayH how = true) : 0 ≤ how ∧ how ≤ 2 := by
  unfold mayH at h
  simp only [Bool.or_eq_true, beq_iff_eq] at h
  omega
theorem mayH_or (how : Int) : how < 0 ∨ 2 < how ∨ mayH how = true := by
  unfold mayH
  simp only [Bool.or_eq_true, beq_iff_eq]
  omega

theorem modN (a K : Int) (hK : 0 < K) : ∃ o : Nat, (bits .and .i64 a 65535).tmod K = (o : Int) ∧ (o : Int) < K := by
  refine ⟨((a % 65536).tmod K).toNat, ?_, ?_⟩
  · rw [i64_and65535]
    have := Int.tmod_nonneg K (show 0 ≤ a % 65536 by omega)
    omega
  · have h1 := Int.tmod_nonneg K (show 0 ≤ a % 65536 by omega)
    have h2 := Int.tmod_lt_of_pos (a % 65536) hK
    omega

/-- One row is never merged. -/
theorem passes_one {m n fan : Nat} (h : m ≤ n) : passesN (m : Int) (n : Int) (fan : Int) = 0 := by
  unfold passesN
  split
  · rfl
  · rename_i h0
    have hp : partsN ((m : Int).toNat) ((n : Int).toNat) = 1 := by
      unfold partsN
      rw [Int.toNat_natCast, Int.toNat_natCast, Nat.div_eq_of_lt (by omega)]
    rw [hp]
    cases e : (m : Int).toNat with
    | zero => rfl
    | succ f => rw [passN, if_pos (Nat.le_refl 1)]

theorem nmT : (⟨#[116]⟩ : ByteArray).size ≤ 17 := by decide
theorem nmC : (⟨#[99]⟩ : ByteArray).size ≤ maxLen := by show 1 ≤ maxLen; unfold maxLen; omega
theorem nmAgain : (⟨#[97, 103, 97, 105, 110]⟩ : ByteArray).size ≤ maxLen := by show 5 ≤ maxLen; unfold maxLen; omega
theorem nmNone : (⟨#[110, 111, 110, 101]⟩ : ByteArray).size ≤ maxLen := by show 4 ≤ maxLen; unfold maxLen; omega

end Go.Proofs.YtgpbanjammipiaaGreatDoor
