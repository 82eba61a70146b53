/-
  Lemma texts, one behind the other: IRd, IRdL, ILaw, IShown. No statement of the seat is proved here.
-/
import Derived.Test.YtdhajmgpakconaaGK
import Derived.Test.YtdhajmgpakconaaGG
import Derived.Test.YtdhajmgpakconaaGH
import Derived.Test.YtdhajmgpakconaaGJ
namespace Go.Proofs.Ytdhajmgpakconaa
open Go.RowKit Go.Maps

/-- What a reader will read yet, and that its text is one of a block. -/
def Wil (c : List Int) (st : Rst) (rs : List Rc) (e : Int) : Prop := Will c st rs e ∧ st.text.length ≤ 800

theorem loadS_text {c : List Int} {st : Rst} (ht : st.text = []) : ((loadS c st).text = [] → (loadS c st).err ≠ 0) ∧ ((loadS c st).text ≠ [] → 16 ≤ (loadS c st).text.length) ∧ (loadS c st).text.length ≤ 800 := by
  unfold loadS loadR
  by_cases hd : (decB (c.drop st.at_)).2.2 ≠ 0
  · rw [if_pos hd]
    exact ⟨fun _ => hd, fun h => absurd ht h, by dsimp only; rw [ht]; simp⟩
  · rw [if_neg hd]
    by_cases hf : st.short = true ∨ rightB (decB (c.drop st.at_)).1 = false
    · rw [if_pos hf]
      exact ⟨fun _ => by simp, fun h => absurd ht h, by dsimp only; rw [ht]; simp⟩
    · rw [if_neg hf]
      have hr : rightB (decB (c.drop st.at_)).1 = true := by
        cases hr : rightB (decB (c.drop st.at_)).1 with
        | true => rfl
        | false => exact absurd (.inr hr) hf
      obtain ⟨r1, r2, r3⟩ := rightB_iff.1 hr
      exact ⟨fun e => by dsimp only at e; rw [e] at r1; simp at r1, fun _ => r1, r2⟩

section
variable {w : World} {fd : List Nat} {tv : Value} {p q : Nat} {l : List Ab} {R U k : Int} {nm : ByteArray} {c : List Int} {st : Rst}

/-- Next, of one record more. -/
theorem next_some (h : RkE w fd tv p q l R U k nm c st) {x : Rc} {rs : List Rc} {er : Int} (hw : Wil c st (x :: rs) er) (hk : k ≤ 999998) (hnm : nm.size ≤ maxLen) :
    Calls Try.prog 24 #[.pointer (some ⟨q, 0, none⟩)] w fun e w' => e = .returned (.tuple #[valR x, .bool true, .int .i64 0]) ∧ ∃ st', RkO w w' (rfp fd q tv st.text) p q l R U k 2 nm c st' ∧ Wil c st' rs er := by
  obtain ⟨hw, hl⟩ := hw
  by_cases ht : st.text = []
  · have he : st.err = 0 := by
      rcases hw with ⟨_, _, h3, _⟩ | ⟨h1, _⟩
      · exact absurd h3 (by simp)
      · exact h1
    by_cases ha : st.at_ < c.length
    · have hw2 := will_load hw he ht ha
      obtain ⟨t1, t2, t3⟩ := loadS_text (c := c) ht
      by_cases hz : (loadS c st).text = []
      · have := (will_empty hw2 hz (.inl (t1 hz))).1
        exact absurd this (by simp)
      · obtain ⟨rs', e1, e2, e3, _⟩ := will_next hw2 hz
        obtain ⟨rfl, rfl⟩ := List.cons.inj e1
        refine (next_block h he ht ha hk hnm (t2 hz) (by omega)).mono ?_
        rintro e w' ⟨rfl, o⟩
        exact ⟨rfl, _, o, e2, by dsimp only; rw [List.length_drop]; omega⟩
    · have := (will_empty hw ht (.inr (by omega))).1
      exact absurd this (by simp)
  · obtain ⟨rs', e1, e2, e3, e4⟩ := will_next hw ht
    obtain ⟨rfl, rfl⟩ := List.cons.inj e1
    refine (next_text h e4 e3 (by omega)).mono ?_
    rintro e w' ⟨rfl, o⟩
    exact ⟨rfl, _, o, e2, by dsimp only; rw [List.length_drop]; omega⟩

/-- Next, of no record more. -/
theorem next_none (h : RkE w fd tv p q l R U k nm c st) {er : Int} (hw : Wil c st [] er) (hk : k ≤ 999998) (hnm : nm.size ≤ maxLen) :
    Calls Try.prog 24 #[.pointer (some ⟨q, 0, none⟩)] w fun e w' => e = .returned (.tuple #[valR (0, 0), .bool false, .int .i64 er]) ∧ ∃ st', RkO w w' (rfp fd q tv st.text) p q l R U k 2 nm c st' ∧ Wil c st' [] er := by
  obtain ⟨hw, hl⟩ := hw
  by_cases ht : st.text = []
  · by_cases he : st.err = 0
    · by_cases ha : st.at_ < c.length
      · have hw2 := will_load hw he ht ha
        obtain ⟨t1, t2, t3⟩ := loadS_text (c := c) ht
        by_cases hz : (loadS c st).text = []
        · have e1 := (will_empty hw2 hz (.inl (t1 hz))).2
          refine (next_bad h he ht ha hk hnm hz).mono ?_
          rintro e w' ⟨rfl, o⟩
          exact ⟨by rw [e1]; rfl, _, o, hw2, t3⟩
        · obtain ⟨rs', e1, _⟩ := will_next hw2 hz
          exact absurd e1 (by simp)
      · have e1 := (will_empty hw ht (.inr (by omega))).2
        refine (next_end h he ht (by omega)).mono ?_
        rintro e w' ⟨rfl, o⟩
        exact ⟨by rw [e1]; rfl, _, o, hw, hl⟩
    · have e1 := (will_empty hw ht (.inl he)).2
      refine (next_err h he ht).mono ?_
      rintro e w' ⟨rfl, o⟩
      exact ⟨by rw [e1]; rfl, _, o, hw, hl⟩
  · obtain ⟨rs', e1, _⟩ := will_next hw ht
    exact absurd e1 (by simp)

/-- A new reader. -/
def rst0 : Rst := ⟨0, [], false, 0⟩

theorem wil_start (c : List Int) : Wil c rst0 (readB false c).1 (readB false c).2 :=
  ⟨.inr ⟨rfl, rfl, by simp [rst0, recsT_nil], by simp [rst0]⟩, by simp [rst0]⟩

set_option maxRecDepth 100000 in
set_option maxHeartbeats 4000000 in
theorem newReader_go (h : Dk w fd p l (upS R U k)) (hk : k ≤ 999998) (hnm : nm.size ≤ maxLen) {x : Ab} (hx : lookA l nm.data.toList = some x) (hlen : x.2.1.length ≤ 1000000000) :
    Calls Try.prog 23 #[.pointer (some ⟨p, 0, none⟩), .string nm] w fun e w' => ∃ q, e = .returned (.tuple #[.pointer (some ⟨q, 0, none⟩), .int .i64 0]) ∧ RkO w w' fd p q l R U k 1 nm x.2.1 rst0 := by
  have SZ := h.size (by simp only [upS]; omega) nm hnm
  have e1 : errA (beginA l (upS R U k)) nm.data.toList = none := by
    rw [begin_up]
    unfold errA
    rw [if_neg (by simp [upS])]
    dsimp only
    rw [hx]
  have e2 : sizeA (beginA l (upS R U k)) nm.data.toList = ((x.2.1.length : Int), 0) := by
    unfold sizeA
    rw [e1]
    dsimp only
    rw [begin_up]
    dsimp only
    rw [hx]
  rw [e2, begin_up] at SZ
  have HS := hide SZ
  obtain ⟨c, hc⟩ : ∃ c, c = x.2.1 := ⟨_, rfl⟩
  have HX : Hid (∃ x, lookA l nm.data.toList = some x ∧ c <+: x.2.1) := ⟨x, hx, by rw [hc]; exact List.prefix_refl _⟩
  rw [← hc] at HS hlen ⊢
  have HL := hide hlen
  clear SZ e1 e2 h hc hx hlen
  go_enter Try.func23, Try.ntmps23
  go_wp2_with fail
  refine HS.out.mono ?_
  rintro e w1 ⟨rfl, fd1, d1, k1, n1⟩
  go_wp2
  go_ret2
  have hlt := d1.lt
  have hb : Below w1.heap.size w1 (w1.alloc (.cells #[.pointer (some ⟨p, 0, none⟩), .string nm, .int .i64 (c.length : Int), .int .i64 0, .slice none 0 0, .bool false, .int .i64 0] 89)) := (Below.refl _ w1).alloc (Nat.le_refl _) _
  refine ⟨w1.heap.size, rfl, fd1, .slice none 0 0, k + 1, ⟨d1.below hb, HX.out, heap_alloc_new w1 _, IsB.nil _, Nat.zero_le _, HL.out, fun e => by have := hlt _ e; omega, fun h => absurd rfl h, fun h => absurd rfl h⟩, by omega, by omega, k1.alloc _, fun y hy => ?_⟩
  rcases rfp_mem.1 hy with hy | rfl | ⟨h0, _⟩
  · exact n1 y hy
  · exact .inr k1.size
  · exact absurd rfl h0

set_option maxRecDepth 100000 in
set_option maxHeartbeats 4000000 in
/-- .. of a file that there is not. -/
theorem newReader_no (h : Dk w fd p l (upS R U k)) (hk : k ≤ 999998) (hnm : nm.size ≤ maxLen) (hx : lookA l nm.data.toList = none) :
    Calls Try.prog 23 #[.pointer (some ⟨p, 0, none⟩), .string nm] w fun e w' => e = .returned (.tuple #[.pointer none, .int .i64 4]) ∧ Outc w w' fd p (l, upS R U (k + 1)) := by
  have SZ := h.size (by simp only [upS]; omega) nm hnm
  have e2 : sizeA (beginA l (upS R U k)) nm.data.toList = (0, 4) := by
    unfold sizeA errA
    rw [begin_up, if_neg (by simp [upS])]
    dsimp only
    rw [hx]
  rw [e2, begin_up] at SZ
  have HS := hide SZ
  clear SZ e2 h hx
  go_enter Try.func23, Try.ntmps23
  go_wp2_with fail
  refine HS.out.mono ?_
  rintro e w1 ⟨rfl, o1⟩
  go_wp2
  go_ret2
  exact ⟨rfl, o1⟩

set_option maxRecDepth 100000 in
set_option maxHeartbeats 4000000 in
theorem read_no (h : Dk w fd p l (upS R U k)) (hk : k ≤ 999998) (hnm : nm.size ≤ maxLen) (hx : lookA l nm.data.toList = none) :
    Calls Try.prog 18 #[.pointer (some ⟨p, 0, none⟩), .string nm] w fun e w' => e = .returned (.tuple #[.slice none 0 0, .int .i64 4]) ∧ Outc w w' fd p (l, upS R U (k + 1)) := by
  have NR := hide (newReader_no h hk hnm hx)
  clear h hx
  go_enter Try.func18, Try.ntmps18
  go_wp2_with fail
  refine NR.out.mono ?_
  rintro e w1 ⟨rfl, o1⟩
  go_wp2
  go_ret2
  exact ⟨rfl, o1⟩

end

end Go.Proofs.Ytdhajmgpakconaa

namespace Go.Proofs.Ytdhajmgpakconaa
open Go.RowKit Go.Maps

def lenS : Value → Nat | .slice _ n _ => n | _ => 0
theorem RowR.lenS {w : World} {v : Value} {l : List Rc} (h : RowR w v l) : lenS v = l.length := by
  rcases h.form with ⟨rfl, rfl⟩ | ⟨g, cap, rfl, _⟩ <;> rfl

/-- In the middle of Read: a reader, the row of what has been read, the box of the next one. -/
def RdL (w wr : World) (fd : List Nat) (bx : Nat) (v : Value) (y : Rc) (p q : Nat) (l : List Ab) (R U k0 : Int) (nm : ByteArray) (c : List Int) (st : Rst) (l0 : List Rc) : Prop :=
  ∃ fd' tv k', RkE wr fd' tv p q l R U k' nm c st ∧ k0 ≤ k' ∧ k' ≤ k0 + 2 * (l0.length : Int) + 3 ∧ RowR wr v l0 ∧ wr.heap[bx]? = some (.cells #[.int .u64 y.1, .int .u64 y.2] 48 (0, 0)) ∧ Kept fd w wr ∧ Newly w fd (rfp fd' q tv st.text) ∧
    bx ∉ rfp fd' q tv st.text ∧ w.heap.size ≤ bx ∧ ∀ z ∈ own v, z ∉ rfp fd' q tv st.text ∧ z ≠ bx ∧ w.heap.size ≤ z

section
variable {w : World} {fd : List Nat} {p : Nat} {l : List Ab} {R U k : Int} {nm : ByteArray}

/-- The first one. -/
theorem RdL.start {w2 : World} {q : Nat} {c : List Int} {st : Rst} {m : Int} (y : Rc) (h : RkO w w2 fd p q l R U k m nm c st) (hm : m ≤ 3) : RdL w (w2.alloc (.cells #[.int .u64 y.1, .int .u64 y.2] 48)) fd w2.heap.size (.slice none 0 0) y p q l R U k nm c st [] := by
  obtain ⟨fd', tv, k', E, h1, h2, K, N⟩ := h
  have hlt := E.lt
  exact ⟨fd', tv, k', E.below ((Below.refl _ w2).alloc (Nat.le_refl _) _), h1, by simp; omega, RowR.nil _, heap_alloc_new w2 _, K.alloc _, N, fun e => by have := hlt _ e; omega, K.size, by simp [own, Value.ownBlock]⟩

/-- One more. -/
theorem RdL.next {wr w4 w5 : World} {bx : Nat} {v v4 : Value} {y y2 : Rc} {q : Nat} {c : List Int} {st st' : Rst} {l0 : List Rc} {fd' : List Nat} {tv : Value} {k' : Int} (hk : k' ≤ k + 2 * (l0.length : Int) + 3) (hk0 : k ≤ k')
    (hrow : RowR w4 v4 (l0 ++ [y])) (hK : Kept fd w wr) (hN : Newly w fd (rfp fd' q tv st.text)) (hb : bx ∉ rfp fd' q tv st.text) (hbw : w.heap.size ≤ bx) (hbox : wr.heap[bx]? = some (.cells #[.int .u64 y.1, .int .u64 y.2] 48 (0, 0)))
    (hd : ∀ z ∈ own v, z ∉ rfp fd' q tv st.text ∧ z ≠ bx ∧ w.heap.size ≤ z) (k4 : Kept (own v) (wr.alloc (.cells #[.int .u64 y.1, .int .u64 y.2] 48)) w4) (n4 : Newly (wr.alloc (.cells #[.int .u64 y.1, .int .u64 y.2] 48)) (own v) (own v4))
    (hlt : ∀ z ∈ rfp fd' q tv st.text, z < wr.heap.size) (ho : RkO w4 w5 (rfp fd' q tv st.text) p q l R U k' 2 nm c st') :
    RdL w ((w5.setCell ⟨bx, 0, none⟩ (.int .u64 y2.1)).setCell ⟨bx, 1, none⟩ (.int .u64 y2.2)) fd bx v4 y2 p q l R U k nm c st' (l0 ++ [y]) := by
  obtain ⟨fd5, tv5, k5, E5, h1, h2, K5, N5⟩ := ho
  have hbl := heap_lt hbox
  have s4 := k4.size
  rw [World.size_alloc] at s4
  have hv4 : ∀ z ∈ own v4, z ∉ rfp fd' q tv st.text ∧ z ≠ bx ∧ w.heap.size ≤ z ∧ z < w4.heap.size := fun z hz => by
    have hz4 := hrow.low z hz
    rcases n4 z hz with e | e
    · exact ⟨(hd z e).1, (hd z e).2.1, (hd z e).2.2, hz4⟩
    · rw [World.size_alloc] at e
      exact ⟨fun e2 => by have := hlt z e2; omega, by omega, by have := hK.size; omega, hz4⟩
  have k14 : Kept (own v) wr w4 := ((Kept.refl _ wr).alloc _).trans k4 (Newly.refl _ _)
  have box4 := k14.heap9 hbox (fun e => (hd bx e).2.1 rfl)
  have box5 := K5.heap9 box4 hb
  have hb5 : bx ∉ rfp fd5 q tv5 st'.text := fun e => by
    rcases N5 bx e with e2 | e2
    · exact hb e2
    · omega
  have ks : Kept [bx] w5 ((w5.setCell ⟨bx, 0, none⟩ (.int .u64 y2.1)).setCell ⟨bx, 1, none⟩ (.int .u64 y2.2)) := ((Kept.refl _ w5).setCell (p := ⟨bx, 0, none⟩) (.inl (by simp)) _).setCell (p := ⟨bx, 1, none⟩) (.inl (by simp)) _
  have r5 : RowR w5 v4 (l0 ++ [y]) := hrow.kept K5 (fun z hz => (hv4 z hz).1)
  have kfd : Kept fd w w4 := hK.trans (fp' := own v) k14 (fun z hz => .inr (hd z hz).2.2)
  have hs : w.heap.size ≤ w4.heap.size := kfd.size
  refine ⟨fd5, tv5, k5, E5.kept ks (fun z hz e => by simp only [List.mem_singleton] at e; subst e; exact hb5 hz), by omega, by simp; omega, r5.kept ks (fun z hz e => by simp only [List.mem_singleton] at e; exact (hv4 z hz).2.1 e), ?_, ?_, ?_, hb5, hbw, fun z hz => ⟨fun e => ?_, (hv4 z hz).2.1, (hv4 z hz).2.2.1⟩⟩
  · have e := heap_setCell (heap_setCell box5 0 (.int .u64 y2.1)) 1 (.int .u64 y2.2)
    simpa using e
  · refine ((kfd.trans K5 hN).setCell (p := ⟨bx, 0, none⟩) (.inr hbw) _).setCell (p := ⟨bx, 1, none⟩) (.inr hbw) _
  · exact hN.trans N5 hs
  · rcases N5 z e with e2 | e2
    · exact (hv4 z hz).1 e2
    · have := (hv4 z hz).2.2.2; omega

/-- What Read leaves. -/
def ReadP (w : World) (fd : List Nat) (p : Nat) (l : List Ab) (R U k m : Int) (rs : List Rc) (er : Int) (e : Ending) (w' : World) : Prop :=
  ∃ v, e = .returned (.tuple #[v, .int .i64 er]) ∧ RowR w' v (if er = 0 then rs else []) ∧ ∃ fd' k', Dk w' fd' p l (upS R U k') ∧ k ≤ k' ∧ k' ≤ k + m ∧ Kept fd w w' ∧ Newly w fd fd' ∧ ∀ y ∈ own v, w.heap.size ≤ y ∧ y ∉ fd'

set_option maxRecDepth 100000 in
set_option maxHeartbeats 4000000 in
theorem read_go (h : Dk w fd p l (upS R U k)) (hnm : nm.size ≤ maxLen) {x : Ab} (hx : lookA l nm.data.toList = some x) (hlen : x.2.1.length ≤ 1000000000) {rs : List Rc} {er : Int} (hr : readB false x.2.1 = (rs, er)) (hok : ∀ y ∈ rs, okR y) (hk : k + 2 * (rs.length : Int) + 10 ≤ 999998) :
    Calls Try.prog 18 #[.pointer (some ⟨p, 0, none⟩), .string nm] w (ReadP w fd p l R U k (2 * (rs.length : Int) + 5) rs er) := by
  have NR := hide (newReader_go h (by omega) hnm hx hlen)
  have hws := wil_start x.2.1
  rw [hr] at hws
  obtain ⟨c, hc⟩ : ∃ c, c = x.2.1 := ⟨_, rfl⟩
  rw [← hc] at NR hws
  have HW := hide hws
  have HOK := hide hok
  have HK := hide hk
  obtain ⟨n, hn⟩ : ∃ n, n = rs.length := ⟨_, rfl⟩
  have HN := hide hn
  have HLN : Hid (n ≤ 1000000 ∨ True) := .inr trivial
  have hk0 : 0 ≤ k := by have := h.ok.ops; simpa [upS] using this
  have hnb : n ≤ 1000000 := by omega
  clear h hx hr hws hc hlen hok hn hk hk0 HLN
  go_enter Try.func18, Try.ntmps18
  go_wp2_with fail
  refine NR.out.mono ?_
  rintro e w1 ⟨q, rfl, o1⟩
  have H1 := hide o1
  -- the first Next
  have F : Hid (∃ (b : Bool) (y : Rc) (ev : Int), Hid (ev = if b then 0 else er) ∧ Calls Try.prog 24 #[.pointer (some ⟨q, 0, none⟩)] w1 fun e w' => e = .returned (.tuple #[.agg #[.int .u64 y.1, .int .u64 y.2], .bool b, .int .i64 ev]) ∧ ∃ st, RkO w w' fd p q l R U k 3 nm c st ∧ (b = true → ∃ rs', rs = y :: rs' ∧ Wil c st rs' er) ∧ (b = false → [] = rs)) := by
    obtain ⟨fd1, tv1, k1, E1, hk1, hk2, K1, N1⟩ := o1
    have hkb := HK.out
    have hrn : ∀ {w' : World} {st' : Rst}, RkO w1 w' (rfp fd1 q tv1 rst0.text) p q l R U k1 2 nm c st' → RkO w w' fd p q l R U k 3 nm c st' := fun ⟨fd', tv', k', E, a1, a2, K, N⟩ => ⟨fd', tv', k', E, by omega, by omega, K1.trans K N1, N1.trans N K1.size⟩
    cases hrs : rs with
    | nil =>
      refine ⟨false, (0, 0), er, rfl, (next_none (er := er) E1 (by have := HW.out; rw [hrs] at this; exact this) (by omega) hnm).mono ?_⟩
      rintro e w' ⟨rfl, st', o, hw⟩
      exact ⟨rfl, st', hrn o, fun h => by simp at h, fun _ => rfl⟩
    | cons y rs' =>
      refine ⟨true, y, 0, rfl, (next_some (x := y) (rs := rs') (er := er) E1 (by have := HW.out; rw [hrs] at this; exact this) (by omega) hnm).mono ?_⟩
      rintro e w' ⟨rfl, st', o, hw⟩
      exact ⟨rfl, st', hrn o, fun _ => ⟨rs', rfl, hw⟩, fun h => by simp at h⟩
  obtain ⟨b0, ⟨y1, y2⟩, ev0, HEV, F0⟩ := F.out
  have HF := hide F0
  clear F0 F H1 o1 HW
  dsimp only at HF
  go_wp2_with fail
  refine HF.out.mono ?_
  rintro e w2 ⟨rfl, st0, o2, ht, hf⟩
  have H2 := hide (RdL.start (y1, y2) o2 (by omega))
  have HTF := hide (And.intro ht hf)
  clear o2 ht hf HF
  go_wp2
  go_loopw [7, 8, 10] (fun v7 v8 v10 wr => ∃ (b : Bool) (y : Rc) (st : Rst) (l0 : List Rc) (ev : Int), v10 = .bool b ∧ v7 = .int .i64 ev ∧ Hid (ev = if b then 0 else er) ∧ Hid (RdL w wr fd w2.heap.size v8 y p q l R U k nm c st l0) ∧ Hid (b = true → ∃ rs', rs = l0 ++ y :: rs' ∧ Wil c st rs' er) ∧ Hid (b = false → l0 = rs)) (fun _ v8 _ _ => n + 1 - lenS v8)
  case atStart => exact ⟨b0, (y1, y2), st0, [], ev0, rfl, rfl, HEV, H2.out, HTF.out.1, HTF.out.2⟩
  case round =>
    obtain ⟨b, ⟨z1, z2⟩, st, l0, ev, rfl, rfl, HEV, HR, HT, HF⟩ := hrel
    cases b with
    | true =>
      obtain ⟨rs', hrs, hwil⟩ := HT.out rfl
      obtain ⟨fd', tv', k', E, hk1, hk2, hrow, hbox, hK, hN, hb, hbw, hd⟩ := HR.out
      have hzok : okR (z1, z2) := HOK.out _ (by rw [hrs]; simp)
      have hl0 : l0.length < n := by have := HN.out; rw [this, hrs]; simp
      have c1 := (cell_of_heap hbox 0).trans (rfl : _ = some (Value.int .u64 z1))
      have c2 := (cell_of_heap hbox 1).trans (rfl : _ = some (Value.int .u64 z2))
      have HE := hide (And.intro E (And.intro hk1 (And.intro hk2 (And.intro hK (And.intro hN (And.intro hb (And.intro hbw (And.intro hbox hd))))))))
      have HROW := hide hrow
      have HONE := hide (isR_one wr z1 z2 hzok)
      have HWIL := hide (And.intro hrs hwil)
      have HL0 := hide hl0
      have HLL : Hid (l0.length + [(z1, z2)].length ≤ 1099511627776) := by show _ ≤ _; simp; omega
      have hra : Hid (RowR (wr.alloc (.cells #[.int .u64 z1, .int .u64 z2] 48)) u8 l0) := hrow.kept ((Kept.refl [] wr).alloc _) (fun _ _ => by simp)
      clear hrs hwil E hrow hbox hK hN hb hbw hd hzok hk1 hk2 hl0
      go_wp2_with (at_builtin; refine wp_appendRc _ rfl _ _ rfl u8 (.slice (some ⟨wr.heap.size, 0, none⟩) 1 1) l0 [(z1, z2)] rfl hra.out rfl HONE.out HLL.out ?_; intro v4 w4 r4 k4 n4; have HR4 := hide r4; have HK4 := hide (And.intro k4 n4); clear r4 k4 n4)
      obtain ⟨E, hk1, hk2, hK, hN, hb, hbw, hbox, hd⟩ := HE.out
      obtain ⟨k4, n4⟩ := HK4.out
      have k14 : Kept (own u8) wr w4 := ((Kept.refl _ wr).alloc _).trans k4 (Newly.refl _ _)
      have E4 := E.kept k14 (fun z hz e => (hd z e).1 hz)
      have hkb := HK.out
      have hl0 := HL0.out
      have hnn := HN.out
      have F : Hid (∃ (b : Bool) (y : Rc) (ev : Int), Hid (ev = if b then 0 else er) ∧ Calls Try.prog 24 #[.pointer (some ⟨q, 0, none⟩)] w4 fun e w' => e = .returned (.tuple #[.agg #[.int .u64 y.1, .int .u64 y.2], .bool b, .int .i64 ev]) ∧ ∃ st', RkO w4 w' (rfp fd' q tv' st.text) p q l R U k' 2 nm c st' ∧ (b = true → ∃ rs'', rs = (l0 ++ [(z1, z2)]) ++ y :: rs'' ∧ Wil c st' rs'' er) ∧ (b = false → l0 ++ [(z1, z2)] = rs)) := by
        obtain ⟨hrs, hwil⟩ := HWIL.out
        cases hrs' : rs' with
        | nil =>
          refine ⟨false, (0, 0), er, rfl, (next_none (er := er) E4 (by rw [hrs'] at hwil; exact hwil) (by omega) hnm).mono ?_⟩
          rintro e w' ⟨rfl, st', o, hw⟩
          exact ⟨rfl, st', o, fun h => by simp at h, fun _ => by rw [hrs, hrs']⟩
        | cons y rs'' =>
          refine ⟨true, y, 0, rfl, (next_some (x := y) (rs := rs'') (er := er) E4 (by rw [hrs'] at hwil; exact hwil) (by omega) hnm).mono ?_⟩
          rintro e w' ⟨rfl, st', o, hw⟩
          exact ⟨rfl, st', o, fun _ => ⟨rs'', by rw [hrs, hrs']; simp, hw⟩, fun h => by simp at h⟩
      obtain ⟨b2, ⟨t1, t2⟩, ev2, HEV2, F0⟩ := F.out
      dsimp only at F0
      have HF2 := hide F0
      have HNX := hide (fun (w5 : World) (st' : Rst) (o : RkO w4 w5 (rfp fd' q tv' st.text) p q l R U k' 2 nm c st') => RdL.next (y2 := (t1, t2)) hk2 hk1 HR4.out hK hN hb hbw hbox hd k4 n4 E.lt o)
      have hb4 : w4.heap[w2.heap.size]? = some (.cells #[.int .u64 z1, .int .u64 z2] 48 (0, 0)) := k14.heap9 hbox (fun e => (hd _ e).2.1 rfl)
      have HB4 := hide (And.intro hb4 hb)
      clear F0 F E hk1 hk2 hK hN hb hbw hbox hd k4 n4 k14 E4 hkb hl0 hnn hb4 c1 c2
      go_wp2_with fail
      refine HF2.out.mono ?_
      rintro e w5 ⟨rfl, st', o5, ht, hf⟩
      have hb5 : w5.heap[w2.heap.size]? = some (.cells #[.int .u64 z1, .int .u64 z2] 48 (0, 0)) := by
        obtain ⟨_, _, _, _, _, _, K5, _⟩ := o5
        exact K5.heap9 HB4.out.1 HB4.out.2
      have d1 := (cell_of_heap hb5 0).trans (rfl : _ = some (Value.int .u64 z1))
      have d2 := (cell_of_heap hb5 1).trans (rfl : _ = some (Value.int .u64 z2))
      have d3 := fun o => frozen_of_heap hb5 o
      have HO5 := hide (HNX.out w5 st' o5)
      have HTF2 := hide (And.intro ht hf)
      clear o5 ht hf hb5
      go_wp2
      go_roundw
      case rel => exact ⟨b2, (t1, t2), st', l0 ++ [(z1, z2)], ev2, rfl, rfl, HEV2, HO5.out, HTF2.out.1, HTF2.out.2⟩
      case measure =>
        have e1 := HR4.out.lenS
        have e2 := HROW.out.lenS
        have := HL0.out
        rw [e1, e2, List.length_append, List.length_singleton]
        omega
    | false =>
      have hl := HF.out rfl
      subst hl
      obtain rfl : ev = er := HEV.out
      obtain ⟨fd', tv', k', E, hk1, hk2, hrow, hbox, hK, hN, hb, hbw, hd⟩ := HR.out
      have HE := hide (And.intro E (And.intro hk1 (And.intro hk2 (And.intro hrow (And.intro hK (And.intro hN hd))))))
      clear E hk1 hk2 hrow hbox hK hN hb hbw hd
      have hsub : Hid (∀ {z : Nat}, z ∈ fd' → z ∈ rfp fd' q tv' st.text) := fun hz => rfp_mem.2 (.inl hz)
      by_cases he : ev = 0
      · subst he
        go_wp2
        go_ret2
        obtain ⟨E, hk1, hk2, hrow, hK, hN, hd⟩ := HE.out
        exact ⟨u8, rfl, hrow, fd', k', E.disk, hk1, by omega, hK, fun z hz => hN z (hsub.out hz), fun z hz => ⟨(hd z hz).2.2, fun e => (hd z hz).1 (hsub.out e)⟩⟩
      · go_wp2
        go_ret2
        obtain ⟨E, hk1, hk2, hrow, hK, hN, hd⟩ := HE.out
        refine ⟨_, rfl, ?_, fd', k', E.disk, hk1, by omega, hK, fun z hz => hN z (hsub.out hz), by simp [own, Value.ownBlock]⟩
        rw [if_neg he]
        exact RowR.nil _

end

end Go.Proofs.Ytdhajmgpakconaa

namespace Go.Proofs.Ytdhajmgpakconaa
open Go.RowKit Go.Maps

/-- The blocks hs stay. -/
def Hld (hs : List Nat) (w w' : World) : Prop := ∃ fp, Kept fp w w' ∧ ∀ x ∈ hs, x ∉ fp

theorem RowR.hld {w w' : World} {hs : List Nat} {v : Value} {l : List Rc} (h : RowR w v l) (k : Hld hs w w') (hv : ∀ x ∈ own v, x ∈ hs) : RowR w' v l := by
  obtain ⟨fp, k, a⟩ := k
  exact h.kept k (fun x hx => a x (hv x hx))
theorem RowB.hld {w w' : World} {hs : List Nat} {v : Value} {l : List Int} (h : RowB w v l) (k : Hld hs w w') (hv : ∀ x ∈ own v, x ∈ hs) : RowB w' v l := by
  obtain ⟨fp, k, a⟩ := k
  exact h.kept k (fun x hx => a x (hv x hx))
theorem RowK.hld {w w' : World} {hs : List Nat} {v : Value} {l : List Bool} (h : RowK w v l) (k : Hld hs w w') (hv : ∀ x ∈ own v, x ∈ hs) : RowK w' v l := by
  obtain ⟨fp, k, a⟩ := k
  exact h.kept k (fun x hx => a x (hv x hx))
theorem Hld.below {hs : List Nat} {w w' : World} (h : Below w.heap.size w w') : Hld hs w w' := ⟨[], Kept.of_below h, by simp⟩

/-- A disk of the call's own, beside which the blocks hs are held. -/
def Lw (w0 w : World) (p : Nat) (A : Dsk) (hs : List Nat) : Prop :=
  ∃ fp, Dk w fp p A.1 A.2 ∧ Below w0.heap.size w0 w ∧ (∀ x ∈ fp, w0.heap.size ≤ x) ∧ ∀ x ∈ hs, x ∉ fp ∧ x < w.heap.size

section
variable {w0 w w' : World} {p : Nat} {A : Dsk} {hs : List Nat}

theorem Lw.bel (h : Lw w0 w p A hs) : Below w0.heap.size w0 w := by
  obtain ⟨fp, d, b, f, a⟩ := h
  exact b
theorem Lw.size0 (h : Lw w0 w p A hs) : w0.heap.size ≤ w.heap.size := h.bel.size

theorem Lw.below (h : Lw w0 w p A hs) (hb : Below w.heap.size w w') : Lw w0 w' p A hs := by
  obtain ⟨fp, d, b, f, a⟩ := h
  exact ⟨fp, d.below hb, b.trans (hb.mono b.size), f, fun x hx => ⟨(a x hx).1, Nat.lt_of_lt_of_le (a x hx).2 hb.size⟩⟩

theorem Lw.sub {hs' : List Nat} (h : Lw w0 w p A hs) (k : ∀ x ∈ hs', x ∈ hs) : Lw w0 w p A hs' := by
  obtain ⟨fp, d, b, f, a⟩ := h
  exact ⟨fp, d, b, f, fun x hx => a x (k x hx)⟩

/-- What is new is held from now on. -/
theorem Lw.hold {hs' : List Nat} (h : Lw w0 w p A hs) (hb : Below w.heap.size w w') (hn : ∀ x ∈ hs', w.heap.size ≤ x ∧ x < w'.heap.size) : Lw w0 w' p A (hs' ++ hs) := by
  obtain ⟨fp, d, b, f, a⟩ := h
  have hlt := d.lt
  refine ⟨fp, d.below hb, b.trans (hb.mono b.size), f, fun x hx => ?_⟩
  rcases List.mem_append.1 hx with hx | hx
  · exact ⟨fun e => by have := hlt x e; have := (hn x hx).1; omega, (hn x hx).2⟩
  · exact ⟨(a x hx).1, Nat.lt_of_lt_of_le (a x hx).2 hb.size⟩

/-- An operation of the disk. -/
theorem Lw.op {B : Dsk} {fp : List Nat} (b : Below w0.heap.size w0 w) (f : ∀ x ∈ fp, w0.heap.size ≤ x) (a : ∀ x ∈ hs, x ∉ fp ∧ x < w.heap.size) (o : Outc w w' fp p B) : Lw w0 w' p B hs ∧ Hld hs w w' := by
  obtain ⟨fp', d', k, n⟩ := o
  refine ⟨⟨fp', d', b.trans (k.below b.size f), fun x hx => ?_, fun x hx => ⟨fun e => ?_, Nat.lt_of_lt_of_le (a x hx).2 k.size⟩⟩, fp, k, fun x hx => (a x hx).1⟩
  · rcases n x hx with e | e
    · exact f x e
    · have := b.size; omega
  · rcases n x e with e | e
    · exact (a x hx).1 e
    · have := (a x hx).2; omega

theorem Lw.new (room : Int) (hr : 0 ≤ room ∧ room ≤ 67108864) (hb : Below w0.heap.size w0 w) (hh : ∀ x ∈ hs, x < w.heap.size) : Calls Try.prog 11 #[.int .i64 room] w fun e w' => ∃ p, e = .returned (.pointer (some ⟨p, 0, none⟩)) ∧ Lw w0 w' p ([], upS room 0 0) hs ∧ Below w.heap.size w w' := by
  refine (new_dk room hr.2 w).mono ?_
  rintro e w' ⟨rfl, fp, d, b, f⟩
  rw [show max room 0 = room by omega] at d
  refine ⟨_, rfl, ⟨fp, d, hb.trans (b.mono hb.size), fun x hx => Nat.le_trans hb.size (f x hx), fun x hx => ⟨fun e => ?_, Nat.lt_of_lt_of_le (hh x hx) b.size⟩⟩, b⟩
  have := f x e
  have := hh x hx
  omega

theorem Lw.write (h : Lw w0 w p A hs) (nm : ByteArray) (hnm : nm.size ≤ maxLen) {v : Value} {l : List Rc} (hn : A.2.ops + l.length + 10 ≤ 1000000) (hv : IsR w v l) (hvd : l ≠ [] → ∀ x ∈ own v, x ∈ hs) {k : Int} {B : Dsk} (hB : writeW A nm.data.toList l = (k, B)) :
    Calls Try.prog 12 #[.pointer (some ⟨p, 0, none⟩), .string nm, v] w fun e w' => e = .returned (.int .i64 k) ∧ Lw w0 w' p B hs ∧ Hld hs w w' := by
  obtain ⟨fp, d, b, f, a⟩ := h
  refine (recWrite_any d nm hnm hn hv (fun hne x hx => (a x (hvd hne x hx)).1) hB).mono ?_
  rintro e w' ⟨rfl, o⟩
  exact ⟨rfl, Lw.op b f a o⟩

theorem Lw.size (h : Lw w0 w p A hs) (hn : A.2.ops ≤ 1000000) (nm : ByteArray) (hnm : nm.size ≤ maxLen) {m k : Int} {B : Dsk} (hB : beginA A.1 A.2 = B) (hm : sizeA B nm.data.toList = (m, k)) :
    Calls Try.prog 16 #[.pointer (some ⟨p, 0, none⟩), .string nm] w fun e w' => e = .returned (.tuple #[.int .i64 m, .int .i64 k]) ∧ Lw w0 w' p B hs ∧ Hld hs w w' := by
  obtain ⟨fp, d, b, f, a⟩ := h
  refine (d.size hn nm hnm).mono ?_
  rintro e w' ⟨rfl, o⟩
  rw [hB] at o ⊢
  rw [hm]
  exact ⟨rfl, Lw.op b f a o⟩

theorem Lw.create (h : Lw w0 w p A hs) (hn : A.2.ops ≤ 1000000) (nm : ByteArray) (hnm : nm.size ≤ maxLen) {k : Int} {B : Dsk} (hB : createA (beginA A.1 A.2) nm.data.toList = (k, B)) :
    Calls Try.prog 20 #[.pointer (some ⟨p, 0, none⟩), .string nm] w fun e w' => e = .returned (.int .i64 k) ∧ Lw w0 w' p B hs ∧ Hld hs w w' := by
  obtain ⟨fp, d, b, f, a⟩ := h
  refine (d.create hn nm hnm).mono ?_
  rintro e w' ⟨rfl, o⟩
  rw [hB] at o ⊢
  exact ⟨rfl, Lw.op b f a o⟩

theorem Lw.append (h : Lw w0 w p A hs) (hn : A.2.ops ≤ 1000000) (nm : ByteArray) (hnm : nm.size ≤ maxLen) (u : Value) (cs : List Int) (hu : IsB w u cs) (hcl : cs.length ≤ 1073741824) (hux : cs ≠ [] → ∀ x ∈ own u, x < w0.heap.size) {k : Int} {B : Dsk} (hB : appendA (beginA A.1 A.2) nm.data.toList cs = (k, B)) :
    Calls Try.prog 21 #[.pointer (some ⟨p, 0, none⟩), .string nm, u] w fun e w' => e = .returned (.int .i64 k) ∧ Lw w0 w' p B hs ∧ Hld hs w w' := by
  obtain ⟨fp, d, b, f, a⟩ := h
  refine (d.append hn nm hnm u cs hu hcl (fun hne x hx e => by have := hux hne x hx; have := f x e; omega)).mono ?_
  rintro e w' ⟨rfl, o⟩
  rw [hB] at o ⊢
  exact ⟨rfl, Lw.op b f a o⟩

theorem Lw.crash (h : Lw w0 w p A hs) (hn : A.2.ops ≤ 1048576) {B : Dsk} (hB : crashA [] A.1 A.2 = B) : Calls Try.prog 13 #[.pointer (some ⟨p, 0, none⟩), .slice none 0 0] w fun e w' => e = .returned (.tuple #[]) ∧ Lw w0 w' p B hs ∧ Hld hs w w' := by
  obtain ⟨fp, d, b, f, a⟩ := h
  refine (d.crash hn _ [] (IsK.nil _) (fun h => absurd rfl h) (Nat.zero_le _)).mono ?_
  rintro e w' ⟨rfl, o⟩
  rw [hB] at o
  exact ⟨rfl, Lw.op b f a o⟩

theorem Lw.restart (h : Lw w0 w p A hs) : Calls Try.prog 14 #[.pointer (some ⟨p, 0, none⟩)] w fun e w' => e = .returned (.tuple #[]) ∧ Lw w0 w' p (A.1, { A.2 with down := false }) hs ∧ Hld hs w w' := by
  obtain ⟨fp, d, b, f, a⟩ := h
  refine d.restart.mono ?_
  rintro e w' ⟨rfl, o⟩
  exact ⟨rfl, Lw.op b f a o⟩

theorem Lw.arm (h : Lw w0 w p A hs) (n : Int) (hn : n ≤ 9223372036854775807) (u : Value) (ks : List Bool) (hu : IsK w u ks) (hux : ks ≠ [] → ∀ x ∈ own u, x ∈ hs) (hkl : ks.length ≤ 1099511627776) {B : Dsk} (hB : armA A.1 A.2 n ks = B) :
    Calls Try.prog 29 #[.pointer (some ⟨p, 0, none⟩), .int .i64 n, u] w fun e w' => e = .returned (.tuple #[]) ∧ Lw w0 w' p B hs ∧ Hld hs w w' := by
  obtain ⟨fp, d, b, f, a⟩ := h
  refine (d.arm n hn u ks hu (fun hne x hx => (a x (hux hne x hx)).1) hkl).mono ?_
  rintro e w' ⟨rfl, o⟩
  rw [hB] at o
  exact ⟨rfl, Lw.op b f a o⟩

theorem Lw.down (h : Lw w0 w p A hs) : Calls Try.prog 30 #[.pointer (some ⟨p, 0, none⟩)] w fun e w' => e = .returned (.bool A.2.down) ∧ w' = w := by
  obtain ⟨fp, d, _⟩ := h
  exact d.down
theorem Lw.used (h : Lw w0 w p A hs) : Calls Try.prog 28 #[.pointer (some ⟨p, 0, none⟩)] w fun e w' => e = .returned (.int .i64 A.2.used) ∧ w' = w := by
  obtain ⟨fp, d, _⟩ := h
  exact d.used

/-- ReadAt, of all bytes of a file. -/
theorem Lw.readAll {l : List Ab} {R U k : Int} (h : Lw w0 w p (l, upS R U k) hs) (hk : k ≤ 999999) (nm : ByteArray) (hnm : nm.size ≤ maxLen) {x : Ab} (hx : lookA l nm.data.toList = some x) (n : Nat) (hn : n = x.2.1.length) :
    Calls Try.prog 17 #[.pointer (some ⟨p, 0, none⟩), .string nm, .int .i64 0, .int .i64 (n : Int)] w fun e w' => ∃ v, e = .returned (.tuple #[v, .int .i64 0]) ∧ RowB w' v x.2.1 ∧ Lw w0 w' p (l, upS R U (k + 1)) (own v ++ hs) ∧ Hld hs w w' := by
  obtain ⟨fp, d, b, f, a⟩ := h
  have e1 : errA (beginA l (upS R U k)) nm.data.toList = none := by
    rw [begin_up]
    unfold errA
    rw [if_neg (by simp [upS])]
    dsimp only
    rw [hx]
  refine (d.read (by simp only [upS]; omega) nm hnm e1 (by rw [begin_up]; exact hx) 0 n (by omega)).mono ?_
  rintro e w' ⟨v, rfl, r, fp', d', k', n', y⟩
  rw [List.drop_zero, List.take_of_length_le (by omega)] at r
  rw [begin_up] at d'
  obtain ⟨⟨fp2, d2, b2, f2, a2⟩, hh⟩ := Lw.op (hs := hs) (B := (l, upS R U (k + 1))) b f a ⟨fp', d', k', n'⟩
  refine ⟨v, rfl, r, ⟨fp', d', b2, fun x hx => ?_, fun x hx => ?_⟩, hh⟩
  · rcases n' x hx with e | e
    · exact f x e
    · have := b.size; omega
  · rcases List.mem_append.1 hx with hx | hx
    · exact ⟨(y x hx).2, r.lt x hx⟩
    · refine ⟨fun e => ?_, Nat.lt_of_lt_of_le (a x hx).2 k'.size⟩
      rcases n' x e with e | e
      · exact (a x hx).1 e
      · have := (a x hx).2; omega

/-- Read. -/
theorem Lw.read {l : List Ab} {R U k : Int} (h : Lw w0 w p (l, upS R U k) hs) (nm : ByteArray) (hnm : nm.size ≤ maxLen) {x : Ab} (hx : lookA l nm.data.toList = some x) (hlen : x.2.1.length ≤ 1000000000) {rs : List Rc} {er : Int} (hr : readB false x.2.1 = (rs, er)) (hok : ∀ y ∈ rs, okR y) (hk : k + 2 * (rs.length : Int) + 10 ≤ 999998) :
    Calls Try.prog 18 #[.pointer (some ⟨p, 0, none⟩), .string nm] w fun e w' => ∃ v k', e = .returned (.tuple #[v, .int .i64 er]) ∧ RowR w' v (if er = 0 then rs else []) ∧ Lw w0 w' p (l, upS R U k') (own v ++ hs) ∧ Hld hs w w' ∧ k ≤ k' ∧ k' ≤ k + 2 * (rs.length : Int) + 5 := by
  obtain ⟨fp, d, b, f, a⟩ := h
  refine (read_go d hnm hx hlen hr hok hk).mono ?_
  rintro e w' ⟨v, rfl, r, fp', k', d', h1, h2, k2, n', y⟩
  obtain ⟨⟨fp2, d2, b2, f2, a2⟩, hh⟩ := Lw.op (hs := hs) (B := (l, upS R U k')) b f a ⟨fp', d', k2, n'⟩
  refine ⟨v, k', rfl, r, ⟨fp', d', b2, fun x hx => ?_, fun x hx => ?_⟩, hh, h1, by omega⟩
  · rcases n' x hx with e | e
    · exact f x e
    · have := b.size; omega
  · rcases List.mem_append.1 hx with hx | hx
    · exact ⟨(y x hx).2, r.low x hx⟩
    · refine ⟨fun e => ?_, Nat.lt_of_lt_of_le (a x hx).2 k2.size⟩
      rcases n' x e with e | e
      · exact (a x hx).1 e
      · have := (a x hx).2; omega

/-- .. of a file that there is not. -/
theorem Lw.read_no {l : List Ab} {R U k : Int} (h : Lw w0 w p (l, upS R U k) hs) (nm : ByteArray) (hnm : nm.size ≤ maxLen) (hx : lookA l nm.data.toList = none) (hk : k ≤ 999998) :
    Calls Try.prog 18 #[.pointer (some ⟨p, 0, none⟩), .string nm] w fun e w' => e = .returned (.tuple #[.slice none 0 0, .int .i64 4]) ∧ Lw w0 w' p (l, upS R U (k + 1)) hs ∧ Hld hs w w' := by
  obtain ⟨fp, d, b, f, a⟩ := h
  refine (Go.Proofs.Ytdhajmgpakconaa.read_no d hk hnm hx).mono ?_
  rintro e w' ⟨rfl, o⟩
  exact ⟨rfl, Lw.op b f a o⟩

theorem Lw.newReader_no {l : List Ab} {R U k : Int} (h : Lw w0 w p (l, upS R U k) hs) (nm : ByteArray) (hnm : nm.size ≤ maxLen) (hx : lookA l nm.data.toList = none) (hk : k ≤ 999998) :
    Calls Try.prog 23 #[.pointer (some ⟨p, 0, none⟩), .string nm] w fun e w' => e = .returned (.tuple #[.pointer none, .int .i64 4]) ∧ Lw w0 w' p (l, upS R U (k + 1)) hs ∧ Hld hs w w' := by
  obtain ⟨fp, d, b, f, a⟩ := h
  refine (Go.Proofs.Ytdhajmgpakconaa.newReader_no d hk hnm hx).mono ?_
  rintro e w' ⟨rfl, o⟩
  exact ⟨rfl, Lw.op b f a o⟩

end

/-! ### few -/

theorem min160 (len : Nat) : ∃ m : Nat, m = min len 160 ∧ (∀ (ts : Array TypeId) (t : TypeId) (w : World), (Builtin.min_ ts t #[.int .i64 (len : Int), .int .i64 160]).run Try.prog w = .ok (.int .i64 (m : Int)) w) :=
  ⟨min len 160, rfl, fun ts t w => min_len len 160 160 rfl ts t w⟩

set_option maxRecDepth 100000 in
set_option maxHeartbeats 1000000 in
theorem few9_any {w : World} {v : Value} {l : List Rc} (h : IsR w v l) (hl : l.length ≤ 9223372036854775807) :
    Calls Try.prog 10 #[v] w fun e w' => ∃ v', e = .returned v' ∧ RowR w' v' (l.take 160) ∧ Below w.heap.size w w' ∧ (∀ x ∈ own v', w.heap.size ≤ x) := by
  obtain ⟨a, cap, rfl, hcap⟩ := h.form
  obtain ⟨n, hn, hmin⟩ := min160 l.length
  have hnl : n ≤ l.length := by omega
  have ht : l.take 160 = l.take n := by
    rw [hn, List.take_eq_take_iff]
    omega
  have R0 := hide (rowR_empty w)
  have I1 := hide ((h.take n hnl).alloc (.cells #[] 48))
  have HL : Hid (([] : List Rc).length + (l.take n).length ≤ 1099511627776) := by show _ ≤ _; simp; omega
  have hmi : min (l.length : Int) 160 = (n : Int) := by omega
  have HT := hide ht
  clear h ht hn
  go_enter Try.func10, Try.ntmps10
  go_wp2_with (first | (at_builtin; refine wp_appendRc _ rfl _ _ rfl (.slice (some ⟨w.heap.size, 0, none⟩) 0 0) (.slice a n cap) [] (l.take n) rfl R0.out rfl I1.out HL.out ?_; intro v' w' hrow hk hn) | go_in)
  go_ret
  refine ⟨v', rfl, by rw [HT.out]; simpa using hrow, ((Below.refl _ w).alloc (Nat.le_refl _) _).trans (hk.below (by simp) (by simp [Value.ownBlock])), fun x hx => ?_⟩
  rcases hn x hx with h | h
  · simp [Value.ownBlock] at h
    omega
  · simp at h
    omega

end Go.Proofs.Ytdhajmgpakconaa

namespace Go.Proofs.Ytdhajmgpakconaa
open Go.RowKit Go.Maps

section
variable {w0 w : World} {p : Nat} {hs : List Nat} {l0 : List Ab} {R U k : Int}

/-- Write, of records for which there is room. -/
theorem Lw.write_ok (h : Lw w0 w p (l0, upS R U k) hs) (nm : ByteArray) (hnm : nm.size ≤ maxLen) (hno : lookA l0 nm.data.toList = none) (hm : mayB nm.data.toList = true) {v : Value} {l : List Rc} (hU : U ≤ R) (hfit : U + sec (fileB l).length ≤ R)
    (hn : k + l.length + 10 ≤ 1000000) (hv : IsR w v l) (hvd : l ≠ [] → ∀ x ∈ own v, x ∈ hs) :
    Calls Try.prog 12 #[.pointer (some ⟨p, 0, none⟩), .string nm, v] w fun e w' => ∃ k', e = .returned (.int .i64 0) ∧ Lw w0 w' p (insA l0 (nm.data.toList, fileB l, fileB l), upS R (U + sec (fileB l).length) k') hs ∧ Hld hs w w' ∧ k < k' ∧ k' ≤ k + l.length + 3 := by
  obtain ⟨k', G, e, hG, h1, h2⟩ := write_up (R := R) (U := U) (k := k) hno hm hU l
  rw [if_pos hfit] at e
  refine (h.write nm hnm (by simp only [upS]; omega) hv hvd e).mono ?_
  rintro e w' ⟨rfl, a, b⟩
  exact ⟨k', rfl, a, b, h1, h2⟩

/-- .. of a file that is there. -/
theorem Lw.write_is (h : Lw w0 w p (l0, upS R U k) hs) (nm : ByteArray) (hnm : nm.size ≤ maxLen) {x : Ab} (hx : lookA l0 nm.data.toList = some x) (hm : mayB nm.data.toList = true) {v : Value} {l : List Rc}
    (hn : k + l.length + 10 ≤ 1000000) (hv : IsR w v l) (hvd : l ≠ [] → ∀ x ∈ own v, x ∈ hs) :
    Calls Try.prog 12 #[.pointer (some ⟨p, 0, none⟩), .string nm, v] w fun e w' => e = .returned (.int .i64 5) ∧ Lw w0 w' p (l0, upS R U (k + 1)) hs ∧ Hld hs w w' :=
  h.write nm hnm (by simp only [upS]; omega) hv hvd (Go.Proofs.Ytdhajmgpakconaa.write_is hx hm l)
end

theorem IsR.empty (w : World) : IsR w (.slice none 0 0) [] := ⟨none, 0, rfl, Nat.le_refl _, fun _ => ⟨rfl, rfl⟩, by simp, by simp⟩
theorem nmF : (⟨#[102]⟩ : ByteArray).size ≤ maxLen := by show 1 ≤ maxLen; unfold maxLen; omega
theorem nmG : (⟨#[103]⟩ : ByteArray).size ≤ maxLen := by show 1 ≤ maxLen; unfold maxLen; omega
theorem nmA : (⟨#[97]⟩ : ByteArray).size ≤ maxLen := by show 1 ≤ maxLen; unfold maxLen; omega
theorem nmB : (⟨#[98]⟩ : ByteArray).size ≤ maxLen := by show 1 ≤ maxLen; unfold maxLen; omega

set_option maxRecDepth 100000 in
set_option maxHeartbeats 4000000 in
theorem shown9_any (w : World) : Calls Try.prog 9 #[] w fun e w' => e = .returned (.bool true) ∧ Below w.heap.size w w' := by
  obtain ⟨c, hc⟩ : ∃ c, c = fileB [(5, 6)] := ⟨_, rfl⟩
  have hcl : c.length = 22 := by rw [hc, fileB_length]; rfl
  have hok : ∀ y ∈ [((5 : Int), (6 : Int))], okR y := by intro y hy; simp at hy; subst hy; exact ⟨⟨by decide, by decide⟩, by decide, by decide⟩
  have hrd : readB false c = ([(5, 6)], 0) := by rw [hc]; exact readB_file _ hok
  have HC := hide hc
  have HCL := hide hcl
  have HOK := hide hok
  have HRD := hide hrd
  clear hc hcl hok hrd
  go_enter Try.func9, Try.ntmps9
  go_wp2_with fail
  refine (Lw.new (w0 := w) (w := w) (hs := []) 100 (by omega) (Below.refl _ _) (by simp)).mono ?_
  rintro e w1 ⟨p, rfl, L1, b1⟩
  have HL1 := hide (L1.hold (hs' := [w1.heap.size]) ((Below.refl _ w1).alloc (Nat.le_refl _) (.cells #[.int .u64 5, .int .u64 6] 48)) (by simp))
  have HI1 := hide (isR_one w1 5 6 ⟨⟨by decide, by decide⟩, by decide, by decide⟩)
  clear L1 b1
  go_wp2_with fail
  refine (HL1.out.write_ok ⟨#[102]⟩ nmF rfl rfl (by omega) (by rw [← HC.out, HCL.out]; decide) (by simp) HI1.out (by intro _ x hx; simpa [own, Value.ownBlock] using hx)).mono ?_
  rintro e w2 ⟨k2, rfl, L2, _, hk2, hk2'⟩
  rw [← HC.out] at L2
  have e2 : insA [] ((⟨#[102]⟩ : ByteArray).data.toList, c, c) = [([102], c, c)] := rfl
  rw [e2] at L2
  simp only [List.length_cons, List.length_nil] at hk2'
  have HL2 := hide (L2.sub (hs' := []) (by simp))
  clear L2 HL1 HI1 e2
  go_wp2_with fail
  refine (HL2.out.read ⟨#[102]⟩ nmF (x := ([102], c, c)) rfl (by rw [HCL.out]; omega) HRD.out HOK.out (by simp; omega)).mono ?_
  rintro e w3 ⟨v3, k3, rfl, r3, L3, _, hk3, hk3'⟩
  simp only [List.length_cons, List.length_nil] at hk3'
  rw [if_pos rfl] at r3
  obtain ⟨g, cap, rfl, _⟩ := r3.blk (by simp)
  have HL3 := hide L3
  have HR3 := hide r3
  clear L3 r3
  go_wp2_with fail
  refine (HL3.out.size (by simp only [upS]; omega) ⟨#[102]⟩ nmF (m := 22) (k := 0) (begin_up _ _ _ _) (by have := HCL.out; simp [sizeA, errA, upS, lookA, this])).mono ?_
  rintro e w4 ⟨rfl, L4, d4⟩
  have r4 := HR3.out.hld d4 (by simp)
  have HL4 := hide L4
  have HR4 := hide r4
  clear L4 r4 HL3 HR3
  go_wp2_with fail
  refine (HL4.out.read_no ⟨#[103]⟩ nmG (by simp [lookA]) (by omega)).mono ?_
  rintro e w5 ⟨rfl, L5, d5⟩
  have r5 := HR4.out.hld d5 (by simp)
  have HL5 := hide L5
  have HR5 := hide r5
  clear L5 r5 HL4 HR4
  go_wp2_with fail
  refine (HL5.out.write_is ⟨#[102]⟩ nmF (x := ([102], c, c)) (by simp [lookA]) rfl (by simp; omega) (IsR.empty _) (by simp)).mono ?_
  rintro e w6 ⟨rfl, L6, d6⟩
  have r6 := HR5.out.hld d6 (by simp)
  obtain ⟨_, c6⟩ := r6.cell2 0 (by simp)
  simp only [Nat.zero_mul, Nat.zero_add] at c6
  have c6' : w6.cell? ⟨g, 1, none⟩ = some (.int .u64 6) := c6
  have HL6 := hide L6
  clear L6 r6 HL5 HR5 c6
  go_wp2
  go_ret
  exact ⟨rfl, HL6.out.bel⟩

end Go.Proofs.Ytdhajmgpakconaa
