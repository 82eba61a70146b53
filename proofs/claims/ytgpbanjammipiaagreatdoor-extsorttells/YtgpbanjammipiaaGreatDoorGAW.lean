/-
  Lemma texts, one behind the other: XUndo, XChunk, XRange, XPassP, XPassR, XChunkR. No statement of the seat is proved here.
-/
import Derived.Test.YtgpbanjammipiaaGreatDoorGAV
import Derived.Shelf.Abstract
import Derived.Shelf.RegionOpen
import Derived.WalkKit
import Derived.TacticsInMore
import Derived.LoopNIn
import Derived.LoopIn
import Derived.RangeFuncWrites
import Derived.Test.YtgpbanjammipiaaGreatDoorGAR
namespace Go.Proofs.YtgpbanjammipiaaGreatDoor
open Go.RowKit Go.Maps

/-- What undo leaves. -/
def UndoP (k : Skn) (A0 : Dsk) (w : World) (fd0 : List Nat) (o0 o1 : Int) (e : Ending) (w' : World) : Prop :=
  e = .returned (.tuple #[]) ∧ ∃ B fd, Dk w' fd k.p B.1 B.2 ∧ Kept fd0 w w' ∧ Newly w fd0 fd ∧ o0 ≤ B.2.ops ∧ B.2.ops ≤ o1 ∧ Ext A0 B []

section
variable {w w' wr : World} {sp : Nat} {k : Skn} {A0 A : Dsk} {fd0 fd : List Nat} {cnt : Nat} {hv rv : Value} {H : List Rc} {R : List Nat} {last : Nat} {E : List Ab} {out : ByteArray}

/-- A file by its name is first. -/
theorem ext_first {n : List UInt8} {ns : List (List UInt8)} (hx : Ext A0 A E) (hp : (E.map (·.1)).Perm (n :: ns)) : ∃ x E', x.1 = n ∧ Ext A0 A (x :: E') ∧ (E'.map (·.1)).Perm ns := by
  have hm : n ∈ E.map (·.1) := hp.mem_iff.2 (List.mem_cons_self ..)
  obtain ⟨x, hx2, rfl⟩ := List.mem_map.1 hm
  obtain ⟨a, b, rfl⟩ := List.append_of_mem hx2
  have hpm : (a ++ x :: b).Perm (x :: (a ++ b)) := List.perm_middle
  refine ⟨x, a ++ b, rfl, hx.perm hpm, ?_⟩
  have := (hpm.map (·.1)).symm.trans hp
  rw [List.map_cons] at this
  exact this.cons_inv

/-- A file goes, where no crash can come. -/
theorem ext_remove {n : List UInt8} {ns : List (List UInt8)} (hx : Ext A0 A E) (hp : (E.map (·.1)).Perm (n :: ns)) (hcalm : A0.2.left = 0) (d : Dk w fd k.p A.1 A.2) (hn : A.2.ops ≤ 1000000) (nm : ByteArray) (hnm : nm.size ≤ maxLen) (he : n = nm.data.toList) :
    Calls Tryz.prog 60 #[.pointer (some ⟨k.p, 0, none⟩), .string nm] w fun e w' => e = .returned (.int .i64 0) ∧ ∃ B fd' E', Dk w' fd' k.p B.1 B.2 ∧ Kept fd w w' ∧ Newly w fd fd' ∧ B.2.ops = A.2.ops + 1 ∧ Ext A0 B E' ∧ (E'.map (·.1)).Perm ns := by
  obtain ⟨x, E', hx1, hx2, hp2⟩ := ext_first hx hp
  obtain ⟨ho, hb⟩ := hx2.begin (M := fun _ => True) d.ok (fun _ _ => trivial)
  rcases hb with ⟨hb, _, _⟩ | hb
  · refine (remove_go hb d hn nm hnm (hx1.trans he)).mono ?_
    rintro e w' ⟨rfl, fd', d', kk, nn⟩
    exact ⟨rfl, _, fd', E', d', kk, nn, ho, hb.remove, hp2⟩
  · exact absurd hcalm hb.armed

set_option maxRecDepth 100000 in
set_option maxHeartbeats 4000000 in
/-- .. of a disk that is up. -/
theorem soUndo_up (s : SoM w sp k cnt hv rv H R last) (d : Dk w fd k.p A.1 A.2) (hd : ∀ z ∈ sofp sp hv rv, z ∉ fd) (hx : Ext A0 A E) (hp : (E.map (·.1)).Perm (out.data.toList :: R.map (rowB k.temp))) (hcalm : A0.2.left = 0) (ht : Tab w) (htd : gTab ∉ fd) (htm : k.temp.size ≤ 17) (hR : ∀ y ∈ R, y < 1000000) (hRl : R.length ≤ 100000)
    (hout : out.size ≤ maxLen) (hops : A.2.ops + R.length + 1 ≤ 999990) :
    Calls Tryz.prog 33 #[.pointer (some ⟨sp, 0, none⟩), .string out] w (UndoP k A0 w fd A.2.ops (A.2.ops + R.length + 1)) := by
  obtain ⟨s0, _, _, _, _, _, s8, _, _⟩ := s.cellAt
  obtain ⟨a, cap, hrv, hcap, hmax, hnone, hcells⟩ := s.rows.isI
  have hdn := d.down
  rw [hx.up] at hdn
  have hspot : ∀ x, a = some x → x.spot = none ∧ x.block ∉ fd := fun x hxa => by
    rcases s.rows with ⟨e, _⟩ | ⟨g, off, cap', cur, e, _⟩
    · rw [hrv, hxa] at e; cases e
    · rw [hrv, hxa] at e
      simp only [Value.slice.injEq, Option.some.injEq] at e
      obtain ⟨rfl, _⟩ := e
      refine ⟨rfl, hd g (sofp_mem.2 (.inr (.inr ?_)))⟩
      rw [hrv, hxa]
      simp [own, Value.ownBlock]
  subst hrv
  obtain ⟨n, hn⟩ : ∃ n, n = R.length := ⟨_, rfl⟩
  rw [← hn] at s8 hcap hcells hops ⊢
  have hn5 : n ≤ 100000 := by omega
  have hsp : sp ∉ fd := hd sp (sofp_mem.2 (.inl rfl))
  have L0 : Hid (∃ A' fd' E', Dk w fd' k.p A'.1 A'.2 ∧ Kept fd w w ∧ Newly w fd fd' ∧ Ext A0 A' E' ∧ (E'.map (·.1)).Perm (out.data.toList :: (R.drop 0).map (rowB k.temp)) ∧ A.2.ops ≤ A'.2.ops ∧ A'.2.ops ≤ A.2.ops + (0 : Nat)) := ⟨A, fd, E, d, Kept.refl _ _, Newly.refl _ _, hx, hp, Int.le_refl _, by simp⟩
  have HDN := hide hdn
  have HH := hide (And.intro s (And.intro hd (And.intro ht (And.intro htd (And.intro hR (And.intro hcells (And.intro hspot (And.intro hnone hn))))))))
  clear s d hd hx hp ht htd hR hRl hcells hspot hnone hn hdn hmax
  go_enter Tryz.func33, Tryz.ntmps33
  go_wp2_with (go_at_call 23; refine HDN.out.mono ?_; rintro e w1 ⟨rfl, hw⟩; rw [hw]; clear hw w1)
  go_loopg [16] (n) (fun gk i wr => ∃ j : Nat, i = .int .i64 (j : Int) ∧ j + gk = n ∧ Hid (∃ A' fd' E', Dk wr fd' k.p A'.1 A'.2 ∧ Kept fd w wr ∧ Newly w fd fd' ∧ Ext A0 A' E' ∧ (E'.map (·.1)).Perm (out.data.toList :: (R.drop j).map (rowB k.temp)) ∧ A.2.ops ≤ A'.2.ops ∧ A'.2.ops ≤ A.2.ops + (j : Nat)))
  case atStart => exact ⟨0, rfl, by omega, L0.out⟩
  case round =>
    obtain ⟨j, rfl, hj, hr⟩ := hrel
    obtain ⟨A', fd', E', d', k', n', x', p', o1, o2⟩ := hr.out
    obtain ⟨s, hd, ht, htd, hR, hcells, hspot, hnone, hn⟩ := HH.out
    have hspd : ∀ z ∈ sofp sp hv (.slice a n cap), z ∉ fd := by rw [hn]; exact hd
    have s' := s.kept k' hd
    have hsd' : ∀ z ∈ sofp sp hv (.slice a R.length cap), z ∉ fd' := fun z hz => apart_new n' (s.lt z hz) (hd z hz)
    have t0 : wr.cell? ⟨sp, 0, none⟩ = some (.pointer (some ⟨k.p, 0, none⟩)) := s'.cellAt.1
    have hsp' : sp ∉ fd' := hsd' sp (sofp_mem.2 (.inl rfl))
    cases gk with
    | zero =>
      have hjn : ¬ (j : Int) < (n : Int) := by omega
      rw [List.drop_eq_nil_of_le (by omega)] at p'
      have RM := hide (ext_remove x' p' hcalm d' (by omega) out hout rfl)
      have HF := hide (And.intro k' (And.intro n' (And.intro o1 o2)))
      clear d' k' n' x' p' o1 o2 s hd ht htd hR hcells hspot hnone hn hspd s' hsd' hsp' hr
      go_wp2_with fail
      refine RM.out.mono ?_
      rintro e w5 ⟨rfl, B, fd5, E5, d5, k5, n5, q5, x5, p5⟩
      obtain rfl : E5 = [] := by
        have := p5.length_eq
        simp at this
        exact this
      have HG := hide (And.intro d5 (And.intro k5 (And.intro n5 (And.intro q5 x5))))
      clear d5 k5 n5 q5 x5 p5
      go_wp2
      first | go_end0 | refine bodyPost_ret (results_none rfl _ _ _) rfl ?_
      obtain ⟨k', n', o1, o2⟩ := HF.out
      obtain ⟨d5, k5, n5, q5, x5⟩ := HG.out
      exact ⟨rfl, B, fd5, d5, k'.trans k5 n', n'.trans n5 k'.size, by omega, by omega, x5⟩
    | succ gk =>
      have hjn : (j : Int) < (n : Int) := by omega
      have hjR : j < R.length := by omega
      cases a with
      | none =>
        have := (hnone rfl).1
        rw [this] at hjR
        simp at hjR
      | some x0 =>
        obtain ⟨xb, xo, xs⟩ := x0
        obtain ⟨rfl, hxfd⟩ := hspot ⟨xb, xo, xs⟩ rfl
        have hc := hcells _ rfl j (by omega)
        rw [Addr.add_lit] at hc
        have hyj : R[j]! = R[j] := getElem!_pos R j hjR
        obtain ⟨y, hy⟩ : ∃ y, y = R[j] := ⟨_, rfl⟩
        rw [hyj, ← hy] at hc
        have hcw := k'.cell hc hxfd
        have hym : y < 1000000 := hR y (by rw [hy]; exact List.getElem_mem hjR)
        have hdr : R.drop j = y :: R.drop (j + 1) := by rw [hy]; exact List.drop_eq_getElem_cons hjR
        rw [hdr, List.map_cons] at p'
        have htw : Tab wr := (ht.kept k' htd).1
        have NM : Hid (∀ W, Below wr.heap.size wr W → Calls Tryz.prog 61 #[.pointer (some ⟨sp, 0, none⟩), .int .i64 (y : Int)] W fun e w' => e = .returned (.string (rowN k.temp y)) ∧ Kept [] W w') := fun W b =>
          name_any (ht := htw.below b) (sp := sp) (temp := k.temp) (s'.below b).cellAt.2.1 htm y hym
        have nm9 := (rowN_may htm hym).2
        have RM : Hid (∀ W, Kept [] wr W → Calls Tryz.prog 60 #[.pointer (some ⟨k.p, 0, none⟩), .string (rowN k.temp y)] W fun e w' => e = .returned (.int .i64 0) ∧ ∃ B fd5 E5, Dk w' fd5 k.p B.1 B.2 ∧ Kept fd' W w' ∧ Newly W fd' fd5 ∧ B.2.ops = A'.2.ops + 1 ∧ Ext A0 B E5 ∧ (E5.map (·.1)).Perm (out.data.toList :: (R.drop (j + 1)).map (rowB k.temp))) := fun W kk =>
          ext_remove (n := rowB k.temp y) x' (p'.trans (List.Perm.swap _ _ _)) hcalm (d'.kept kk (by simp)) (by omega) (rowN k.temp y) nm9 rfl
        have KC0 : Hid (∀ {W W' : World} {b o : Nat} {u : Value}, Kept [] W W' → W.cell? ⟨b, o, none⟩ = some u → W'.cell? ⟨b, o, none⟩ = some u) := fun kk c => kk.cell c (by simp)
        have HC : Hid (∀ {W W' : World} {o : Nat} {u : Value}, Kept fd' W W' → W.cell? ⟨sp, o, none⟩ = some u → W'.cell? ⟨sp, o, none⟩ = some u) := fun kk c => kk.cell c hsp'
        have HF := hide (And.intro k' (And.intro n' (And.intro o1 o2)))
        clear d' k' n' x' p' o1 o2 s hd ht htd hR hcells hspot hnone hn hspd s' hsd' hsp' hr hc hyj hy hdr htw hxfd hjR
        have t9 : wr.drew.cell? ⟨sp, 0, none⟩ = some (.pointer (some ⟨k.p, 0, none⟩)) := t0
        go_wp2
        go_region_held (fun W => W.cell? ⟨sp, 0, none⟩ = some (.pointer (some ⟨k.p, 0, none⟩))) (assumption)
          (first | (go_at_call 61; refine (NM.out _ ((Below.refl _ wr).drew)).mono ?_; rintro e w2 ⟨rfl, k2⟩; have k2' : Kept [] wr w2 := ⟨k2.os, k2.tape, k2.output, k2.size, k2.block⟩; have a0 := KC0.out k2 t9; have HK2 := hide k2'; clear k2 k2') | (go_at_call 60; refine (RM.out _ HK2.out).mono ?_; rintro e w3 ⟨rfl, B, fd5, E5, d5, k5, n5, q5, x5, p5⟩; have z0 := HC.out k5 a0; have HG := hide (And.intro d5 (And.intro k5 (And.intro n5 (And.intro q5 (And.intro x5 p5))))); clear d5 k5 n5 q5 x5 p5))
        go_wp2
        go_roundg gk
        case measure => omega
        case rel =>
          obtain ⟨k', n', o1, o2⟩ := HF.out
          obtain ⟨d5, k5, n5, q5, x5, p5⟩ := HG.out
          have k25 : Kept fd' wr w3 := (HK2.out.mono (fp' := fd') (by simp)).trans k5 (fun _ h => .inl h)
          refine ⟨j + 1, rfl, by omega, B, fd5, E5, d5, k'.trans k25 n', fun z hz => ?_, x5, p5, by omega, by omega⟩
          rcases n5 z hz with h | h
          · exact n' z h
          · exact .inr (Nat.le_trans k'.size (Nat.le_trans HK2.out.size h))

set_option maxRecDepth 100000 in
set_option maxHeartbeats 4000000 in
/-- .. of a disk that is down. -/
theorem soUndo_down (s : SoM w sp k cnt hv rv H R last) (d : Dk w fd k.p A.1 A.2) (hdn : A.2.down = true) :
    Calls Tryz.prog 33 #[.pointer (some ⟨sp, 0, none⟩), .string out] w fun e w' => e = .returned (.tuple #[]) ∧ w' = w := by
  obtain ⟨s0, _, _, _, _, _, s8, _, _⟩ := s.cellAt
  have hd9 := d.down
  rw [hdn] at hd9
  have HDN := hide hd9
  clear s d hd9 hdn
  go_enter Tryz.func33, Tryz.ntmps33
  go_wp2_with (go_at_call 23; refine HDN.out.mono ?_; rintro e w1 ⟨rfl, hw⟩; rw [hw]; clear hw w1)
  first | go_end0 | refine bodyPost_ret (results_none rfl _ _ _) rfl ?_
  exact ⟨rfl, rfl⟩
end

end Go.Proofs.YtgpbanjammipiaaGreatDoor

namespace Go.Proofs.YtgpbanjammipiaaGreatDoor
open Go.RowKit Go.Shelf

attribute [local go_sem] Oper.semAt_some

/-- Piece k of a slice that is cut by n. -/
def pcVI (b off len n k : Nat) : Value := .slice (some ⟨b, off + k * n, none⟩) (min n (len - k * n)) (min n (len - k * n))
/-- How many there are. -/
def pcNI (len n : Nat) : Nat := (len + n - 1) / n
theorem pcN_ltI {len n k : Nat} (hn : 0 < n) : k < pcNI len n ↔ k * n < len := by
  unfold pcNI
  rw [Nat.lt_div_iff_mul_lt hn]
  omega

/-- What an iterator that changes no object of the loop's body promises: the caller's invariant need abide new blocks and draws alone. -/
def SeqOwn {α : Type} (F : Fence) (n : Nat) (P : Program) (g : Nat) (lb : Array Value) (encs : α → Array Value) (Kp : World → World → Prop) (S Sp : List α → Prop) (Nx : List α → α → Prop) (N : Nat) (w : World) : Prop :=
  ∀ (l : Nat) (J Jx : List α → World → Prop) (W : World), Below w.heap.size w W → (∀ s W W', J s W → W.grownBy W' none → J s W') →
    (∀ pre x V, J pre V → Nx pre x → pre.length < N → YieldAt F (n - 1) P l (encs x) V fun e V' => (e = .returned (.bool true) ∧ J (pre ++ [x]) V' ∧ Kp V V') ∨ (e = .returned (.bool false) ∧ Jx (pre ++ [x]) V')) →
    J [] W → CallsIn F n P g (#[.func (.yield l) #[] #[]] ++ lb) W fun e W' => (∃ v, e = .returned v) ∧ ((∃ xs, S xs ∧ J xs W') ∨ (∃ pre, Sp pre ∧ Jx pre W'))

/-- What a round keeps: all that lay below n₀, and two boxes. -/
def KeepCI (n₀ B1 B2 : Nat) (A B : World) : Prop := Below n₀ A B ∧ B.cell? ⟨B1, 0, none⟩ = A.cell? ⟨B1, 0, none⟩ ∧ B.cell? ⟨B2, 0, none⟩ = A.cell? ⟨B2, 0, none⟩
theorem keepC_tI {n₀ B1 B2 : Nat} {A B C : World} (h : KeepCI n₀ B1 B2 A B) (k : KeepCI n₀ B1 B2 B C) : KeepCI n₀ B1 B2 A C := ⟨h.1.trans k.1, k.2.1.trans h.2.1, k.2.2.trans h.2.2⟩
theorem keepC_bI {n₀ B1 B2 : Nat} {w : World} (hn : n₀ ≤ w.heap.size) (hB1 : B1 < w.heap.size) (hB2 : B2 < w.heap.size) (W : World) (l : Nat) (o o' : Obj) (hl : w.heap.size ≤ l) (h : W.heap[l]? = some o) (hc : o.isCells = false) (hk : o.isWalk = false) : KeepCI n₀ B1 B2 W (W.putObj l o') :=
  ⟨belowK_b hn W l o o' hl h hc hk, World.cell?_of_block (w := W) ((grownBy_putObj' W l o').block B1 (by have := (Array.getElem?_eq_some_iff.1 h).1; show B1 < _; omega) (by simp; omega)), World.cell?_of_block (w := W) ((grownBy_putObj' W l o').block B2 (by have := (Array.getElem?_eq_some_iff.1 h).1; show B2 < _; omega) (by simp; omega))⟩

set_option maxRecDepth 100000 in
set_option maxHeartbeats 2000000 in
theorem chunk1_inI (m : Nat) (hm : 1 ≤ m) (l B1 B2 b off len cap n : Nat) (ad : Option Addr) (had : 0 < len → ad = some ⟨b, off, none⟩) (hcap : len ≤ cap) (hlen : len ≤ 1000000) (hn : 0 < n) (hn1 : n ≤ 1000000) (n₀ : Nat) (J Jx : List Nat → World → Prop)
    (hY : ∀ pre x W, J pre W → pre = List.range x → pre.length < pcNI len n → YieldAt Fence.wide (m - 1) Tryz.prog l #[pcVI b off len n x] W fun e W' =>
      (e = .returned (.bool true) ∧ J (pre ++ [x]) W' ∧ KeepCI n₀ B1 B2 W W') ∨ (e = .returned (.bool false) ∧ Jx (pre ++ [x]) W'))
    (hab : ∀ s W W', J s W → W.grownBy W' none → J s W') (W : World) (h1 : W.cell? ⟨B1, 0, none⟩ = some (.slice ad len cap)) (h2 : W.cell? ⟨B2, 0, none⟩ = some (.int .i64 n)) (h0 : J [] W) :
    CallsIn Fence.wide m Tryz.prog 108 #[.func (.yield l) #[] #[], .pointer (some ⟨B1, 0, none⟩), .pointer (some ⟨B2, 0, none⟩)] W fun e W' => (∃ v, e = .returned v) ∧
      ((∃ ys, ys = List.range (pcNI len n) ∧ J ys W') ∨ (∃ pre, (∃ k, k ≤ pcNI len n ∧ pre = List.range k) ∧ Jx pre W')) := by
  refine callsIn_of_wp Tryz.func108 rfl trivial ?_ rfl
  simp only [Tryz.ntmps108, List.size_toArray, List.length_cons, List.length_nil, Nat.reduceAdd, Nat.reduceSub, Array.replicate_succ, Array.replicate_zero, List.push_toArray, List.append_toArray, List.nil_append, List.cons_append]
  gi_wp2
  gi_loopw [4] (fun i wr => ∃ k p : Nat, k ≤ pcNI len n ∧ p = k * n ∧ i = .int .i64 (p : Int) ∧ Hid (J (List.range k) wr ∧ KeepCI n₀ B1 B2 W wr))
    (fun i _ => len + n - numOf i)
  case atStart => exact ⟨0, 0, Nat.zero_le _, by simp, rfl, h0, Below.refl _ _, rfl, rfl⟩
  case round =>
    obtain ⟨k, p, hk, hp, rfl, HJ⟩ := hrel
    have hB1 : wr.cell? ⟨B1, 0, none⟩ = some (.slice ad len cap) := HJ.out.2.2.1.trans h1
    have hB2 : wr.cell? ⟨B2, 0, none⟩ = some (.int .i64 n) := HJ.out.2.2.2.trans h2
    by_cases hlt : p < len
    · obtain rfl := had (by omega)
      have hklt : k < pcNI len n := by rw [pcN_ltI hn, ← hp]; exact hlt
      obtain ⟨en, hen⟩ : ∃ en, en = min n (len - p) := ⟨_, rfl⟩
      have hmin : ∀ (ts : Array TypeId) (t : TypeId) (w : World), (Builtin.min_ ts t #[.int .i64 (n : Int), .int .i64 ((len - p : Nat) : Int)]).run Tryz.prog w = .ok (.int .i64 (en : Int)) w := fun ts t w => by
        rw [run_min_int2]
        congr 2
        split <;> omega
      have hw1 : IntKind.i64.wrap ((p : Int) + (en : Int)) = (p : Int) + (en : Int) := i64_small _ (by omega) (by omega)
      have hw2 : IntKind.i64.wrap ((p : Int) + (n : Int)) = (p : Int) + (n : Int) := i64_small _ (by omega) (by omega)
      have hple : (p : Int) ≤ (len : Int) := by omega
      have hen1 : (p : Int) + (en : Int) ≤ (len : Int) := by omega
      have hmi : min (n : Int) ((len - p : Nat) : Int) = (en : Int) := by omega
      have htn : ((p : Int) + (en : Int)).toNat - p = en := by omega
      have HEN := hide (And.intro hen hp)
      have HY := hide hY
      clear hen hY hp
      gi_wp2
      gi_quiet (fail)
      have hJd : J (List.range k) (wr.drewN nq) := hab _ _ _ HJ.out.1 ⟨rfl, rfl, rfl, Nat.le_refl _, fun _ _ _ => rfl⟩
      obtain ⟨fn, tmps, assign, body, hy, hR⟩ := HY.out _ k (wr.drewN nq) hJd rfl (by rw [List.length_range]; exact hklt)
      have hpc : pcVI b off len n k = .slice (some ⟨b, off + p, none⟩) en en := by rw [pcVI, ← HEN.out.2, ← HEN.out.1]
      rw [hpc] at hy
      have HR := hide hR
      clear hR hJd hpc
      gi_wp2
      refine HR.out.mono ?_
      rintro e W3 (⟨rfl, hJ3, hk3⟩ | ⟨rfl, hJx3⟩)
      · have hB2' : W3.cell? ⟨B2, 0, none⟩ = some (.int .i64 n) := hk3.2.2.trans hB2
        have HJ3 := hide (And.intro hJ3 hk3)
        clear hJ3 hk3 hB1 hB2 HR
        gi_wp2
        go_roundw
        case rel =>
          have kd := HJ3.out.2
          have hk3' : KeepCI n₀ B1 B2 wr W3 := ⟨⟨kd.1.os, kd.1.tape, kd.1.output, kd.1.size, kd.1.block⟩, kd.2.1, kd.2.2⟩
          refine ⟨k + 1, p + n, by omega, by rw [HEN.out.2, Nat.add_mul, Nat.one_mul], by go_num, ?_, keepC_tI HJ.out.2 hk3'⟩
          have := HJ3.out.1
          rw [List.range_succ]
          exact this
        case measure => simp [numOf]; omega
      · gi_wp2
        refine bodyPost_ret (results_none rfl _ _ _) rfl ?_
        refine ⟨⟨_, rfl⟩, .inr ⟨_, ⟨k + 1, by omega, rfl⟩, ?_⟩⟩
        rw [List.range_succ]
        exact hJx3
    · have hke : k = pcNI len n := by
        have h := pcN_ltI (len := len) (k := k) hn
        rw [← hp] at h
        omega
      have HK := hide hke
      have hle : ¬ ((p : Int) < (len : Int)) := by omega
      clear hp hke
      gi_wp2
      go_end0
      exact ⟨⟨_, rfl⟩, .inl (by rw [← HK.out]; exact HJ.out.1)⟩

/-- slices.Chunk(s, n): both are boxed; the function value captures the boxes. -/
theorem chunk_inI (m : Nat) (a : Option Addr) (len cap : Nat) (n : Nat) (hn : 0 < n) (w : World) :
    CallsIn Fence.wide m Tryz.prog 82 #[.slice a len cap, .int .i64 n] w fun e w' => e = .returned (.func (.func 108) #[] #[.pointer (some ⟨w.heap.size, 0, none⟩), .pointer (some ⟨w.heap.size + 1, 0, none⟩)]) ∧ w' = (w.alloc (.cells #[.slice a len cap] 75)).alloc (.cells #[.int .i64 n] 3) := by
  have h1 : (n : Int) ≥ 1 := by omega
  refine callsIn_of_wp Tryz.func82 rfl trivial ?_ rfl
  simp only [Tryz.ntmps82, List.size_toArray, List.length_cons, List.length_nil, Nat.reduceAdd, Nat.reduceSub, Array.replicate_succ, Array.replicate_zero, List.push_toArray, List.append_toArray, List.nil_append, List.cons_append]
  gi_wp2
  go_ret
  exact ⟨rfl, rfl⟩

theorem chunk_stopsI (m : Nat) (hm : 1 ≤ m) (B1 B2 b off len cap n : Nat) (ad : Option Addr) (had : 0 < len → ad = some ⟨b, off, none⟩) (hcap : len ≤ cap) (hlen : len ≤ 1000000) (hn : 0 < n) (hn1 : n ≤ 1000000) (n₀ : Nat) (w : World)
    (h1 : w.cell? ⟨B1, 0, none⟩ = some (.slice ad len cap)) (h2 : w.cell? ⟨B2, 0, none⟩ = some (.int .i64 n)) :
    SeqOwn Fence.wide m Tryz.prog 108 #[.pointer (some ⟨B1, 0, none⟩), .pointer (some ⟨B2, 0, none⟩)] (fun x : Nat => #[pcVI b off len n x]) (KeepCI n₀ B1 B2) (fun ys => ys = List.range (pcNI len n))
      (fun pre => ∃ k, k ≤ pcNI len n ∧ pre = List.range k) (fun pre x => pre = List.range x) (pcNI len n) w := fun l J Jx W hW1 hab hY h0 =>
  chunk1_inI m hm l B1 B2 b off len cap n ad had hcap hlen hn hn1 n₀ J Jx hY hab W ((hW1.cell (p := ⟨B1, 0, none⟩) (World.block_lt_of_cell? w _ h1)).trans h1) ((hW1.cell (p := ⟨B2, 0, none⟩) (World.block_lt_of_cell? w _ h2)).trans h2) h0

end Go.Proofs.YtgpbanjammipiaaGreatDoor

namespace Go.Proofs.YtgpbanjammipiaaGreatDoor
open Go.RowKit

/-- The loop's two blocks stay. -/
def Two9 (D : Nat) (W W' : World) : Prop := W'.heap[D]? = W.heap[D]? ∧ W'.heap[D + 1]? = W.heap[D + 1]?

/-- What a round leaves, by the way that it ends. -/
def roundP {α : Type} (D : Nat) (Kp : World → World → Prop) (I : List α → World → Prop) (Ix : Code → List α → World → Prop) (xs : List α) (W : World) : Exit → Act → World → Prop
  | .normal, _, W' => Two9 D W W' ∧ Kp W W' ∧ I xs W'
  | .ret, _, W' => Two9 D W W' ∧ Ix .ret xs W'
  | .exit id, _, W' => Two9 D W W' ∧ Ix (.exit id) xs W'
  | .goto _, _, _ => False
  | .panic _, _, _ => False
  | .outgrown, _, _ => False

variable {F : Fence} {n : Nat} {P : Program}

theorem range_walks {α : Type} {g : Operand} {ps : Array Tmp} {assign body : Code} {Q : Exit → Act → World → Prop} {a : Act} {w : World}
    (hro : F.round = none) (h1 : 1 ≤ n) {gf : Nat} {lb : Array Value} (hg : a.eval g = .func (.func gf) #[] lb) (hFg : F.fn gf) (eg : ∀ args w, (callFunc gf args).run P w = .ok (.enter gf args) w)
    {encs : α → Array Value} {Kp : World → World → Prop} {S Sp : List α → Prop} {Nx : List α → α → Prop} {N : Nat} (hseq : SeqOwn F (n - 1) P gf lb encs Kp S Sp Nx N w)
    (hKt : ∀ {A B C : World}, Kp A B → Kp B C → Kp A C) (hKb : ∀ (W : World) (r r' : Loop), W.heap[w.heap.size + 1]? = some (.loop r) → Kp W (W.putObj (w.heap.size + 1) (.loop r'))) (hps : ∀ x, (encs x).size = ps.size)
    (I : List α → World → Prop) (Ix : Code → List α → World → Prop) (hI : ∀ s W W', I s W → W.grownBy W' none → I s W')
    (hIp : ∀ s W (r r' : Loop), I s W → W.heap[w.heap.size + 1]? = some (.loop r) → I s (W.putObj (w.heap.size + 1) (.loop r')))
    (hIxp : ∀ c s W (r r' : Loop), Ix c s W → W.heap[w.heap.size + 1]? = some (.loop r) → Ix c s (W.putObj (w.heap.size + 1) (.loop r'))) (h0 : I [] w) (a₁ : α → Act)
    (hassign : ∀ (l : Nat) (x : α) (W : World) (K : Act → World → Prop), K (a₁ x) W →
      assign.wpIn (F.inRound l) (n - 1 - 1) P (Exit.then K (fun _ _ _ => False)) { tmps := (ps.zip (encs x)).foldl (fun t (p, v) => t.setIfInBounds p v) a.tmps, defers := [] } W)
    (hbody : ∀ (l : Nat) (pre : List α) (x : α) (W : World), I pre W → w.heap.size + 2 ≤ W.heap.size → Nx pre x → pre.length < N → body.wpIn (F.inRound l) (n - 1 - 1) P (roundP w.heap.size Kp I Ix (pre ++ [x]) W) (a₁ x) W)
    (hdone : ∀ (D : Nat) (xs : List α) (W : World), D = w.heap.size → S xs → I xs W → W.heap[D]? = some (.deferred (some [])) → Q .normal { a with defers := { target := .collected D, args := #[] } :: a.defers } W)
    (hstop : ∀ (D : Nat) (c : Code) (pre : List α) (W : World), D = w.heap.size → Sp pre → Ix c pre W → W.heap[D]? = some (.deferred (some [])) → c.wpIn F n P Q { a with defers := { target := .collected D, args := #[] } :: a.defers } W) :
    (Code.rangeFunc g ps assign body).wpIn F n P Q a w := by
  refine wpIn_rangeFunc fun fn hfn => ?_
  rw [hro]
  generalize hD : w.heap.size = D at *
  obtain ⟨rc, hrc⟩ : ∃ rc : LoopState → Option Code → Loop, rc = fun st pe => { state := st, pending := pe, fn, tmps := a.tmps, params := ps, assign, body, defers := D } := ⟨_, rfl⟩
  obtain ⟨V, hV⟩ : ∃ V, V = (w.alloc (.deferred (some []))).alloc (.loop (rc .ready none)) := ⟨_, rfl⟩
  have vL : V.heap[D + 1]? = some (.loop (rc .ready none)) := by
    have := World.alloc_heap_new (w.alloc (.deferred (some []))) (.loop (rc .ready none))
    rw [World.size_alloc, hD] at this
    rw [hV]; exact this
  have vD : V.heap[D]? = some (.deferred (some [])) := by
    rw [hV, ← hD]
    exact (Below.heap_alloc _ _ _ (by simp)).trans (World.alloc_heap_new w _)
  have vI : I [] V := by rw [hV]; exact hI _ _ _ (hI _ _ _ h0 (World.grownBy_alloc _ _ _)) (World.grownBy_alloc _ _ _)
  have vS : V.heap.size = D + 2 := by rw [hV, World.size_alloc, World.size_alloc, hD]
  have vB : Below w.heap.size w V := by
    rw [hV]; exact (((Below.refl _ w).alloc (Nat.le_refl _) _).alloc (by simp) _)
  have kept9 : ∀ {W W' : World} {b : Nat} {o : Obj}, W.heap[b]? = some o → W.grownBy W' none → W'.heap[b]? = some o := fun {W W' b o} ho hg => by
    rw [hg.block b (Array.getElem?_eq_some_iff.1 ho).1 (by simp)]
    exact ho
  have end9 : ∀ (jump : Option Code), ({ rc .busy none with state := if jump.isNone then .ready else .done, pending := jump } : Loop) = rc (if jump.isNone then .ready else .done) jump := fun jump => by rw [hrc]
  have done9 : ∀ (W : World) (st st' : LoopState) (pe pe' : Option Code), W.heap[D + 1]? = some (.loop (rc st pe)) → W.heap[D]? = some (.deferred (some [])) →
      (W.putObj (D + 1) (.loop (rc st' pe'))).heap[D + 1]? = some (.loop (rc st' pe')) ∧ (W.putObj (D + 1) (.loop (rc st' pe'))).heap[D]? = some (.deferred (some [])) := fun W st st' pe pe' hl hd =>
    ⟨World.putObj_heap_same (Array.getElem?_eq_some_iff.1 hl).1, (World.putObj_heap_other (by omega)).trans hd⟩
  refine ⟨D + 1, [{ target := .collected D, args := #[] }], V, { target := .fn (.func gf) lb, args := #[.func (.yield (D + 1)) #[] #[]] }, V, gf, #[.func (.yield (D + 1)) #[] #[]] ++ lb, V, ?_, ?_, ?_, ?_, fun _ => h1, ?_⟩
  · rw [hV, hrc, ← hD]; exact run_enterLoop_outer _ _ _ _ _
  · simp only [resolve, hg]
    simp [go_sem]
  · intro f' hf'
    simp [Target.leads] at hf'
    subst hf'
    exact hFg
  · simp [invoke, go_sem, eg]
  · refine (hseq (D + 1) (fun pre W => I pre W ∧ W.heap[D + 1]? = some (.loop (rc .ready none)) ∧ W.heap[D]? = some (.deferred (some [])))
      (fun pre W => ∃ c, Ix c pre W ∧ W.heap[D + 1]? = some (.loop (rc .done (some c))) ∧ W.heap[D]? = some (.deferred (some [])))
      V (by rw [hD] at vB ⊢; exact vB) (fun s A B hs hg' => ⟨hI _ _ _ hs.1 hg', kept9 hs.2.1 hg', kept9 hs.2.2 hg'⟩) ?_ ⟨vI, vL, vD⟩).mono ?_
    · rintro pre x W ⟨hi, hl, hd⟩ hnx hlen
      have hlt : D + 1 < W.heap.size := (Array.getElem?_eq_some_iff.1 hl).1
      have hy := run_yield (P := P) (args := encs x) hl (by rw [hrc]; exact hps x)
      rw [hrc] at hy
      refine ⟨fn, _, assign, body, hy, roundIn_of_wpIn hfn (hassign _ x W _ ⟨_, run_beginRound hl (by rw [hrc]), ?_⟩)⟩
      have hbz : ({ rc .ready none with state := .busy } : Loop) = rc .busy none := by rw [hrc]
      rw [hbz]
      obtain ⟨hl2, hd2⟩ := done9 W .ready .busy none none hl hd
      refine wpIn_mono (hbody _ pre x _ (hIp _ _ _ _ hi hl) (by simp; omega) hnx hlen) ?_
      rintro e a3 W3 hp
      cases e with
      | normal =>
        obtain ⟨⟨t1, t2⟩, hkp, hi3⟩ := hp
        have hl3 := t2.trans hl2
        have hd3 := t1.trans hd2
        have hend := run_endRound (P := P) none hl3
        rw [end9] at hend
        obtain ⟨hl4, hd4⟩ := done9 W3 .busy .ready none none hl3 hd3
        exact ⟨_, _, hend, .inl ⟨rfl, ⟨hIp _ _ _ _ hi3 hl3, hl4, hd4⟩, hKt (hKt (hKb _ _ _ hl) hkp) (hKb _ _ _ hl3)⟩⟩
      | ret =>
        obtain ⟨⟨t1, t2⟩, hi3⟩ := hp
        have hl3 := t2.trans hl2
        have hd3 := t1.trans hd2
        have hend := run_endRound (P := P) (some .ret) hl3
        rw [end9] at hend
        obtain ⟨hl4, hd4⟩ := done9 W3 .busy .done none (some .ret) hl3 hd3
        exact ⟨_, _, hend, .inr ⟨rfl, .ret, hIxp _ _ _ _ _ hi3 hl3, hl4, hd4⟩⟩
      | exit id =>
        obtain ⟨⟨t1, t2⟩, hi3⟩ := hp
        have hl3 := t2.trans hl2
        have hd3 := t1.trans hd2
        have hend := run_endRound (P := P) (some (.exit id)) hl3
        rw [end9] at hend
        obtain ⟨hl4, hd4⟩ := done9 W3 .busy .done none (some (.exit id)) hl3 hd3
        exact ⟨_, _, hend, .inr ⟨rfl, .exit id, hIxp _ _ _ _ _ hi3 hl3, hl4, hd4⟩⟩
      | goto t => exact hp.elim
      | panic ch => exact hp.elim
      | outgrown => exact hp.elim
    · rintro e W2 ⟨⟨v, rfl⟩, (⟨xs, hS, hi, hl, hd⟩ | ⟨pre, hSp, c, hi, hl, hd⟩)⟩
      · have hend := run_endLoop (P := P) hl (by rw [hrc]; simp)
        have hp9 : (rc .ready none).pending = none := by rw [hrc]
        rw [hp9] at hend
        exact ⟨none, _, hend, hdone _ xs _ rfl hS (hIp _ _ _ _ hi hl) ((World.putObj_heap_other (by omega)).trans hd)⟩
      · have hend := run_endLoop (P := P) hl (by rw [hrc]; simp)
        have hp9 : (rc .done (some c)).pending = some c := by rw [hrc]
        rw [hp9] at hend
        exact ⟨some c, _, hend, hstop _ c pre _ rfl hSp (hIxp _ _ _ _ _ hi hl) ((World.putObj_heap_other (by omega)).trans hd)⟩

end Go.Proofs.YtgpbanjammipiaaGreatDoor

namespace Go.Proofs.YtgpbanjammipiaaGreatDoor
open Go.RowKit Go.Maps

/-- Piece i of a row that is cut by n. -/
def pcX {α : Type} (X : List α) (n i : Nat) : List α := (X.drop (i * n)).take n

theorem pcX_app {α : Type} (X : List α) (n i : Nat) : pcX X n i ++ X.drop ((i + 1) * n) = X.drop (i * n) := by
  unfold pcX
  rw [Nat.add_mul, Nat.one_mul, ← List.drop_drop, List.take_append_drop]

theorem pcX_map {α β : Type} (f : α → β) (X : List α) (n i : Nat) : (pcX X n i).map f = pcX (X.map f) n i := by
  unfold pcX
  rw [List.map_take, List.map_drop]

section
variable {w w' : World} {sp q : Nat} {k : Skn} {cnt last : Nat} {hv rv rv' u : Value} {H H' : List Rc} {R R' ks : List Nat} {fd fd' : List Nat} {tv : Value}

/-- A piece stays where merge touches the writer, the disk and the sorter's own block alone. -/
theorem Piece.merge (h : Piece w (wfp fd q tv ++ sofp sp hv rv) rv u ks) (s : SoM w sp k cnt hv rv H R last) (hdis : ∀ z ∈ sofp sp hv rv, z ∉ wfp fd q tv) (kk : Kept (wfp fd q tv ++ [sp]) w w') (nn : Newly w (wfp fd q tv) fd') (ho : ∀ z ∈ own rv', z ∈ own rv) (he : ∀ g m, endIn rv g m → endIn rv' g m) : Piece w' (fd' ++ sofp sp hv rv') rv' u ks := by
  obtain ⟨⟨a, cap, hu, l1, l2, l3, l4⟩, hB⟩ := h
  have hk : ∀ x n c, u = .slice (some x) n c → x.block ∉ wfp fd q tv ++ [sp] := fun x n c hx e => by
    obtain ⟨_, _, z3⟩ := hB x n c hx
    rcases z3 with ⟨z3, _⟩ | z3
    · rcases List.mem_append.1 e with e | e
      · exact hdis _ (sofp_mem.2 (.inr (.inr z3))) e
      · simp only [List.mem_singleton] at e
        exact s.rs (by rw [← e]; exact z3)
    · rcases List.mem_append.1 e with e | e
      · exact z3 (List.mem_append.2 (.inl e))
      · simp only [List.mem_singleton] at e
        exact z3 (List.mem_append.2 (.inr (sofp_mem.2 (.inl e))))
  refine ⟨⟨a, cap, hu, l1, l2, l3, fun x hx j hj => ?_⟩, fun x n c hx => ?_⟩
  · obtain ⟨z1, z2, z3⟩ := hB x _ _ (by rw [hu, hx])
    have hc := l4 x hx j hj
    have hbk := hk x _ _ (by rw [hu, hx])
    have hadd : x.add j = ⟨x.block, x.off + j, none⟩ := by
      obtain ⟨xb, xo, xs⟩ := x
      simp only at z1
      subst z1
      exact Addr.add_lit _ _ _
    rw [hadd] at hc ⊢
    exact kk.cell hc hbk
  · obtain ⟨z1, z2, z3⟩ := hB x n c hx
    have hbk := hk x n c hx
    have hfd' : x.block ∉ fd' := apart_new nn z2 (fun e => hbk (List.mem_append.2 (.inl e)))
    refine ⟨z1, Nat.lt_of_lt_of_le z2 kk.size, ?_⟩
    rcases z3 with ⟨z3, z4⟩ | z3
    · by_cases hin : x.block ∈ own rv'
      · exact .inl ⟨hin, he _ _ z4⟩
      · refine .inr (fun e => ?_)
        rcases List.mem_append.1 e with e | e
        · exact hfd' e
        · rcases sofp_mem.1 e with e | e | e
          · exact hbk (List.mem_append.2 (.inr (by simp [e])))
          · exact s.hr _ e z3
          · exact hin e
    · refine .inr (fun e => ?_)
      rcases List.mem_append.1 e with e | e
      · exact hfd' e
      · rcases sofp_mem.1 e with e | e | e
        · exact z3 (List.mem_append.2 (.inr (sofp_mem.2 (.inl e))))
        · exact z3 (List.mem_append.2 (.inr (sofp_mem.2 (.inr (.inl e)))))
        · exact z3 (List.mem_append.2 (.inr (sofp_mem.2 (.inr (.inr (ho _ e))))))
end

/-- pass's loop behind j pieces: Y are the rows that it made; X0 the rows ahead of it, whose slice lies in block b at off; B0: where the loop's own blocks lie. -/
structure PassI (sp : Nat) (k : Skn) (A0 : Dsk) (W0 : World) (fp0 : List Nat) (on : List UInt8) (l0 : List Rc) (nn : Nat) (o0 : Int) (B0 b off : Nat) (X0 : List (Nat × List Rc)) (last0 j : Nat) (A : Dsk) (fd : List Nat) (cnt : Nat) (hv rv : Value) (Y : List (Nat × List Rc)) (w : World) : Prop where
  disk : Dk w fd k.p A.1 A.2
  sor : SoM w sp k cnt hv rv [] ((X0.drop (j * k.fan) ++ Y).map (·.1)) (last0 + j)
  dis : ∀ z ∈ sofp sp hv rv, z ∉ fd
  kept : Kept fp0 W0 w
  new : Newly W0 fp0 (fd ++ sofp sp hv rv)
  ext : Ext A0 A ((X0.drop (j * k.fan) ++ Y).map (rowE k.temp) ++ [(on, [], [])])
  good : GoodX (X0.drop (j * k.fan) ++ Y) (last0 + j)
  like : Like k.how ((X0.drop (j * k.fan) ++ Y).flatMap (·.2)) l0
  size : ((X0.drop (j * k.fan) ++ Y).flatMap (·.2)).length ≤ nn
  ylen : Y.length = j
  pieces : ∀ i, j ≤ i → i < pcNI X0.length k.fan → Piece w (fd ++ sofp sp hv rv) rv (pcVI b off X0.length k.fan i) (pcX (X0.map (·.1)) k.fan i)
  low : ∀ z ∈ fd ++ sofp sp hv rv, z < B0 ∨ B0 + 6 ≤ z
  ops : o0 ≤ A.2.ops ∧ A.2.ops + 4 * ((X0.drop (j * k.fan)).length : Nat) ≤ o0 + 405 * j + 4 * X0.length

section
variable {sp q : Nat} {k : Skn} {A0 A B B3 : Dsk} {W0 w w2 w3 : World} {fp0 : List Nat} {on : List UInt8} {l0 : List Rc} {nn : Nat} {o0 : Int} {B0 b off : Nat} {X0 : List (Nat × List Rc)} {last0 j cnt : Nat} {fd fd2 fd3 : List Nat} {hv rv rv1 rv3 tv : Value} {Y : List (Nat × List Rc)}

/-- The rows ahead of a merge. -/
theorem pass_rows (X0 Y : List (Nat × List Rc)) (n j : Nat) : X0.drop (j * n) ++ Y = pcX X0 n j ++ (X0.drop ((j + 1) * n) ++ Y) := by
  rw [← pcX_app X0 n j, List.append_assoc]

/-- What a round leaves: the piece's rows are one. -/
theorem PassI.next (I : PassI sp k A0 W0 fp0 on l0 nn o0 B0 b off X0 last0 j A fd cnt hv rv Y w) (hB0 : B0 + 6 ≤ w.heap.size) (hops1 : B.2.ops = A.2.ops + 1) (k12 : Kept (fd ++ sofp sp hv rv) w w2)
    (s2 : SoM w2 sp k cnt hv rv1 [] (pcX (X0.map (·.1)) k.fan j ++ ((X0.drop ((j + 1) * k.fan) ++ Y).map (·.1) ++ [last0 + j + 1])) (last0 + j + 1)) (d2 : ∀ z ∈ sofp sp hv rv1, z ∉ wfp fd2 q tv) (n2 : Newly w (fd ++ sofp sp hv rv) (wfp fd2 q tv)) (ns : Newly w (sofp sp hv rv) (sofp sp hv rv1))
    (hpc : ∀ u ks, Piece w (fd ++ sofp sp hv rv) rv u ks → Piece w2 (wfp fd2 q tv ++ sofp sp hv rv1) rv1 u ks)
    (d3 : Dk w3 fd3 k.p B3.1 B3.2) (k23 : Kept (wfp fd2 q tv ++ [sp]) w2 w3) (n3 : Newly w2 (wfp fd2 q tv) fd3) (q1 : B.2.ops ≤ B3.2.ops) (q2 : B3.2.ops ≤ B.2.ops + 4 * (pcX X0 k.fan j).length + 3 * ((pcX X0 k.fan j).flatMap (·.2)).length + 20)
    (s3 : SoM w3 sp k cnt hv rv3 [] ((X0.drop ((j + 1) * k.fan) ++ Y).map (·.1) ++ [last0 + j + 1]) (last0 + j + 1)) (ho : ∀ z ∈ own rv3, z ∈ own rv1) (he : ∀ g m, endIn rv1 g m → endIn rv3 g m) (hd3 : ∀ z ∈ sofp sp hv rv1, z ∉ fd3)
    (x3 : Ext A0 B3 ((rowB k.temp (last0 + j + 1), fileB (canR k.how ((pcX X0 k.fan j).flatMap (·.2))), fileB (canR k.how ((pcX X0 k.fan j).flatMap (·.2)))) :: ((X0.drop ((j + 1) * k.fan) ++ Y).map (rowE k.temp) ++ [(on, [], [])]))) (hnn : nn ≤ 125) :
    PassI sp k A0 W0 fp0 on l0 nn o0 B0 b off X0 last0 (j + 1) B3 fd3 cnt hv rv3 (Y ++ [(last0 + j + 1, canR k.how ((pcX X0 k.fan j).flatMap (·.2)))]) w3 := by
  obtain ⟨T, hT⟩ : ∃ T, T = canR k.how ((pcX X0 k.fan j).flatMap (·.2)) := ⟨_, rfl⟩
  rw [← hT] at x3 ⊢
  have hrw := pass_rows X0 Y k.fan j
  have hsub : ∀ x ∈ pcX X0 k.fan j, x ∈ X0.drop (j * k.fan) ++ Y := fun x hx => by rw [hrw]; exact List.mem_append.2 (.inl hx)
  have hsub2 : ∀ x ∈ X0.drop ((j + 1) * k.fan) ++ Y, x ∈ X0.drop (j * k.fan) ++ Y := fun x hx => by rw [hrw]; exact List.mem_append.2 (.inr hx)
  have hok : ∀ y ∈ (pcX X0 k.fan j).flatMap (·.2), okR y := fun y hy => by
    obtain ⟨x, hx, hm⟩ := List.mem_flatMap.1 hy
    exact (I.good.2 x (hsub x hx)).2.1 y hm
  have hassoc : X0.drop ((j + 1) * k.fan) ++ (Y ++ [(last0 + j + 1, T)]) = (X0.drop ((j + 1) * k.fan) ++ Y) ++ [(last0 + j + 1, T)] := (List.append_assoc ..).symm
  have ks3 : sofp sp hv rv3 = sp :: (own hv ++ own rv3) := rfl
  have hsof : ∀ z ∈ sofp sp hv rv3, z ∈ sofp sp hv rv1 := fun z hz => by
    rcases sofp_mem.1 hz with h | h | h
    · exact sofp_mem.2 (.inl h)
    · exact sofp_mem.2 (.inr (.inl h))
    · exact sofp_mem.2 (.inr (.inr (ho z h)))
  have nw : ∀ z ∈ wfp fd2 q tv ++ [sp], z ∈ fd ++ sofp sp hv rv ∨ w.heap.size ≤ z := fun z hz => by
    rcases List.mem_append.1 hz with h | h
    · exact n2 z h
    · simp only [List.mem_singleton] at h
      exact .inl (List.mem_append.2 (.inr (sofp_mem.2 (.inl h))))
  have k13 : Kept (fd ++ sofp sp hv rv) w w3 := k12.trans k23 nw
  have nfd3 : ∀ z ∈ fd3, z ∈ fd ++ sofp sp hv rv ∨ w.heap.size ≤ z := fun z hz => by
    rcases n3 z hz with h | h
    · exact n2 z h
    · exact .inr (Nat.le_trans k12.size h)
  have nso : ∀ z ∈ sofp sp hv rv3, z ∈ fd ++ sofp sp hv rv ∨ w.heap.size ≤ z := fun z hz => (ns z (hsof z hz)).imp (fun h => List.mem_append.2 (.inr h)) id
  have hlk : ((pcX X0 k.fan j).flatMap (·.2)).length + ((X0.drop ((j + 1) * k.fan) ++ Y).flatMap (·.2)).length ≤ nn := by
    have h := I.size
    rw [hrw, List.flatMap_append, List.length_append] at h
    exact h
  have hTl : T.length ≤ ((pcX X0 k.fan j).flatMap (·.2)).length := by rw [hT]; exact canR_le _ _
  refine ⟨d3, ?_, fun z hz => hd3 z (hsof z hz), I.kept.trans k13 I.new, ?_, ?_, ⟨?_, fun x hx => ?_⟩, ?_, ?_, by rw [List.length_append, I.ylen]; rfl, fun i hi hip => ?_, fun z hz => ?_, ?_, ?_⟩
  · rw [hassoc, List.map_append]
    exact s3
  · exact I.new.trans (newly_app nfd3 nso) I.kept.size
  · refine x3.perm ?_
    have e : ((X0.drop ((j + 1) * k.fan) ++ Y) ++ [(last0 + j + 1, T)]).map (rowE k.temp) ++ [(on, ([] : List Int), ([] : List Int))] = (X0.drop ((j + 1) * k.fan) ++ Y).map (rowE k.temp) ++ (rowE k.temp (last0 + j + 1, T) :: [(on, [], [])]) := by simp
    rw [hassoc, e]
    exact List.perm_middle.symm
  · rw [hassoc, List.map_append, List.nodup_append]
    have h1 := I.good.1
    rw [hrw, List.map_append] at h1
    refine ⟨(List.nodup_append.1 h1).2.1, by simp, fun a ha c hc e => ?_⟩
    simp only [List.map_cons, List.map_nil, List.mem_singleton] at hc
    obtain ⟨y, hy, rfl⟩ := List.mem_map.1 ha
    have := (I.good.2 y (hsub2 y hy)).1
    omega
  · rw [hassoc] at hx
    rcases List.mem_append.1 hx with hx | hx
    · obtain ⟨a1, a2, a3⟩ := I.good.2 x (hsub2 x hx)
      exact ⟨by omega, a2, a3⟩
    · simp only [List.mem_singleton] at hx
      subst hx
      exact ⟨by show last0 + j + 1 ≤ _; omega, by rw [hT]; exact canR_ok hok, by rw [hT]; exact canR_rises hok⟩
  · refine Like.trans ?_ I.like
    rw [hassoc, hrw, List.flatMap_append, List.flatMap_append (xs := pcX X0 k.fan j)]
    simp only [List.flatMap_cons, List.flatMap_nil, List.append_nil]
    refine Like.trans (Like.of_perm List.perm_append_comm) ?_
    refine Like.append ?_ (Like.refl _ _)
    rw [hT]
    exact canR_like hok
  · rw [hassoc, List.flatMap_append, List.length_append]
    simp only [List.flatMap_cons, List.flatMap_nil, List.append_nil]
    omega
  · exact (hpc _ _ (I.pieces i (by omega) hip)).merge s2 d2 k23 n3 ho he
  · rcases List.mem_append.1 hz with h | h
    · rcases nfd3 z h with h | h
      · exact I.low z h
      · exact .inr (Nat.le_trans hB0 h)
    · rcases nso z h with h | h
      · exact I.low z h
      · exact .inr (Nat.le_trans hB0 h)
  · have := I.ops
    omega
  · have h1 := I.ops
    have h2 : (X0.drop (j * k.fan)).length = (pcX X0 k.fan j).length + (X0.drop ((j + 1) * k.fan)).length := by rw [← pcX_app X0 k.fan j, List.length_append]
    omega
end

end Go.Proofs.YtgpbanjammipiaaGreatDoor

namespace Go.Proofs.YtgpbanjammipiaaGreatDoor
open Go.RowKit Go.Maps

/-- A sorter that holds nothing, with rows X: nn bounds the records in them. -/
structure RowsS (sp : Nat) (k : Skn) (A0 : Dsk) (W0 : World) (fp0 : List Nat) (on : List UInt8) (l0 : List Rc) (nn : Nat) (A : Dsk) (fd : List Nat) (cnt : Nat) (hv rv : Value) (X : List (Nat × List Rc)) (last : Nat) (w : World) : Prop where
  disk : Dk w fd k.p A.1 A.2
  sor : SoM w sp k cnt hv rv [] (X.map (·.1)) last
  dis : ∀ z ∈ sofp sp hv rv, z ∉ fd
  kept : Kept fp0 W0 w
  new : Newly W0 fp0 (fd ++ sofp sp hv rv)
  ext : Ext A0 A (X.map (rowE k.temp) ++ [(on, [], [])])
  good : GoodX X last
  like : Like k.how (X.flatMap (·.2)) l0
  size : (X.flatMap (·.2)).length ≤ nn

/-- A sorter behind an error, where the loop's own blocks lie from B0 on. -/
def SorE9 (B0 : Nat) (sp : Nat) (k : Skn) (A0 : Dsk) (W0 : World) (fp0 : List Nat) (on : List UInt8) (nn : Nat) (o0 o1 : Int) (e' : Int) (w' : World) : Prop :=
  ∃ B fd cnt hv rv H Rl last, Dk w' fd k.p B.1 B.2 ∧ SoM w' sp k cnt hv rv H Rl last ∧ (∀ z ∈ sofp sp hv rv, z ∉ fd) ∧ Kept fp0 W0 w' ∧ Newly W0 fp0 (fd ++ sofp sp hv rv) ∧ o0 ≤ B.2.ops ∧ B.2.ops ≤ o1 ∧
    (((e' = 6 ∧ A0.2.room - A0.2.used < 4 * nn) ∧ ∃ E', Ext A0 B E' ∧ (E'.map (·.1)).Perm (on :: Rl.map (rowB k.temp)) ∧ (∀ y ∈ Rl, y < 1000000) ∧ Rl.length ≤ 100000) ∨ (e' = 7 ∧ Cr A0 B (Mw k.temp on) (4 * nn))) ∧
    ∀ z ∈ fd ++ sofp sp hv rv, z < B0 ∨ B0 + 6 ≤ z

section
variable {sp q : Nat} {k : Skn} {A0 A B : Dsk} {W0 w w' : World} {fp0 fq : List Nat} {on : List UInt8} {l0 : List Rc} {nn : Nat} {o0 o1 : Int} {B0 b off : Nat} {X0 X : List (Nat × List Rc)} {last0 last j cnt : Nat} {fd fd' : List Nat} {hv rv rv' tv : Value} {Y : List (Nat × List Rc)} {e' er : Int}

theorem SorE9.sorE (h : SorE9 B0 sp k A0 W0 fp0 on nn o0 o1 e' w) (er : Int) : SorE sp k A0 W0 fp0 on er nn o0 o1 e' w := by
  obtain ⟨B, fd, cnt, hv, rv, H, Rl, last, h1, h2, h3, h4, h5, h6, h7, h8, h9⟩ := h
  refine ⟨B, fd, cnt, hv, rv, H, Rl, last, h1, h2, h3, h4, h5, h6, h7, ?_⟩
  rcases h8 with ⟨h8, h10⟩ | h8
  · exact .inl ⟨.inr h8, h10⟩
  · exact .inr h8

theorem SorE9.ne (h : SorE9 B0 sp k A0 W0 fp0 on nn o0 o1 e' w) : e' ≠ 0 := by
  obtain ⟨B, fd, cnt, hv, rv, H, Rl, last, h1, h2, h3, h4, h5, h6, h7, h8, h9⟩ := h
  rcases h8 with ⟨⟨h8, _⟩, _⟩ | ⟨h8, _⟩ <;> omega

theorem kept_own (h : Kept fp0 W0 w) (hk : Kept fq w w') (hq : ∀ z ∈ fq, W0.heap.size ≤ z) : Kept fp0 W0 w' := h.trans hk (fun z hz => .inr (hq z hz))

/-- It stays where the loop's own blocks alone are touched. -/
theorem SorE9.stay (h : SorE9 B0 sp k A0 W0 fp0 on nn o0 o1 e' w) (hk : Kept fq w w') (hq : ∀ z ∈ fq, B0 ≤ z ∧ z < B0 + 6) (hB : W0.heap.size ≤ B0) : SorE9 B0 sp k A0 W0 fp0 on nn o0 o1 e' w' := by
  obtain ⟨B, fd, cnt, hv, rv, H, Rl, last, h1, h2, h3, h4, h5, h6, h7, h8, h9⟩ := h
  have hap : ∀ z ∈ fd ++ sofp sp hv rv, z ∉ fq := fun z hz e => by
    have := hq z e
    have := h9 z hz
    omega
  exact ⟨B, fd, cnt, hv, rv, H, Rl, last, h1.kept hk (fun z hz => hap z (List.mem_append.2 (.inl hz))), h2.kept hk (fun z hz => hap z (List.mem_append.2 (.inr hz))), h3, kept_own h4 hk (fun z hz => by have := hq z hz; omega), h5, h6, h7, h8, h9⟩

theorem RowsS.stay (h : RowsS sp k A0 W0 fp0 on l0 nn A fd cnt hv rv X last w) (hk : Kept fq w w') (hq : ∀ z ∈ fq, z ∉ fd ++ sofp sp hv rv ∧ W0.heap.size ≤ z) : RowsS sp k A0 W0 fp0 on l0 nn A fd cnt hv rv X last w' :=
  ⟨h.disk.kept hk (fun z hz e => (hq z e).1 (List.mem_append.2 (.inl hz))), h.sor.kept hk (fun z hz e => (hq z e).1 (List.mem_append.2 (.inr hz))), h.dis, kept_own h.kept hk (fun z hz => (hq z hz).2), h.new, h.ext, h.good, h.like, h.size⟩

theorem PassI.rows (I : PassI sp k A0 W0 fp0 on l0 nn o0 B0 b off X0 last0 j A fd cnt hv rv Y w) : RowsS sp k A0 W0 fp0 on l0 nn A fd cnt hv rv (X0.drop (j * k.fan) ++ Y) (last0 + j) w :=
  ⟨I.disk, I.sor, I.dis, I.kept, I.new, I.ext, I.good, I.like, I.size⟩

/-- pass's loop stays where nothing but new blocks, and blocks that are no cells, are touched. -/
theorem PassI.stay (I : PassI sp k A0 W0 fp0 on l0 nn o0 B0 b off X0 last0 j A fd cnt hv rv Y w) (hk : Kept fq w w') (hq : ∀ z ∈ fq, B0 ≤ z ∧ z < B0 + 6) (hB : W0.heap.size ≤ B0) (hb : b < B0) : PassI sp k A0 W0 fp0 on l0 nn o0 B0 b off X0 last0 j A fd cnt hv rv Y w' := by
  have hap : ∀ z ∈ fd ++ sofp sp hv rv, z ∉ fq := fun z hz e => by
    have := hq z e
    have := I.low z hz
    omega
  have R := I.rows.stay hk (fun z hz => ⟨fun e => hap z e hz, by have := hq z hz; omega⟩)
  refine ⟨R.disk, R.sor, R.dis, R.kept, R.new, R.ext, R.good, R.like, R.size, I.ylen, fun i hi hi2 => ?_, I.low, I.ops⟩
  obtain ⟨⟨a, cap, hu, l1, l2, l3, l4⟩, hB'⟩ := I.pieces i hi hi2
  refine ⟨⟨a, cap, hu, l1, l2, l3, fun x hx m hm => ?_⟩, fun x n c hx => ?_⟩
  · have hxb : x = ⟨b, off + i * k.fan, none⟩ := by
      rw [hx] at hu
      simp only [pcVI, Value.slice.injEq, Option.some.injEq] at hu
      exact hu.1.symm
    have h := l4 x hx m hm
    subst hxb
    rw [Addr.add_lit] at h ⊢
    exact hk.cell h (fun e => by have := hq _ e; simp only at this; omega)
  · obtain ⟨z1, z2, z3⟩ := hB' x n c hx
    exact ⟨z1, Nat.lt_of_lt_of_le z2 hk.size, z3⟩

/-- The beginning. -/
theorem PassI.start (R : RowsS sp k A0 W0 fp0 on l0 nn A fd cnt hv rv X0 last0 w) {ad : Option Addr} {cap : Nat} (hrv : rv = .slice ad X0.length cap) (hbo : 0 < X0.length → ad = some ⟨b, off, none⟩) (hl : 0 < X0.length) (hf : 0 < k.fan) (hB : w.heap.size ≤ B0) :
    PassI sp k A0 W0 fp0 on l0 nn A.2.ops B0 b off X0 last0 0 A fd cnt hv rv [] w := by
  have e0 : X0.drop (0 * k.fan) ++ [] = X0 := by rw [Nat.zero_mul, List.drop_zero, List.append_nil]
  have hlow : ∀ z ∈ fd ++ sofp sp hv rv, z < B0 := fun z hz => by
    rcases List.mem_append.1 hz with h | h
    · exact Nat.lt_of_lt_of_le (R.disk.lt z h) hB
    · exact Nat.lt_of_lt_of_le (R.sor.lt z h) hB
  refine ⟨R.disk, by rw [e0]; exact R.sor, R.dis, R.kept, R.new, by rw [e0]; exact R.ext, by rw [e0]; exact R.good, by rw [e0]; exact R.like, by rw [e0]; exact R.size, rfl, fun i _ hi => ?_, fun z hz => .inl (hlow z hz), Int.le_refl _, by simp⟩
  have had := hbo hl
  subst had
  subst hrv
  have hin := (pcN_ltI hf).1 hi
  obtain ⟨a', cap', hu, l1, l2, l3, l4⟩ := R.sor.rows.isI
  simp only [Value.slice.injEq, List.length_map] at hu
  obtain ⟨rfl, hn1, rfl⟩ := hu
  rw [List.length_map] at l1 l4
  have hlen : (pcX (X0.map (·.1)) k.fan i).length = min k.fan (X0.length - i * k.fan) := by simp [pcX]
  have hown : b ∈ own (.slice (some ⟨b, off, none⟩) X0.length cap) := by simp [own, Value.ownBlock]
  have hblt : b < w.heap.size := R.sor.lt b (sofp_mem.2 (.inr (.inr hown)))
  refine ⟨⟨some ⟨b, off + i * k.fan, none⟩, _, by rw [hlen]; rfl, by rw [hlen]; exact Nat.le_refl _, by omega, by simp, fun x hx m hm => ?_⟩, fun x n c hx => ?_⟩
  · simp only [Option.some.injEq] at hx
    subst hx
    rw [hlen] at hm
    have h := l4 _ rfl (i * k.fan + m) (by omega)
    rw [Addr.add_lit] at h ⊢
    rw [Nat.add_assoc, h]
    rw [getElem!_pos _ _ (by rw [List.length_map]; omega), getElem!_pos _ _ (by rw [hlen]; exact hm)]
    simp [pcX]
  · simp only [pcVI, Value.slice.injEq, Option.some.injEq] at hx
    obtain ⟨rfl, rfl, rfl⟩ := hx
    refine ⟨rfl, hblt, .inl ⟨hown, fun off' n' cap'' e => ?_⟩⟩
    simp only [Value.slice.injEq, Option.some.injEq, Addr.mk.injEq, true_and, and_true] at e
    obtain ⟨rfl, rfl, rfl⟩ := e
    left
    show off + i * k.fan + min k.fan (X0.length - i * k.fan) ≤ _
    omega

/-- An error behind begin, or behind merge. -/
theorem PassI.err (I : PassI sp k A0 W0 fp0 on l0 nn o0 B0 b off X0 last0 j A fd cnt hv rv Y w) (hB0 : B0 + 6 ≤ w.heap.size) {H' : List Rc} {Rl : List Nat} {last' : Nat} (d : Dk w' fd' k.p B.1 B.2) (s : SoM w' sp k cnt hv rv' H' Rl last') (hd : ∀ z ∈ sofp sp hv rv', z ∉ fd') (kk : Kept (fd ++ sofp sp hv rv) w w')
    (n1 : Newly w (fd ++ sofp sp hv rv) fd') (n2 : Newly w (fd ++ sofp sp hv rv) (sofp sp hv rv')) (p1 : o0 ≤ B.2.ops) (p2 : B.2.ops ≤ o1)
    (hc : ((e' = 6 ∧ A0.2.room - A0.2.used < 4 * nn) ∧ ∃ E', Ext A0 B E' ∧ (E'.map (·.1)).Perm (on :: Rl.map (rowB k.temp)) ∧ (∀ y ∈ Rl, y < 1000000) ∧ Rl.length ≤ 100000) ∨ (e' = 7 ∧ Cr A0 B (Mw k.temp on) (4 * nn))) : SorE9 B0 sp k A0 W0 fp0 on nn o0 o1 e' w' := by
  refine ⟨B, fd', cnt, hv, rv', H', Rl, last', d, s, hd, I.kept.trans kk I.new, newly_app (I.new.trans n1 I.kept.size) (I.new.trans n2 I.kept.size), p1, p2, hc, fun z hz => ?_⟩
  have : z ∈ fd ++ sofp sp hv rv ∨ w.heap.size ≤ z := by
    rcases List.mem_append.1 hz with h | h
    · exact n1 z h
    · exact n2 z h
  rcases this with h | h
  · exact I.low z h
  · exact .inr (Nat.le_trans hB0 h)

theorem partsN_pc {len fan : Nat} (hl : 0 < len) (hf : 0 < fan) : pcNI len fan = partsN len fan := by
  unfold pcNI partsN
  rw [show len + fan - 1 = len - 1 + fan by omega, Nat.add_div_right _ hf]
end

end Go.Proofs.YtgpbanjammipiaaGreatDoor

namespace Go.Proofs.YtgpbanjammipiaaGreatDoor
open Go.RowKit Go.Shelf

attribute [local go_sem] Oper.semAt_some

/-- Piece k of a slice that is cut by n. -/
def pcV (b off len n k : Nat) : Value := .slice (some ⟨b, off + k * n * 2, none⟩) (min n (len - k * n)) (min n (len - k * n))
/-- How many there are. -/
def pcN (len n : Nat) : Nat := (len + n - 1) / n
theorem pcN_lt {len n k : Nat} (hn : 0 < n) : k < pcN len n ↔ k * n < len := by
  unfold pcN
  rw [Nat.lt_div_iff_mul_lt hn]
  omega

/-- What a round keeps: all that lay below n₀, and two boxes. -/
def KeepC (n₀ B1 B2 : Nat) (A B : World) : Prop := Below n₀ A B ∧ B.cell? ⟨B1, 0, none⟩ = A.cell? ⟨B1, 0, none⟩ ∧ B.cell? ⟨B2, 0, none⟩ = A.cell? ⟨B2, 0, none⟩
theorem keepC_t {n₀ B1 B2 : Nat} {A B C : World} (h : KeepC n₀ B1 B2 A B) (k : KeepC n₀ B1 B2 B C) : KeepC n₀ B1 B2 A C := ⟨h.1.trans k.1, k.2.1.trans h.2.1, k.2.2.trans h.2.2⟩
theorem keepC_b {n₀ B1 B2 : Nat} {w : World} (hn : n₀ ≤ w.heap.size) (hB1 : B1 < w.heap.size) (hB2 : B2 < w.heap.size) (W : World) (l : Nat) (o o' : Obj) (hl : w.heap.size ≤ l) (h : W.heap[l]? = some o) (hc : o.isCells = false) (hk : o.isWalk = false) : KeepC n₀ B1 B2 W (W.putObj l o') :=
  ⟨belowK_b hn W l o o' hl h hc hk, World.cell?_of_block (w := W) ((grownBy_putObj' W l o').block B1 (by have := (Array.getElem?_eq_some_iff.1 h).1; show B1 < _; omega) (by simp; omega)), World.cell?_of_block (w := W) ((grownBy_putObj' W l o').block B2 (by have := (Array.getElem?_eq_some_iff.1 h).1; show B2 < _; omega) (by simp; omega))⟩

set_option maxRecDepth 100000 in
set_option maxHeartbeats 2000000 in
theorem chunk1_in (m : Nat) (hm : 1 ≤ m) (l B1 B2 b off len cap n : Nat) (ad : Option Addr) (had : 0 < len → ad = some ⟨b, off, none⟩) (hcap : len ≤ cap) (hlen : len ≤ 1000000) (hn : 0 < n) (hn1 : n ≤ 1000000) (n₀ n₁ : Nat) (J Jx : List Nat → World → Prop)
    (hY : ∀ pre x W, J pre W → pre.length < pcN len n → YieldAt Fence.wide (m - 1) Tryz.prog l #[pcV b off len n x] W fun e W' =>
      (e = .returned (.bool true) ∧ J (pre ++ [x]) W' ∧ KeepC n₀ B1 B2 W W') ∨ (e = .returned (.bool false) ∧ Jx (pre ++ [x]) W'))
    (hab : AbidesFrom n₁ J) (W : World) (h1 : W.cell? ⟨B1, 0, none⟩ = some (.slice ad len cap)) (h2 : W.cell? ⟨B2, 0, none⟩ = some (.int .i64 n)) (h0 : J [] W) :
    CallsIn Fence.wide m Tryz.prog 72 #[.func (.yield l) #[] #[], .pointer (some ⟨B1, 0, none⟩), .pointer (some ⟨B2, 0, none⟩)] W fun e W' => (∃ v, e = .returned v) ∧
      ((∃ ys, ys = List.range (pcN len n) ∧ J ys W') ∨ (∃ pre, (∃ k, k ≤ pcN len n ∧ pre = List.range k) ∧ Jx pre W')) := by
  refine callsIn_of_wp Tryz.func72 rfl trivial ?_ rfl
  simp only [Tryz.ntmps72, List.size_toArray, List.length_cons, List.length_nil, Nat.reduceAdd, Nat.reduceSub, Array.replicate_succ, Array.replicate_zero, List.push_toArray, List.append_toArray, List.nil_append, List.cons_append]
  gi_wp2
  gi_loopw [4] (fun i wr => ∃ k p : Nat, k ≤ pcN len n ∧ p = k * n ∧ i = .int .i64 (p : Int) ∧ Hid (J (List.range k) wr ∧ KeepC n₀ B1 B2 W wr))
    (fun i _ => len + n - numOf i)
  case atStart => exact ⟨0, 0, Nat.zero_le _, by simp, rfl, h0, Below.refl _ _, rfl, rfl⟩
  case round =>
    obtain ⟨k, p, hk, hp, rfl, HJ⟩ := hrel
    have hB1 : wr.cell? ⟨B1, 0, none⟩ = some (.slice ad len cap) := HJ.out.2.2.1.trans h1
    have hB2 : wr.cell? ⟨B2, 0, none⟩ = some (.int .i64 n) := HJ.out.2.2.2.trans h2
    by_cases hlt : p < len
    · obtain rfl := had (by omega)
      have hklt : k < pcN len n := by rw [pcN_lt hn, ← hp]; exact hlt
      obtain ⟨en, hen⟩ : ∃ en, en = min n (len - p) := ⟨_, rfl⟩
      have hmin : ∀ (ts : Array TypeId) (t : TypeId) (w : World), (Builtin.min_ ts t #[.int .i64 (n : Int), .int .i64 ((len - p : Nat) : Int)]).run Tryz.prog w = .ok (.int .i64 (en : Int)) w := fun ts t w => by
        rw [run_min_int2]
        congr 2
        split <;> omega
      have hw1 : IntKind.i64.wrap ((p : Int) + (en : Int)) = (p : Int) + (en : Int) := i64_small _ (by omega) (by omega)
      have hw2 : IntKind.i64.wrap ((p : Int) + (n : Int)) = (p : Int) + (n : Int) := i64_small _ (by omega) (by omega)
      have hple : (p : Int) ≤ (len : Int) := by omega
      have hen1 : (p : Int) + (en : Int) ≤ (len : Int) := by omega
      have hmi : min (n : Int) ((len - p : Nat) : Int) = (en : Int) := by omega
      have htn : ((p : Int) + (en : Int)).toNat - p = en := by omega
      have HEN := hide (And.intro hen hp)
      have HY := hide hY
      clear hen hY hp
      gi_wp2
      gi_quiet (fail)
      have hJd : J (List.range k) (wr.drewN nq) := hab _ _ _ none HJ.out.1 ⟨rfl, rfl, rfl, Nat.le_refl _, fun _ _ _ => rfl⟩ (fun _ e => by cases e)
      obtain ⟨fn, tmps, assign, body, hy, hR⟩ := HY.out _ k (wr.drewN nq) hJd (by rw [List.length_range]; exact hklt)
      have hpc : pcV b off len n k = .slice (some ⟨b, off + p * 2, none⟩) en en := by rw [pcV, ← HEN.out.2, ← HEN.out.1]
      rw [hpc] at hy
      have HR := hide hR
      clear hR hJd hpc
      gi_wp2
      refine HR.out.mono ?_
      rintro e W3 (⟨rfl, hJ3, hk3⟩ | ⟨rfl, hJx3⟩)
      · have hB2' : W3.cell? ⟨B2, 0, none⟩ = some (.int .i64 n) := hk3.2.2.trans hB2
        have HJ3 := hide (And.intro hJ3 hk3)
        clear hJ3 hk3 hB1 hB2 HR
        gi_wp2
        go_roundw
        case rel =>
          have kd := HJ3.out.2
          have hk3' : KeepC n₀ B1 B2 wr W3 := ⟨⟨kd.1.os, kd.1.tape, kd.1.output, kd.1.size, kd.1.block⟩, kd.2.1, kd.2.2⟩
          refine ⟨k + 1, p + n, by omega, by rw [HEN.out.2, Nat.add_mul, Nat.one_mul], by go_num, ?_, keepC_t HJ.out.2 hk3'⟩
          have := HJ3.out.1
          rw [List.range_succ]
          exact this
        case measure => simp [numOf]; omega
      · gi_wp2
        refine bodyPost_ret (results_none rfl _ _ _) rfl ?_
        refine ⟨⟨_, rfl⟩, .inr ⟨_, ⟨k + 1, by omega, rfl⟩, ?_⟩⟩
        rw [List.range_succ]
        exact hJx3
    · have hke : k = pcN len n := by
        have h := pcN_lt (len := len) (k := k) hn
        rw [← hp] at h
        omega
      have HK := hide hke
      have hle : ¬ ((p : Int) < (len : Int)) := by omega
      clear hp hke
      gi_wp2
      go_end0
      exact ⟨⟨_, rfl⟩, .inl (by rw [← HK.out]; exact HJ.out.1)⟩

/-- slices.Chunk(s, n): both are boxed; the function value captures the boxes. -/
theorem chunk_in (m : Nat) (a : Option Addr) (len cap : Nat) (n : Nat) (hn : 0 < n) (w : World) :
    CallsIn Fence.wide m Tryz.prog 50 #[.slice a len cap, .int .i64 n] w fun e w' => e = .returned (.func (.func 72) #[] #[.pointer (some ⟨w.heap.size, 0, none⟩), .pointer (some ⟨w.heap.size + 1, 0, none⟩)]) ∧ w' = (w.alloc (.cells #[.slice a len cap] 22)).alloc (.cells #[.int .i64 n] 3) := by
  have h1 : (n : Int) ≥ 1 := by omega
  refine callsIn_of_wp Tryz.func50 rfl trivial ?_ rfl
  simp only [Tryz.ntmps50, List.size_toArray, List.length_cons, List.length_nil, Nat.reduceAdd, Nat.reduceSub, Array.replicate_succ, Array.replicate_zero, List.push_toArray, List.append_toArray, List.nil_append, List.cons_append]
  gi_wp2
  go_ret
  exact ⟨rfl, rfl⟩

theorem chunk_stops (m : Nat) (hm : 1 ≤ m) (B1 B2 b off len cap n : Nat) (ad : Option Addr) (had : 0 < len → ad = some ⟨b, off, none⟩) (hcap : len ≤ cap) (hlen : len ≤ 1000000) (hn : 0 < n) (hn1 : n ≤ 1000000) (n₀ : Nat) (w : World)
    (h1 : w.cell? ⟨B1, 0, none⟩ = some (.slice ad len cap)) (h2 : w.cell? ⟨B2, 0, none⟩ = some (.int .i64 n)) :
    SeqStopsK Fence.wide m Tryz.prog 72 #[.pointer (some ⟨B1, 0, none⟩), .pointer (some ⟨B2, 0, none⟩)] (fun x : Nat => #[pcV b off len n x]) (KeepC n₀ B1 B2) (fun ys => ys = List.range (pcN len n))
      (fun pre => ∃ k, k ≤ pcN len n ∧ pre = List.range k) (pcN len n) w := fun l J Jx W hW1 hab _ hY h0 =>
  chunk1_in m hm l B1 B2 b off len cap n ad had hcap hlen hn hn1 n₀ _ J Jx hY hab W ((hW1.cell (p := ⟨B1, 0, none⟩) (World.block_lt_of_cell? w _ h1)).trans h1) ((hW1.cell (p := ⟨B2, 0, none⟩) (World.block_lt_of_cell? w _ h2)).trans h2) h0

end Go.Proofs.YtgpbanjammipiaaGreatDoor
