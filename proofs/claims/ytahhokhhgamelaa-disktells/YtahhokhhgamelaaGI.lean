/-
  Lemma texts, one behind the other: DStp, DStp2, DDuo4. No statement of the seat is proved here.
-/
import Derived.WalkKit
import Derived.ProofKit
import Derived.OpenShut
import Derived.ShutString
import Derived.Deep.Grids
import Derived.Deep.Slices
import Derived.Deep.Strs
import Derived.Lib.SmallJoins
import Derived.Test.YtahhokhhgamelaaGH
import Derived.Test.YtahhokhhgamelaaGD
namespace Go.Proofs.Ytahhokhhgamelaa
open Go.ChangeShapes Go.WideShapes Go.ChangeAt Go.RowKit Go.Joins Go.Deep Go.Maps

/-- A step: Kind, At, N, Name, Other, Data (a slice, and its bytes), Keep (a slice, and its truths). -/
structure St where
  kind : Int
  at_ : Int
  n : Int
  nm : ByteArray
  ot : ByteArray
  da : Option Addr
  dn : Nat
  dc : Nat
  bs : List Int
  ka : Option Addr
  kn : Nat
  kc : Nat
  ks : List Bool

/-- Its seven cells. -/
def St.cells (s : St) : List Value := [.int .i64 s.kind, .int .i64 s.at_, .int .i64 s.n, .string s.nm, .string s.ot, .slice s.da s.dn s.dc, .slice s.ka s.kn s.kc]

/-- What is known of a step that came in. -/
structure St.ok (w : World) (s : St) : Prop where
  k0 : -9223372036854775808 ≤ s.kind ∧ s.kind ≤ 9223372036854775807
  a0 : -9223372036854775808 ≤ s.at_ ∧ s.at_ ≤ 9223372036854775807
  n0 : -9223372036854775808 ≤ s.n ∧ s.n ≤ 9223372036854775807
  nml : s.nm.size ≤ maxLen
  otl : s.ot.size ≤ maxLen
  len : s.bs.length = s.dn
  row : IsB w (.slice s.da s.dn s.dc) s.bs
  cap : s.dn ≤ s.dc
  klen : s.ks.length = s.kn
  keep : IsK w (.slice s.ka s.kn s.kc) s.ks
  kcap : s.kn ≤ s.kc

/-- The slice v holds these steps. -/
def IsS (w : World) (v : Value) (ss : List St) : Prop :=
  ∃ (a : Option Addr) (cap : Nat), v = .slice a ss.length cap ∧ (a = none → ss = []) ∧
    (∀ x, a = some x → ∀ j (h : j < ss.length) i u, (ss[j].cells)[i]? = some u → w.cell? (x.add (j * 7 + i)) = some u) ∧ ∀ s ∈ ss, s.ok w

theorem trod_struct7 {H : Type} {enc : TypeId × Value → H} {P : Program} {w : World} {base : Nat} {spare : Nat → Bool} {held : Bool} {t : TypeId} {f0 f1 f2 f3 f4 f5 f6 : Field} {fuel : Nat} {cs : List Value} {x : DataW H × List MemPlace} (ht : P.underlying t = some (.struct #[f0, f1, f2, f3, f4, f5, f6])) (h : DataW.trod enc P w base spare held fuel t cs = some x) :
    ∃ y0 y1 y2 y3 y4 y5 y6 n, cs.length = P.cellsOf t ∧
      DataW.trod enc P w base spare held n f0.type ((cs.drop f0.offset).take (P.cellsOf f0.type)) = some y0 ∧
      DataW.trod enc P w base spare held n f1.type ((cs.drop f1.offset).take (P.cellsOf f1.type)) = some y1 ∧
      DataW.trod enc P w base spare held n f2.type ((cs.drop f2.offset).take (P.cellsOf f2.type)) = some y2 ∧
      DataW.trod enc P w base spare held n f3.type ((cs.drop f3.offset).take (P.cellsOf f3.type)) = some y3 ∧
      DataW.trod enc P w base spare held n f4.type ((cs.drop f4.offset).take (P.cellsOf f4.type)) = some y4 ∧
      DataW.trod enc P w base spare held n f5.type ((cs.drop f5.offset).take (P.cellsOf f5.type)) = some y5 ∧
      DataW.trod enc P w base spare held n f6.type ((cs.drop f6.offset).take (P.cellsOf f6.type)) = some y6 := by
  obtain ⟨xs, n, _, rfl, hl, hlen, hf⟩ := DataW.trod_struct ht h
  match xs, hlen with
  | [y0, y1, y2, y3, y4, y5, y6], _ => exact ⟨y0, y1, y2, y3, y4, y5, y6, n, hl, by simpa using hf 0 f0 rfl, by simpa using hf 1 f1 rfl, by simpa using hf 2 f2 rfl, by simpa using hf 3 f3 rfl, by simpa using hf 4 f4 rfl, by simpa using hf 5 f5 rfl, by simpa using hf 6 f6 rfl⟩

theorem cellsStep : Try.prog.cellsOf 31 = 7 := by kernel_rfl
theorem cellsInt : Try.prog.cellsOf 3 = 1 := by kernel_rfl
theorem cellsStr : Try.prog.cellsOf 9 = 1 := by kernel_rfl
theorem cellsBools : Try.prog.cellsOf 29 = 1 := by kernel_rfl
theorem cellsBytes : Try.prog.cellsOf 28 = 1 := by kernel_rfl

theorem bytesIn {H : Type} {enc : TypeId × Value → H} {W : World} {held : Bool} {fuel : Nat} {cs : List Value} {x : DataW H × List MemPlace}
    (h : DataW.trod enc Try.prog W 0 (fun _ => true) held fuel 28 cs = some x) : ∃ a n c bs, cs = [.slice a n c] ∧ IsB W (.slice a n c) bs ∧ bs.length = n ∧ n ≤ c := by
  rcases open_ints Try.underlying28 Try.underlying5 (by kernel_rfl) h with ⟨hcs, _⟩ | ⟨y, l, c, zs, hcs, _, hl2, hm2, hz, _, hcell, hwz⟩
  · exact ⟨none, 0, 0, [], hcs, IsB.nil W, rfl, Nat.le_refl _⟩
  · simp only [if_true] at hz
    have e : (zs.take l).length = l := by simp; omega
    refine ⟨some y, l, c, zs.take l, hcs, ⟨some y, c, by simp only [e], by simp only [e]; exact hl2, by simp, fun q hq j hj => ?_, fun z hz => bounds_u8 (hwz z (List.mem_of_mem_take hz))⟩, e, hl2⟩
    simp only [Option.some.injEq] at hq
    subst hq
    simp only [e] at hj
    rw [hcell j (by omega), List.getElem?_take_of_lt hj]
    rfl

theorem boolsIn {H : Type} {enc : TypeId × Value → H} {W : World} {held : Bool} {fuel : Nat} {cs : List Value} {x : DataW H × List MemPlace}
    (h : DataW.trod enc Try.prog W 0 (fun _ => true) held fuel 29 cs = some x) : ∃ a n c ks, cs = [.slice a n c] ∧ IsK W (.slice a n c) ks ∧ ks.length = n ∧ n ≤ c := by
  rcases open_bools Try.underlying29 Try.underlying4 (by kernel_rfl) h with ⟨hcs, _⟩ | ⟨y, l, c, B, hcs, _, hl2, hm2, _, hcell⟩
  · exact ⟨none, 0, 0, [], hcs, IsK.nil W, rfl, Nat.le_refl _⟩
  · refine ⟨some y, l, c, (List.range l).map B, hcs, ⟨some y, c, by simp, by simp; exact hl2, by simp, fun q hq j hj => ?_⟩, by simp, hl2⟩
    simp only [Option.some.injEq] at hq
    subst hq
    simp only [List.length_map, List.length_range] at hj
    rw [hcell j (by omega)]
    simp [hj]

/-- A step that came in. -/
theorem stepIn {H : Type} {enc : TypeId × Value → H} {W : World} {held : Bool} {fuel : Nat} {cs : List Value} {x : DataW H × List MemPlace}
    (h : DataW.trod enc Try.prog W 0 (fun _ => true) held fuel 31 cs = some x) : ∃ s : St, cs = s.cells ∧ s.ok W := by
  obtain ⟨y0, y1, y2, y3, y4, y5, y6, n, hl, h0, h1, h2, h3, h4, h5, h6⟩ := trod_struct7 Try.underlying31 h
  rw [cellsStep] at hl
  simp only [cellsInt, cellsStr, cellsBools, cellsBytes] at h0 h1 h2 h3 h4 h5 h6
  match cs, hl with
  | [c0, c1, c2, c3, c4, c5, c6], _ =>
    obtain ⟨k, e0, _, w0⟩ := DataW.trod_int Try.underlying3 h0
    obtain ⟨a, e1, _, w1⟩ := DataW.trod_int Try.underlying3 h1
    obtain ⟨m, e2, _, w2⟩ := DataW.trod_int Try.underlying3 h2
    obtain ⟨nm, e3, _, w3⟩ := DataW.trod_string Try.underlying9 h3
    obtain ⟨ot, e4, _, w4⟩ := DataW.trod_string Try.underlying9 h4
    obtain ⟨da, dn, dc, bs, e5, i5, l5, c5'⟩ := bytesIn h5
    obtain ⟨ka, kn, kc, ks, e6, i6, l6, c6'⟩ := boolsIn h6
    simp at e0 e1 e2 e3 e4 e5 e6
    subst e0 e1 e2 e3 e4 e5 e6
    exact ⟨⟨k, a, m, nm, ot, da, dn, dc, bs, ka, kn, kc, ks⟩, rfl, bounds_i64 w0, bounds_i64 w1, bounds_i64 w2, w3, w4, l5, i5, c5', l6, i6, c6'⟩

theorem stepsIn03 {H : Type} {enc : TypeId × Value → H} {W : World} {held : Bool} {fuel : Nat} {cs : List Value} {x : DataW H × List MemPlace}
    (h : DataW.trod enc Try.prog W 0 (fun _ => true) held fuel 22 cs = some x) : ∃ a len cap ss, cs = [.slice a len cap] ∧ IsS W (.slice a len cap) ss ∧ ss.length = len ∧ len ≤ maxLen := by
  rcases open_slice Try.underlying22 h with ⟨rfl, _⟩ | ⟨a, len, cap, m, n, D, Pl, rfl, hb, hl, hm, hmm, _, hx⟩
  · exact ⟨none, 0, 0, [], rfl, ⟨none, 0, rfl, fun _ => rfl, by simp, by simp⟩, rfl, by unfold maxLen; omega⟩
  · rw [cellsStep] at hx
    have hlm : len ≤ m := by rw [hmm]; split <;> omega
    have key : ∀ i, i < len → ∃ s : St, W.cells? 0 (a.add (i * 7)) 7 = some s.cells ∧ s.ok W := fun i hi => by
      obtain ⟨cs', h1, h2⟩ := hx i (by omega)
      obtain ⟨s, rfl, hs⟩ := stepIn h2
      exact ⟨s, h1, hs⟩
    obtain ⟨E, hE⟩ : ∃ E : Nat → St, ∀ i, i < len → W.cells? 0 (a.add (i * 7)) 7 = some (E i).cells ∧ (E i).ok W := ⟨fun i => if hi : i < len then Classical.choose (key i hi) else ⟨0, 0, 0, ByteArray.empty, ByteArray.empty, none, 0, 0, [], none, 0, 0, []⟩, fun i hi => by simp only [hi, dif_pos]; exact Classical.choose_spec (key i hi)⟩
    have hlen : ((List.range len).map E).length = len := by simp
    refine ⟨some a, len, cap, (List.range len).map E, rfl, ⟨some a, cap, by rw [hlen], by simp, fun x hx j hj i u hu => ?_, fun e he => ?_⟩, hlen, by omega⟩
    · simp only [Option.some.injEq] at hx
      subst hx
      rw [hlen] at hj
      simp only [List.getElem_map, List.getElem_range] at hu
      obtain ⟨_, _, hc⟩ := World.cells?_some (hE j hj).1
      have hi : i < 7 := by have := (List.getElem?_eq_some_iff.1 hu).1; simpa [St.cells] using this
      have := hc i hi
      rw [add_add, hu] at this
      exact this
    · simp only [List.mem_map, List.mem_range] at he
      obtain ⟨i, hi, rfl⟩ := he
      exact (hE i hi).2

/-- A step, read in a later world. -/
theorem IsS.read {w0 w : World} {a : Option Addr} {n cap : Nat} {ss : List St} (h : IsS w0 (.slice a n cap) ss) (hb : Below w0.heap.size w0 w) (j : Nat) (hj : j < ss.length) :
    ∃ b off, a = some ⟨b, off, none⟩ ∧ w.cell? ⟨b, off + j * 7, none⟩ = some (.int .i64 ss[j].kind) ∧ w.cell? ⟨b, off + j * 7 + 1, none⟩ = some (.int .i64 ss[j].at_) ∧ w.cell? ⟨b, off + j * 7 + 2, none⟩ = some (.int .i64 ss[j].n) ∧
      w.cell? ⟨b, off + j * 7 + 3, none⟩ = some (.string ss[j].nm) ∧ w.cell? ⟨b, off + j * 7 + 4, none⟩ = some (.string ss[j].ot) ∧ w.cell? ⟨b, off + j * 7 + 5, none⟩ = some (.slice ss[j].da ss[j].dn ss[j].dc) ∧ w.cell? ⟨b, off + j * 7 + 6, none⟩ = some (.slice ss[j].ka ss[j].kn ss[j].kc) := by
  obtain ⟨a', cap', e, h1, h2, h3⟩ := h
  simp only [Value.slice.injEq] at e
  obtain ⟨rfl, rfl, rfl⟩ := e
  cases a with
  | none => rw [h1 rfl] at hj; simp at hj
  | some x =>
    obtain ⟨b, off, spot⟩ := x
    have g : ∀ i u, (ss[j].cells)[i]? = some u → w.cell? ((⟨b, off, spot⟩ : Addr).add (j * 7 + i)) = some u := fun i u hu => by
      have := h2 _ rfl j hj i u hu
      have hlt := World.block_lt_of_cell? w0 _ this
      rw [World.cell?_of_block (w := w0) (hb.block _ hlt)]
      exact this
    have hc := h2 _ rfl 0 (by omega) 0 _ rfl
    have hspot : spot = none := by simpa [Addr.add] using World.cell?_spot hc
    subst hspot
    have g0 := g 0 _ rfl
    have g1 := g 1 _ rfl
    have g2 := g 2 _ rfl
    have g3 := g 3 _ rfl
    have g4 := g 4 _ rfl
    have g5 := g 5 _ rfl
    have g6 := g 6 _ rfl
    rw [Addr.add_lit] at g0 g1 g2 g3 g4 g5 g6
    exact ⟨b, off, rfl, g0, g1, g2, g3, g4, g5, g6⟩

theorem IsS.ok {w0 : World} {v : Value} {ss : List St} (h : IsS w0 v ss) (j : Nat) (hj : j < ss.length) : ss[j].ok w0 := by
  obtain ⟨a', cap', e, h1, h2, h3⟩ := h
  exact h3 _ (List.getElem_mem hj)

/-- A step whose bytes, and truths, are cut to sixty. -/
def St.few (s : St) : St := { s with dn := min s.dn 60, bs := s.bs.take (min s.dn 60), kn := min s.kn 60, ks := s.ks.take (min s.kn 60) }

theorem St.ok.few {w : World} {s : St} (h : s.ok w) : s.few.ok w := by
  have h1 := h.len
  have h2 := h.klen
  have h3 := h.cap
  have h4 := h.kcap
  refine ⟨h.k0, h.a0, h.n0, h.nml, h.otl, ?_, ?_, ?_, ?_, ?_, ?_⟩
  · simp only [St.few, List.length_take]; omega
  · obtain ⟨a', c', he, q1, q2, q3, q4⟩ := h.row
    simp only [Value.slice.injEq] at he
    obtain ⟨rfl, e2, rfl⟩ := he
    have e : (s.bs.take (min s.dn 60)).length = min s.dn 60 := by rw [List.length_take]; omega
    refine ⟨s.da, s.dc, by simp only [St.few, e], by simp only [St.few, e]; omega, fun hn => ?_, fun x hx j hj => ?_, fun z hz => q4 z (List.mem_of_mem_take hz)⟩
    · simp only [St.few]
      rw [(q2 hn).1]
      exact ⟨by simp, (q2 hn).2⟩
    · simp only [St.few, e] at hj ⊢
      rw [q3 x hx j (by omega), List.getElem?_take_of_lt hj]
  · simp only [St.few]; omega
  · simp only [St.few, List.length_take]; omega
  · obtain ⟨a', c', he, q1, q2, q3⟩ := h.keep
    simp only [Value.slice.injEq] at he
    obtain ⟨rfl, e2, rfl⟩ := he
    have e : (s.ks.take (min s.kn 60)).length = min s.kn 60 := by rw [List.length_take]; omega
    refine ⟨s.ka, s.kc, by simp only [St.few, e], by simp only [St.few, e]; omega, fun hn => ?_, fun x hx j hj => ?_⟩
    · simp only [St.few]
      rw [(q2 hn).1]
      exact ⟨by simp, (q2 hn).2⟩
    · simp only [St.few, e] at hj ⊢
      rw [q3 x hx j (by omega), List.getElem?_take_of_lt hj]
  · simp only [St.few]; omega

end Go.Proofs.Ytahhokhhgamelaa

namespace Go.Proofs.Ytahhokhhgamelaa
open Go.ChangeShapes Go.WideShapes Go.ChangeAt Go.RowKit Go.Joins Go.Deep Go.Maps

theorem min60 (n : Nat) (ts : Array TypeId) (t : TypeId) (w : World) : (Builtin.min_ ts t #[.int .i64 (n : Int), .int .i64 60]).run Try.prog w = .ok (.int .i64 ((min n 60 : Nat) : Int)) w := by
  rw [run_min_int2]
  congr 2
  split <;> omega

theorem fewRes (tmps : Array Value) (w : World) (b : Nat) (x0 x1 x2 x3 x4 x5 x6 : Value) (h2 : tmps.getD 2 undef = .pointer (some ⟨b, 0, none⟩)) (c0 : w.cell? ⟨b, 0, none⟩ = some x0) (c1 : w.cell? ⟨b, 1, none⟩ = some x1) (c2 : w.cell? ⟨b, 2, none⟩ = some x2) (c3 : w.cell? ⟨b, 3, none⟩ = some x3) (c4 : w.cell? ⟨b, 4, none⟩ = some x4) (c5 : w.cell? ⟨b, 5, none⟩ = some x5) (c6 : w.cell? ⟨b, 6, none⟩ = some x6) :
    (results Try.f15 tmps).run Try.prog w = .ok (.agg #[x0, x1, x2, x3, x4, x5, x6]) w := by
  have h2' : tmps[2]?.getD undef = .pointer (some ⟨b, 0, none⟩) := by simpa using h2
  simp [results, Try.results15, go_sem, h2', c0, c1, c2, c3, c4, c5, c6]

set_option maxRecDepth 100000 in
set_option maxHeartbeats 1000000 in
theorem few_any (s : St) (w : World) (h1 : s.dn ≤ s.dc) (h2 : s.kn ≤ s.kc) : Calls Try.prog 15 #[.agg s.cells.toArray] w fun e w' => e = .returned (.agg s.few.cells.toArray) ∧ Below w.heap.size w w' := by
  obtain ⟨kind, at_, n, nm, ot, da, dn, dc, bs, ka, kn, kc, ks⟩ := s
  simp only at h1 h2
  unfold St.few St.cells
  simp only
  have m1 := min60 dn
  have m2 := min60 kn
  obtain ⟨dm, hdm⟩ : ∃ dm, dm = min dn 60 := ⟨_, rfl⟩
  obtain ⟨km, hkm⟩ : ∃ km, km = min kn 60 := ⟨_, rfl⟩
  rw [← hdm] at m1 ⊢
  rw [← hkm] at m2 ⊢
  have a1 : (0 : Int) ≤ (dm : Int) := by omega
  have a2 : (dm : Int) ≤ (dc : Int) := by omega
  have a3 : (0 : Int) ≤ (km : Int) := by omega
  have a4 : (km : Int) ≤ (kc : Int) := by omega
  clear h1 h2 hdm hkm
  go_enter Try.func15, Try.ntmps15
  go_wp2
  have hb : ∀ X Y : Obj, ((w.alloc X).alloc Y).heap[w.heap.size + 1]? = some Y := fun X Y => by
    have h0 := heap_alloc_new (w.alloc X) Y
    have h1 : (w.alloc X).heap.size = w.heap.size + 1 := by simp
    rw [h1] at h0
    exact h0
  refine bodyPost_ret (fewRes _ _ (w.heap.size + 1) _ _ _ _ _ _ _ rfl (cell_of_heap (hb _ _) 0) (cell_of_heap (hb _ _) 1) (cell_of_heap (hb _ _) 2) (cell_of_heap (hb _ _) 3) (cell_of_heap (hb _ _) 4) (cell_of_heap (hb _ _) 5) (cell_of_heap (hb _ _) 6)) rfl ?_
  exact ⟨rfl, ((Below.refl _ w).alloc (Nat.le_refl _) _).alloc (by simp) _⟩

set_option maxRecDepth 100000 in
set_option maxHeartbeats 1000000 in
theorem texts_any {w : World} {va vb : Value} {ss : List (List UInt8)} (ha : RowS w va ss) (hb : RowS w vb ss) (hl : ss.length ≤ 1000000) : Calls Try.prog 34 #[va, vb] w fun e w' => e = .returned (.bool true) ∧ Below w.heap.size w w' := by
  obtain ⟨aa, ac, rfl⟩ : ∃ a c, va = .slice a ss.length c := by
    rcases ha.2 with ⟨rfl, h0⟩ | ⟨g, cap, cur, rfl, _⟩
    · rw [h0]; exact ⟨_, _, rfl⟩
    · exact ⟨_, _, rfl⟩
  obtain ⟨ba, bc, rfl⟩ : ∃ a c, vb = .slice a ss.length c := by
    rcases hb.2 with ⟨rfl, h0⟩ | ⟨g, cap, cur, rfl, _⟩
    · rw [h0]; exact ⟨_, _, rfl⟩
    · exact ⟨_, _, rfl⟩
  have HA := hide ha
  have HB := hide hb
  obtain ⟨n, hn⟩ : ∃ n, n = ss.length := ⟨_, rfl⟩
  have HN := hide hn
  rw [← hn] at hl ⊢
  clear ha hb hn
  go_enter Try.func34, Try.ntmps34
  go_wp2
  go_loopw [5] (fun i wr => ∃ k : Nat, i = .int .i64 k ∧ k ≤ n ∧ ∃ m, wr = w.drewN m) (fun i _ => n - (intOf i).toNat)
  case atStart => exact ⟨0, rfl, Nat.zero_le _, 0, rfl⟩
  case round =>
    obtain ⟨k, rfl, hk, m, hwr⟩ := hrel
    have HWR := hide hwr
    by_cases hlt : k < n
    · have hks : k < ss.length := by have := HN.out; omega
      have cellOf : ∀ {a : Option Addr} {c : Nat}, RowS w (.slice a ss.length c) ss → ∃ g, a = some ⟨g, 0, none⟩ ∧ w.cell? ⟨g, k, none⟩ = some (encStr ss[k]) := by
        intro a c h
        rcases h.2 with ⟨e, h0⟩ | ⟨g, cap, cur, e, _⟩
        · omega
        · simp only [Value.slice.injEq] at e
          obtain ⟨rfl, _, rfl⟩ := e
          have q := World.ownsRow.cells h (g := g) rfl k (encStr ss[k]) (by simp [hks])
          rw [Addr.add_lit, Nat.zero_add] at q
          exact ⟨g, rfl, q⟩
      obtain ⟨g1, e1, q1⟩ := cellOf HA.out
      obtain ⟨g2, e2, q2⟩ := cellOf HB.out
      subst e1 e2
      have hkn : (k : Int) < (n : Int) := by omega
      obtain ⟨t, ht⟩ : ∃ t, Value.string t = encStr ss[k] := ⟨_, rfl⟩
      have q1' : wr.cell? ⟨g1, k, none⟩ = some (.string t) := by rw [hwr, ht]; exact q1
      have q2' : wr.cell? ⟨g2, k, none⟩ = some (.string t) := by rw [hwr, ht]; exact q2
      clear q1 q2 cellOf ht hwr
      go_wp2
      go_quiet (fail)
      go_wp2
      go_roundw
      case rel => exact ⟨k + 1, by go_num, by omega, _, by rw [HWR.out]; exact drewN_two w m _⟩
      case measure => simp [intOf]; omega
    · obtain rfl : k = n := by omega
      clear hwr
      go_wp2
      go_ret
      refine ⟨rfl, ?_⟩
      rw [HWR.out]
      exact below_drewN (Below.refl _ _) m

end Go.Proofs.Ytahhokhhgamelaa

namespace Go.Proofs.Ytahhokhhgamelaa
open Go.ChangeShapes Go.WideShapes Go.ChangeAt Go.RowKit Go.Joins Go.Deep Go.Maps

/-- What a new disk is. -/
def S0 (R : Int) : Ds := { room := max R 0, used := 0, ops := 0, down := false, left := 0, keep := [] }

/-- A new disk, new since w0. -/
def Lone (w0 w : World) (p : Nat) (R : Int) : Prop := ∃ fp, Dk w fp p [] (S0 R) ∧ (∀ x ∈ fp, w0.heap.size ≤ x) ∧ Below w0.heap.size w0 w

theorem lone_new (R : Int) (hR : R ≤ 1000) {w0 w : World} (hb : Below w0.heap.size w0 w) : Calls Try.prog 13 #[.int .i64 R] w fun e w' => ∃ p, e = .returned (.pointer (some ⟨p, 0, none⟩)) ∧ Lone w0 w' p R := by
  refine (new_dk R (by omega) w).mono ?_
  rintro e w' ⟨rfl, fp, d, b, f⟩
  exact ⟨_, rfl, fp, d, fun x hx => Nat.le_trans hb.size (f x hx), hb.trans (b.mono hb.size)⟩

theorem Lone.duo {R : Int} {w0 w : World} {p : Nat} (h : Lone w0 w p R) : Calls Try.prog 14 #[.int .i64 R] w fun e w' => ∃ r, e = .returned (.pointer (some ⟨r, 0, none⟩)) ∧ Half w0 w' p r [] ([], S0 R) ([], S0 R) := by
  obtain ⟨fp, D, b1, bl⟩ := h
  refine (rk_new R w).mono ?_
  rintro e w' ⟨r, rp, rfl, d, b, f⟩
  have D2 := D.below b
  exact ⟨r, rfl, fp, rp, D2, d, fun x hx e => by have := D.lt x hx; have := f x e; omega, b1, fun x hx => Nat.le_trans bl.size (f x hx), bl.trans (b.mono bl.size), by simp, D2.ok, D2.sorted⟩

theorem St.ok.cut {w : World} {kind at_ n : Int} {nm ot : ByteArray} {da : Option Addr} {dn dc : Nat} {bs : List Int} {ka : Option Addr} {kn kc : Nat} {ks : List Bool} (h : St.ok w ⟨kind, at_, n, nm, ot, da, dn, dc, bs, ka, kn, kc, ks⟩) :
    ∃ (dm km : Nat) (cs : List Int) (js : List Bool), (∀ W, Calls Try.prog 15 #[.agg #[.int .i64 kind, .int .i64 at_, .int .i64 n, .string nm, .string ot, .slice da dn dc, .slice ka kn kc]] W fun e w' => e = .returned (.agg #[.int .i64 kind, .int .i64 at_, .int .i64 n, .string nm, .string ot, .slice da dm dc, .slice ka km kc]) ∧ Below W.heap.size W w') ∧
      IsB w (.slice da dm dc) cs ∧ cs.length = dm ∧ dm ≤ 60 ∧ IsK w (.slice ka km kc) js ∧ js.length ≤ 60 :=
  ⟨min dn 60, min kn 60, bs.take (min dn 60), ks.take (min kn 60), fun W => few_any _ W h.cap h.kcap, h.few.row, h.few.len, by omega, h.few.keep, by rw [List.length_take]; omega⟩

/-- The cells of the step's box. -/
theorem box7 {w : World} {b : Nat} {x0 x1 x2 x3 x4 x5 x6 : Value} (h : w.heap[b]? = some (.cells #[x0, x1, x2, x3, x4, x5, x6] 31)) :
    w.cell? ⟨b, 0, none⟩ = some x0 ∧ w.cell? ⟨b, 1, none⟩ = some x1 ∧ w.cell? ⟨b, 2, none⟩ = some x2 ∧ w.cell? ⟨b, 3, none⟩ = some x3 ∧ w.cell? ⟨b, 4, none⟩ = some x4 ∧ w.cell? ⟨b, 5, none⟩ = some x5 ∧ w.cell? ⟨b, 6, none⟩ = some x6 :=
  ⟨by simpa using cell_of_heap h 0, by simpa using cell_of_heap h 1, by simpa using cell_of_heap h 2, by simpa using cell_of_heap h 3, by simpa using cell_of_heap h 4, by simpa using cell_of_heap h 5, by simpa using cell_of_heap h 6⟩

end Go.Proofs.Ytahhokhhgamelaa
