/-
  Lemma texts, one behind the other: IAbs, IMem, IFlush, IPut, IClose. No statement of the seat is proved here.
-/
import Derived.Test.YtgpbanjammipiaaGreatDoorGAG
import Derived.Deep.RegionHeld
import Derived.Deep.RegionLaw
import Derived.Deep.RegionHeldLaw
namespace Go.Proofs.YtgpbanjammipiaaGreatDoor
open Go.RowKit Go.Maps

abbrev Dsk := List Ab × Ds

/-- What Sync answers, and leaves. -/
def syncW (A : Dsk) (n : List UInt8) : Int × Dsk := match errA A n with | some k => (k, A) | none => match lookA A.1 n with | some x => (0, (setA A.1 (x.1, x.2.1, x.2.1), A.2)) | none => (0, A)
/-- What flush answers, and leaves of the disk. -/
def flushW (A : Dsk) (n : List UInt8) (t : List Int) : Int × Dsk := appendA (beginA A.1 A.2) n (blkB t)
/-- What Put answers, and leaves: of the disk, and of the text. -/
def putW (A : Dsk) (n : List UInt8) (t : List Int) (x : Rc) : Int × Dsk × List Int :=
  if (t ++ recB x).length < 800 then (0, A, t ++ recB x) else ((flushW A n (t ++ recB x)).1, (flushW A n (t ++ recB x)).2, [])
/-- What Close answers, and leaves. -/
def closeW (A : Dsk) (n : List UInt8) (t : List Int) : Int × Dsk :=
  if t = [] then syncW (beginA A.1 A.2) n else if (flushW A n t).1 = 0 then syncW (beginA (flushW A n t).2.1 (flushW A n t).2.2) n else flushW A n t
/-- What Put of all, and Close, answer, and leave. -/
def restW (n : List UInt8) : Dsk → List Int → List Rc → Int × Dsk
  | A, t, [] => closeW A n t
  | A, t, x :: l => if (putW A n t x).1 = 0 then restW n (putW A n t x).2.1 (putW A n t x).2.2 l else ((putW A n t x).1, (putW A n t x).2.1)
/-- What Write answers, and leaves. -/
def writeW (A : Dsk) (n : List UInt8) (l : List Rc) : Int × Dsk :=
  if (createA (beginA A.1 A.2) n).1 = 0 then restW n (createA (beginA A.1 A.2) n).2 [] l else createA (beginA A.1 A.2) n

/-! ### Operations counted -/

theorem appendA_ops (A : Dsk) (n : List UInt8) (cs : List Int) : (appendA A n cs).2.2.ops = A.2.ops := by
  unfold appendA
  split
  · rfl
  · split
    · unfold writeA
      split
      · rfl
      · split <;> rfl
    · rfl
theorem createA_ops (A : Dsk) (n : List UInt8) : (createA A n).2.2.ops = A.2.ops := by
  unfold createA
  split
  · rfl
  · split
    · rfl
    · split <;> rfl
theorem flushW_ops (A : Dsk) (n : List UInt8) (t : List Int) : (flushW A n t).2.2.ops = A.2.ops + 1 := by
  rw [flushW, appendA_ops, beginA_ops]
theorem putW_ops (A : Dsk) (n : List UInt8) (t : List Int) (x : Rc) : (putW A n t x).2.1.2.ops ≤ A.2.ops + 1 ∧ A.2.ops ≤ (putW A n t x).2.1.2.ops := by
  unfold putW
  split
  · dsimp only; omega
  · dsimp only; rw [flushW_ops]; omega

/-! ### Files in their places -/

theorem lookA_ins (l : List Ab) (x : Ab) (h : lookA l x.1 = none) : lookA (insA l x) x.1 = some x := by
  induction l with
  | nil => simp [insA, lookA]
  | cons g r ih =>
    have hn := lookA_none h
    have hr : lookA r x.1 = none := by
      unfold lookA at h ⊢
      rw [List.find?_cons] at h
      split at h
      · simp at h
      · exact h
    unfold insA
    split
    · have hg : (g.1 == x.1) = false := by simpa using hn g (by simp)
      have := ih hr
      unfold lookA at this ⊢
      rw [List.find?_cons, hg]
      exact this
    · simp [lookA]

theorem lookA_insO (l : List Ab) (x : Ab) (m : List UInt8) (hm : x.1 ≠ m) : lookA (insA l x) m = lookA l m := by
  have hx : (x.1 == m) = false := by simpa using hm
  induction l with
  | nil => simp [insA, lookA, hx]
  | cons g r ih =>
    unfold insA
    split
    · unfold lookA at ih ⊢
      rw [List.find?_cons, List.find?_cons, ih]
    · unfold lookA
      rw [List.find?_cons, hx]

theorem setA_none (l : List Ab) (y : Ab) (h : ∀ z ∈ l, z.1 ≠ y.1) : setA l y = l := by
  unfold setA
  have : ∀ z ∈ l, (if z.1 == y.1 then y else z) = z := fun z hz => by rw [if_neg (by simpa using h z hz)]
  exact (List.map_congr_left this).trans (List.map_id l)

theorem setA_ins (l : List Ab) (x y : Ab) (hxy : y.1 = x.1) (h : lookA l x.1 = none) : setA (insA l x) y = insA l y := by
  have hn := lookA_none h
  clear h
  induction l with
  | nil => simp [insA, setA, hxy]
  | cons g r ih =>
    have hg : (g.1 == y.1) = false := by rw [hxy]; simpa using hn g (by simp)
    unfold insA
    rw [hxy]
    by_cases hlt : g.1 < x.1
    · rw [if_pos hlt, if_pos hlt]
      have := ih (fun z hz => hn z (by simp [hz]))
      unfold setA at this ⊢
      rw [List.map_cons, hg, this]
      rfl
    · rw [if_neg hlt, if_neg hlt]
      have := setA_none (g :: r) y (fun z hz => by rw [hxy]; exact hn z hz)
      unfold setA at this ⊢
      rw [List.map_cons, this, if_pos (by simp [hxy])]

theorem putA_end (F cs : List Int) : putA F F.length cs = F ++ cs := by
  unfold putA
  rw [List.take_length, List.drop_of_length_le (by omega), List.append_nil]
theorem moreA_end (F cs : List Int) : moreA F F.length cs = sec (F ++ cs).length - sec F.length := by
  unfold moreA
  rw [List.length_append, Nat.max_eq_right (by omega)]

/-! ### A disk that is up, and not armed -/

/-- A disk that is up, and not armed: its room, its sectors in use, its operations. -/
def upS (R U k : Int) : Ds := { room := R, used := U, ops := k, down := false, left := 0, keep := [] }

theorem begin_up (l : List Ab) (R U k : Int) : beginA l (upS R U k) = (l, upS R U (k + 1)) := rfl

section
variable {l0 : List Ab} {n : List UInt8} {R U k : Int} {F S : List Int}

theorem append_up (hno : lookA l0 n = none) (cs : List Int) : appendA (insA l0 (n, F, S), upS R (U + sec F.length) k) n cs =
    if U + sec (F ++ cs).length ≤ R then (0, (insA l0 (n, F ++ cs, S), upS R (U + sec (F ++ cs).length) k)) else (6, (insA l0 (n, F, S), upS R (U + sec F.length) k)) := by
  have e1 : errA (insA l0 (n, F, S), upS R (U + sec F.length) k) n = none := by
    unfold errA
    rw [if_neg (by simp [upS]), lookA_ins l0 (n, F, S) hno]
  have e2 : lookA (insA l0 (n, F, S)) n = some (n, F, S) := lookA_ins l0 (n, F, S) hno
  unfold appendA
  rw [e1]
  dsimp only
  rw [e2]
  dsimp only
  unfold writeA
  rw [if_neg (by dsimp only; omega)]
  simp only [Int.toNat_natCast, putA_end, moreA_end]
  rw [setA_ins l0 (n, F, S) (n, F ++ cs, S) rfl hno]
  by_cases hf : U + sec (F ++ cs).length ≤ R
  · rw [if_neg (by simp only [upS]; omega), if_pos hf]
    simp only [upS]
    rw [show U + sec F.length + (sec (F ++ cs).length - sec F.length) = U + sec (F ++ cs).length by omega]
  · rw [if_pos (by simp only [upS]; omega), if_neg hf]

theorem flush_up (hno : lookA l0 n = none) (t : List Int) : flushW (insA l0 (n, F, S), upS R (U + sec F.length) k) n t =
    if U + sec (F ++ blkB t).length ≤ R then (0, (insA l0 (n, F ++ blkB t, S), upS R (U + sec (F ++ blkB t).length) (k + 1))) else (6, (insA l0 (n, F, S), upS R (U + sec F.length) (k + 1))) := by
  unfold flushW
  dsimp only
  rw [begin_up]
  exact append_up hno (blkB t)

theorem sync_up (hno : lookA l0 n = none) : syncW (insA l0 (n, F, S), upS R U k) n = (0, (insA l0 (n, F, F), upS R U k)) := by
  have e1 : errA (insA l0 (n, F, S), upS R U k) n = none := by
    unfold errA
    rw [if_neg (by simp [upS]), lookA_ins l0 (n, F, S) hno]
  unfold syncW
  rw [e1]
  dsimp only
  rw [lookA_ins l0 (n, F, S) hno]
  dsimp only
  rw [setA_ins l0 (n, F, S) (n, F, F) rfl hno]

theorem sec_le_append (F G : List Int) : sec F.length ≤ sec (F ++ G).length := sec_mono (by simp)

/-- One record more, where all of them have room. -/
theorem put_up (hno : lookA l0 n = none) {ts : List Rc} (hts : ts.length < 50) (x : Rc) (l : List Rc) (hfit : U + sec (F ++ fileB (ts ++ x :: l)).length ≤ R) :
    ∃ F' ts' k', putW (insA l0 (n, F, S), upS R (U + sec F.length) k) n (textB ts) x = (0, (insA l0 (n, F', S), upS R (U + sec F'.length) k'), textB ts') ∧ F' ++ fileB (ts' ++ l) = F ++ fileB (ts ++ x :: l) ∧ ts'.length < 50 ∧ k ≤ k' ∧ k' ≤ k + 1 := by
  unfold putW
  rw [← textB_snoc, textB_length, List.length_append, List.length_singleton]
  by_cases h : ts.length + 1 < 50
  · rw [if_pos (by omega)]
    exact ⟨F, ts ++ [x], k, rfl, by rw [List.append_assoc]; rfl, by simpa using h, by omega, by omega⟩
  · rw [if_neg (by omega)]
    have e : fileB (ts ++ x :: l) = blkB (textB (ts ++ [x])) ++ fileB l := by
      rw [show ts ++ x :: l = (ts ++ [x]) ++ l by simp]
      exact fileB_full _ l (by rw [List.length_append, List.length_singleton]; omega)
    rw [e, ← List.append_assoc] at hfit
    have h2 := sec_le_append (F ++ blkB (textB (ts ++ [x]))) (fileB l)
    rw [flush_up hno, if_pos (by omega)]
    exact ⟨F ++ blkB (textB (ts ++ [x])), [], k + 1, rfl, by rw [e, List.nil_append, List.append_assoc], by simp, by omega, by omega⟩

theorem close_up (hno : lookA l0 n = none) {ts : List Rc} (hts : ts.length < 50) (hU : U + sec F.length ≤ R) : ∃ k', closeW (insA l0 (n, F, S), upS R (U + sec F.length) k) n (textB ts) =
    (if U + sec (F ++ fileB ts).length ≤ R then (0, (insA l0 (n, F ++ fileB ts, F ++ fileB ts), upS R (U + sec (F ++ fileB ts).length) k')) else (6, (insA l0 (n, F, S), upS R (U + sec F.length) k'))) ∧ k < k' ∧ k' ≤ k + 2 := by
  unfold closeW
  by_cases h : ts = []
  · subst h
    refine ⟨k + 1, ?_, by omega, by omega⟩
    rw [if_pos (by rfl)]
    dsimp only
    rw [begin_up, sync_up hno, fileB_nil, List.append_nil, if_pos hU]
  · have hne : textB ts ≠ [] := by
      intro e
      have := congrArg List.length e
      rw [textB_length] at this
      have h0 := List.length_pos_iff.2 h
      simp at this
      omega
    rw [if_neg hne, flush_up hno, fileB_short ts h (by omega)]
    by_cases hf : U + sec (F ++ blkB (textB ts)).length ≤ R
    · refine ⟨k + 1 + 1, ?_, by omega, by omega⟩
      rw [if_pos hf, if_pos hf, if_pos rfl]
      dsimp only
      rw [begin_up, sync_up hno]
    · refine ⟨k + 1, ?_, by omega, by omega⟩
      rw [if_neg hf, if_neg hf, if_neg (by simp)]

/-- All records, and the end: where there is room for all of them, they are there; else it is ErrSpace. -/
theorem rest_up (hno : lookA l0 n = none) (l : List Rc) : ∀ {F : List Int} {ts : List Rc} {k : Int}, ts.length < 50 → U + sec F.length ≤ R → ∃ k' G, restW n (insA l0 (n, F, []), upS R (U + sec F.length) k) (textB ts) l =
    (if U + sec (F ++ fileB (ts ++ l)).length ≤ R then (0, (insA l0 (n, F ++ fileB (ts ++ l), F ++ fileB (ts ++ l)), upS R (U + sec (F ++ fileB (ts ++ l)).length) k')) else (6, (insA l0 (n, G, []), upS R (U + sec G.length) k'))) ∧ U + sec G.length ≤ R ∧ k < k' ∧ k' ≤ k + l.length + 2 := by
  induction l with
  | nil =>
    intro F ts k hts hU
    obtain ⟨k', e, h1, h2⟩ := close_up (S := []) (k := k) hno hts hU
    refine ⟨k', F, ?_, hU, h1, by simp; omega⟩
    rw [restW, e, List.append_nil]
  | cons x l ih =>
    intro F ts k hts hU
    by_cases hfit : U + sec (F ++ fileB (ts ++ x :: l)).length ≤ R
    · obtain ⟨F', ts', k1, e1, e2, h1, h2, h3⟩ := put_up (S := []) (k := k) hno hts x l hfit
      have hU' : U + sec F'.length ≤ R := by
        have := sec_le_append F' (fileB (ts' ++ l))
        rw [e2] at this
        omega
      obtain ⟨k', G, e, hG, h4, h5⟩ := ih (k := k1) h1 hU'
      refine ⟨k', G, ?_, hG, by omega, by simp; omega⟩
      rw [restW, e1, if_pos rfl]
      dsimp only
      rw [e, e2]
    · by_cases h : ts.length + 1 < 50
      · have e1 : putW (insA l0 (n, F, []), upS R (U + sec F.length) k) n (textB ts) x = (0, (insA l0 (n, F, []), upS R (U + sec F.length) k), textB (ts ++ [x])) := by
          unfold putW
          rw [← textB_snoc, textB_length, List.length_append, List.length_singleton, if_pos (by omega)]
        obtain ⟨k', G, e, hG, h4, h5⟩ := ih (F := F) (ts := ts ++ [x]) (k := k) (by simpa using h) hU
        refine ⟨k', G, ?_, hG, by omega, by simp; omega⟩
        rw [restW, e1, if_pos rfl]
        dsimp only
        rw [e, show ts ++ [x] ++ l = ts ++ x :: l by simp]
      · have ef : fileB (ts ++ x :: l) = blkB (textB (ts ++ [x])) ++ fileB l := by
          rw [show ts ++ x :: l = (ts ++ [x]) ++ l by simp]
          exact fileB_full _ l (by rw [List.length_append, List.length_singleton]; omega)
        have e0 : putW (insA l0 (n, F, []), upS R (U + sec F.length) k) n (textB ts) x = ((flushW (insA l0 (n, F, []), upS R (U + sec F.length) k) n (textB (ts ++ [x]))).1, (flushW (insA l0 (n, F, []), upS R (U + sec F.length) k) n (textB (ts ++ [x]))).2, []) := by
          unfold putW
          rw [← textB_snoc, textB_length, List.length_append, List.length_singleton, if_neg (by omega)]
        rw [flush_up hno] at e0
        by_cases hf : U + sec (F ++ blkB (textB (ts ++ [x]))).length ≤ R
        · rw [if_pos hf] at e0
          obtain ⟨k', G, e, hG, h4, h5⟩ := ih (F := F ++ blkB (textB (ts ++ [x]))) (ts := []) (k := k + 1) (by simp) hf
          refine ⟨k', G, ?_, hG, by omega, by simp; omega⟩
          rw [restW, e0, if_pos rfl]
          dsimp only
          rw [show textB [] = [] from rfl] at e
          rw [e, ef, List.nil_append, List.append_assoc]
        · rw [if_neg hf] at e0
          refine ⟨k + 1, F, ?_, hU, by omega, by simp; omega⟩
          rw [restW, e0, if_neg (by simp), if_neg hfit]

end

/-- Write, of a file that is not there, on a disk that is up. -/
theorem write_up {l0 : List Ab} {n : List UInt8} {R U k : Int} (hno : lookA l0 n = none) (hm : mayB n = true) (hU : U ≤ R) (l : List Rc) : ∃ k' G, writeW (l0, upS R U k) n l =
    (if U + sec (fileB l).length ≤ R then (0, (insA l0 (n, fileB l, fileB l), upS R (U + sec (fileB l).length) k')) else (6, (insA l0 (n, G, []), upS R (U + sec G.length) k'))) ∧ U + sec G.length ≤ R ∧ k < k' ∧ k' ≤ k + l.length + 3 := by
  have e0 : sec ([] : List Int).length = 0 := rfl
  obtain ⟨k', G, e, hG, h1, h2⟩ := rest_up (F := []) (ts := []) (k := k + 1) (R := R) (U := U) hno l (by simp) (by rw [e0]; omega)
  refine ⟨k', G, ?_, hG, by omega, by omega⟩
  have ec : createA (beginA l0 (upS R U k)) n = (0, (insA l0 (n, [], []), upS R U (k + 1))) := by
    rw [begin_up]
    unfold createA
    rw [if_neg (by simp [upS]), if_neg (by simp [hm])]
    dsimp only
    rw [hno]
  unfold writeW
  dsimp only
  rw [ec, if_pos rfl]
  rw [e0, Int.add_zero, List.nil_append, List.nil_append] at e
  exact e

/-- .. of one that is there. -/
theorem write_is {l0 : List Ab} {n : List UInt8} {R U k : Int} {x : Ab} (hx : lookA l0 n = some x) (hm : mayB n = true) (l : List Rc) : writeW (l0, upS R U k) n l = (5, (l0, upS R U (k + 1))) := by
  have ec : createA (beginA l0 (upS R U k)) n = (5, (l0, upS R U (k + 1))) := by
    rw [begin_up]
    unfold createA
    rw [if_neg (by simp [upS]), if_neg (by simp [hm])]
    dsimp only
    rw [hx]
  unfold writeW
  dsimp only
  rw [ec, if_neg (by simp)]

end Go.Proofs.YtgpbanjammipiaaGreatDoor

namespace Go.Proofs.YtgpbanjammipiaaGreatDoor
open Go.RowKit Go.Maps

/-- A writer in its block. -/
def wcells (p : Nat) (nm : ByteArray) (tv : Value) : Obj := .cells #[.pointer (some ⟨p, 0, none⟩), .string nm, tv] 97 (0, 0)
/-- A writer that is closed. -/
def xcells : Obj := .cells #[.pointer none, .string ⟨#[]⟩, .slice none 0 0] 97 (0, 0)

/-- A disk, and a writer over it: fd the disk's blocks, q the writer's, tv the slice of its text. -/
structure WkE (w : World) (fd : List Nat) (tv : Value) (p q : Nat) (A : Dsk) (nm : ByteArray) (t : List Int) : Prop where
  disk : Dk w fd p A.1 A.2
  cells : w.heap[q]? = some (wcells p nm tv)
  row : RowB w tv t
  qfd : q ∉ fd
  tfd : ∀ x ∈ own tv, x ∉ fd
  qt : q ∉ own tv

/-- All its blocks. -/
def wfp (fd : List Nat) (q : Nat) (tv : Value) : List Nat := fd ++ q :: own tv

theorem wfp_mem {fd : List Nat} {q : Nat} {tv : Value} {x : Nat} : x ∈ wfp fd q tv ↔ x ∈ fd ∨ x = q ∨ x ∈ own tv := by simp [wfp]

/-- .. by its blocks. -/
def Wk (w : World) (fp : List Nat) (p q : Nat) (A : Dsk) (nm : ByteArray) (t : List Int) : Prop := ∃ fd tv, WkE w fd tv p q A nm t ∧ fp = wfp fd q tv
def WkO (w w' : World) (fp : List Nat) (p q : Nat) (A : Dsk) (nm : ByteArray) (t : List Int) : Prop := ∃ fp', Wk w' fp' p q A nm t ∧ Kept fp w w' ∧ Newly w fp fp'
/-- .. behind its end. -/
def Wx (w : World) (fp : List Nat) (p q : Nat) (A : Dsk) : Prop := ∃ fd, Dk w fd p A.1 A.2 ∧ w.heap[q]? = some xcells ∧ q ∉ fd ∧ fp = fd ++ [q]
def WxO (w w' : World) (fp : List Nat) (p q : Nat) (A : Dsk) : Prop := ∃ fp', Wx w' fp' p q A ∧ Kept fp w w' ∧ Newly w fp fp'

theorem Kept.heap9 {fp : List Nat} {w w' : World} (h : Kept fp w w') {b : Nat} {o : Obj} (hv : w.heap[b]? = some o) (hp : b ∉ fp) : w'.heap[b]? = some o :=
  (h.block b (Array.getElem?_eq_some_iff.1 hv).1 hp).trans hv

theorem heap_lt {w : World} {b : Nat} {o : Obj} (hv : w.heap[b]? = some o) : b < w.heap.size := (Array.getElem?_eq_some_iff.1 hv).1

section
variable {w w' : World} {fd : List Nat} {tv : Value} {p q : Nat} {A A' : Dsk} {nm : ByteArray} {t : List Int}

theorem WkE.lt (h : WkE w fd tv p q A nm t) : ∀ x ∈ wfp fd q tv, x < w.heap.size := fun x hx => by
  rcases wfp_mem.1 hx with hx | rfl | hx
  · exact h.disk.lt x hx
  · exact heap_lt h.cells
  · exact h.row.lt x hx

theorem WkE.kept {fp : List Nat} (h : WkE w fd tv p q A nm t) (hk : Kept fp w w') (hf : ∀ x ∈ wfp fd q tv, x ∉ fp) : WkE w' fd tv p q A nm t :=
  ⟨h.disk.kept hk (fun x hx => hf x (wfp_mem.2 (.inl hx))), hk.heap9 h.cells (hf q (wfp_mem.2 (.inr (.inl rfl)))), h.row.kept hk (fun x hx => hf x (wfp_mem.2 (.inr (.inr hx)))), h.qfd, h.tfd, h.qt⟩

theorem WkE.below (h : WkE w fd tv p q A nm t) (hb : Below w.heap.size w w') : WkE w' fd tv p q A nm t := h.kept (fp := []) (Kept.of_below hb) (by simp)

/-- An operation of the disk. -/
theorem WkE.disk_op (h : WkE w fd tv p q A nm t) (ho : Outc w w' fd p A') : ∃ fd', WkE w' fd' tv p q A' nm t ∧ Kept (wfp fd q tv) w w' ∧ Newly w (wfp fd q tv) (wfp fd' q tv) := by
  obtain ⟨fd', d, k, n⟩ := ho
  have hq := heap_lt h.cells
  refine ⟨fd', ⟨d, k.heap9 h.cells h.qfd, h.row.kept k h.tfd, fun e => ?_, fun x hx e => ?_, h.qt⟩, k.mono (fun x hx => wfp_mem.2 (.inl hx)), fun x hx => ?_⟩
  · rcases n q e with e | e
    · exact h.qfd e
    · omega
  · rcases n x e with e | e
    · exact h.tfd x hx e
    · have := h.row.lt x hx; omega
  · rcases wfp_mem.1 hx with hx | hx
    · exact (n x hx).imp (fun e => wfp_mem.2 (.inl e)) id
    · exact .inl (wfp_mem.2 (.inr hx))

/-- Another text. -/
theorem WkE.turn (h : WkE w fd tv p q A nm t) {tv' : Value} {t' : List Int} (hk : Kept (q :: own tv) w w') (hc : w'.heap[q]? = some (wcells p nm tv')) (hr : RowB w' tv' t') (hn : ∀ x ∈ own tv', x ∈ own tv ∨ w.heap.size ≤ x) :
    WkE w' fd tv' p q A nm t' ∧ Kept (wfp fd q tv) w w' ∧ Newly w (wfp fd q tv) (wfp fd q tv') := by
  have hq := heap_lt h.cells
  refine ⟨⟨h.disk.kept hk (fun x hx e => ?_), hc, hr, h.qfd, fun x hx e => ?_, fun e => ?_⟩, hk.mono (fun x hx => ?_), fun x hx => ?_⟩
  · rcases List.mem_cons.1 e with rfl | e
    · exact h.qfd hx
    · exact h.tfd x e hx
  · rcases hn x hx with e2 | e2
    · exact h.tfd x e2 e
    · have := h.disk.lt x e; omega
  · rcases hn q e with e2 | e2
    · exact h.qt e2
    · omega
  · exact wfp_mem.2 (.inr (by simpa using hx))
  · rcases wfp_mem.1 hx with hx | hx | hx
    · exact .inl (wfp_mem.2 (.inl hx))
    · exact .inl (wfp_mem.2 (.inr (.inl hx)))
    · exact (hn x hx).imp (fun e => wfp_mem.2 (.inr (.inr e))) id

/-- The end. -/
theorem WkE.shut (h : WkE w fd tv p q A nm t) (hk : Kept [q] w w') (hc : w'.heap[q]? = some xcells) : WxO w w' (wfp fd q tv) p q A := by
  refine ⟨fd ++ [q], ⟨fd, h.disk.kept hk (fun x hx e => ?_), hc, h.qfd, rfl⟩, hk.mono (fun x hx => wfp_mem.2 (.inr (.inl (by simpa using hx)))), fun x hx => .inl ?_⟩
  · simp only [List.mem_singleton] at e
    subst e
    exact h.qfd hx
  · simp only [List.mem_append, List.mem_singleton] at hx
    rcases hx with hx | hx
    · exact wfp_mem.2 (.inl hx)
    · exact wfp_mem.2 (.inr (.inl hx))

theorem WkO.trans {fp : List Nat} {w1 w2 : World} {t1 t2 : List Int} {B C : Dsk} (h : WkO w w1 fp p q B nm t1) (k : ∀ fp1, Wk w1 fp1 p q B nm t1 → WkO w1 w2 fp1 p q C nm t2) : WkO w w2 fp p q C nm t2 := by
  obtain ⟨fp1, a, k1, n1⟩ := h
  obtain ⟨fp2, b, k2, n2⟩ := k fp1 a
  exact ⟨fp2, b, k1.trans k2 n1, n1.trans n2 k1.size⟩

theorem WkO.shut {fp : List Nat} {w1 w2 : World} {t1 : List Int} {B C : Dsk} (h : WkO w w1 fp p q B nm t1) (k : ∀ fp1, Wk w1 fp1 p q B nm t1 → WxO w1 w2 fp1 p q C) : WxO w w2 fp p q C := by
  obtain ⟨fp1, a, k1, n1⟩ := h
  obtain ⟨fp2, b, k2, n2⟩ := k fp1 a
  exact ⟨fp2, b, k1.trans k2 n1, n1.trans n2 k1.size⟩

theorem WkE.cellAt (h : WkE w fd tv p q A nm t) : w.cell? ⟨q, 0, none⟩ = some (.pointer (some ⟨p, 0, none⟩)) ∧ w.cell? ⟨q, 1, none⟩ = some (.string nm) ∧ w.cell? ⟨q, 2, none⟩ = some tv ∧ ∀ o, w.frozen? ⟨q, o, none⟩ = false := by
  refine ⟨?_, ?_, ?_, fun o => frozen_of_heap h.cells o⟩
  · have := cell_of_heap h.cells 0; simpa using this
  · have := cell_of_heap h.cells 1; simpa using this
  · have := cell_of_heap h.cells 2; simpa using this

theorem Wk.below {fp : List Nat} (h : Wk w fp p q A nm t) (hb : Below w.heap.size w w') : Wk w' fp p q A nm t := by
  obtain ⟨fd, tv, e, rfl⟩ := h
  exact ⟨fd, tv, e.below hb, rfl⟩
theorem Wk.kept {fp fp' : List Nat} (h : Wk w fp p q A nm t) (hk : Kept fp' w w') (hf : ∀ x ∈ fp, x ∉ fp') : Wk w' fp p q A nm t := by
  obtain ⟨fd, tv, e, rfl⟩ := h
  exact ⟨fd, tv, e.kept hk hf, rfl⟩
theorem Wk.lt {fp : List Nat} (h : Wk w fp p q A nm t) : ∀ x ∈ fp, x < w.heap.size := by
  obtain ⟨fd, tv, e, rfl⟩ := h
  exact e.lt
theorem Wx.lt {fp : List Nat} (h : Wx w fp p q A) : ∀ x ∈ fp, x < w.heap.size := by
  obtain ⟨fd, d, c, _, rfl⟩ := h
  intro x hx
  rcases List.mem_append.1 hx with hx | hx
  · exact d.lt x hx
  · simp only [List.mem_singleton] at hx
    subst hx
    exact heap_lt c
theorem Wx.kept {fp fp' : List Nat} (h : Wx w fp p q A) (hk : Kept fp' w w') (hf : ∀ x ∈ fp, x ∉ fp') : Wx w' fp p q A := by
  obtain ⟨fd, d, c, a, rfl⟩ := h
  exact ⟨fd, d.kept hk (fun x hx => hf x (by simp [hx])), hk.heap9 c (hf q (by simp)), a, rfl⟩
theorem Wx.below {fp : List Nat} (h : Wx w fp p q A) (hb : Below w.heap.size w w') : Wx w' fp p q A := h.kept (Kept.of_below (fp := []) hb) (by simp)
end

/-! ### closed, end -/

set_option maxRecDepth 100000 in
theorem closed_no {w : World} {q : Nat} {a : Addr} (h : w.cell? ⟨q, 0, none⟩ = some (.pointer (some a))) : Calls Tryz.prog 44 #[.pointer (some ⟨q, 0, none⟩)] w fun e w' => e = .returned (.bool false) ∧ w' = w := by
  go_enter Tryz.func44, Tryz.ntmps44
  go_wp2
  go_ret
  exact ⟨rfl, rfl⟩

set_option maxRecDepth 100000 in
theorem closed_yes {w : World} {q : Nat} (h : w.cell? ⟨q, 0, none⟩ = some (.pointer none)) : Calls Tryz.prog 44 #[.pointer (some ⟨q, 0, none⟩)] w fun e w' => e = .returned (.bool true) ∧ w' = w := by
  go_enter Tryz.func44, Tryz.ntmps44
  go_wp2
  go_ret
  exact ⟨rfl, rfl⟩

set_option maxRecDepth 100000 in
theorem end_any {w : World} {fd : List Nat} {tv : Value} {p q : Nat} {A : Dsk} {nm : ByteArray} {t : List Int} (h : WkE w fd tv p q A nm t) : Calls Tryz.prog 48 #[.pointer (some ⟨q, 0, none⟩)] w fun e w' => e = .returned (.tuple #[]) ∧ WxO w w' (wfp fd q tv) p q A := by
  obtain ⟨c0, c1, c2, c3⟩ := h.cellAt
  have H := hide h
  clear h
  go_enter Tryz.func48, Tryz.ntmps48
  go_wp2
  go_end0
  refine ⟨rfl, H.out.shut ((((Kept.refl _ w).setCell (.inl (by simp)) _).setCell (.inl (by simp)) _).setCell (.inl (by simp)) _) ?_⟩
  have e := heap_setCell (heap_setCell (heap_setCell H.out.cells 0 (.pointer none)) 1 (.string ⟨#[]⟩)) 2 (.slice none 0 0)
  simpa [wcells, xcells] using e

end Go.Proofs.YtgpbanjammipiaaGreatDoor

namespace Go.Proofs.YtgpbanjammipiaaGreatDoor
open Go.RowKit Go.Maps

theorem RowB.empty {w : World} {na : Option Addr} {L cap : Nat} {bs : List Int} (h : RowB w (.slice na L cap) bs) : RowB w (.slice na 0 cap) [] ∧ own (.slice na 0 cap) = own (.slice na L cap) := ⟨h.front, by cases na <;> simp [own, Value.ownBlock]⟩

section
variable {w : World} {fp : List Nat} {p q : Nat} {A : Dsk} {nm : ByteArray} {t : List Int}

set_option maxRecDepth 100000 in
set_option maxHeartbeats 4000000 in
theorem flush_go (h : Wk w fp p q A nm t) (hn : A.2.ops ≤ 1000000) (hnm : nm.size ≤ maxLen) (ht : t.length ≤ 1000) {B : Dsk} (hB : flushW A nm.data.toList t = (0, B)) :
    Calls Tryz.prog 46 #[.pointer (some ⟨q, 0, none⟩)] w fun e w' => e = .returned (.int .i64 0) ∧ WkO w w' fp p q B nm [] := by
  obtain ⟨fd, tv, h, rfl⟩ := h
  obtain ⟨c0, c1, c2, c3⟩ := h.cellAt
  have H := hide h
  obtain ⟨xs, hxs⟩ : ∃ xs, xs = blkB t := ⟨_, rfl⟩
  have hxl : xs.length ≤ 1006 := by rw [hxs, blkB_length]; omega
  obtain ⟨tl, htl⟩ : ∃ tl, tl = t.length := ⟨_, rfl⟩
  obtain ⟨ta, tc, rfl, htc⟩ := h.row.isB.form
  have EN := hide (encode_go _ t xs w h.row.isB (by omega) hxs)
  have AP := hide (fun (w1 : World) (b1 : Below w.heap.size w w1) (u : Value) (hu : IsB w1 u xs) (hux : ∀ x ∈ own u, w.heap.size ≤ x) => (h.disk.below b1).append hn nm hnm u xs hu (by omega) (fun _ x hx e => by have := hux x hx; have := h.disk.lt x e; omega))
  rw [flushW, ← hxs] at hB
  rw [hB] at AP
  dsimp only at AP
  rw [← htl] at EN c2
  have sl := slice_zero ta tl tc
  have HTL := hide htl
  clear h htc hxs hB htl
  go_enter Tryz.func46, Tryz.ntmps46
  go_wp2_with fail
  refine EN.out.mono ?_
  rintro e w1 ⟨g1, cap1, rfl, o1, b1⟩
  obtain ⟨d0, d1, d2, d3⟩ := (H.out.below b1).cellAt
  have e0 : w1.drew.cell? ⟨q, 0, none⟩ = some (.pointer (some ⟨p, 0, none⟩)) := d0
  have e1 : w1.drew.cell? ⟨q, 1, none⟩ = some (.string nm) := d1
  have AQ := hide (AP.out w1.drew b1.drew _ o1.isB (fun x hx => by simp [own, Value.ownBlock] at hx; have := o1.base; omega))
  have B1 := hide b1
  clear o1 b1 d2
  go_wp2_with fail
  go_region_held (fun W => W.cell? ⟨q, 0, none⟩ = some (.pointer (some ⟨p, 0, none⟩)) ∧ W.cell? ⟨q, 1, none⟩ = some (.string nm)) (exact ⟨by assumption, by assumption⟩) (first | (go_at_call 26; refine AQ.out.mono ?_; rintro e w2 ⟨rfl, o2⟩; obtain ⟨fd2, E2, K2, N2⟩ := (H.out.below B1.out.drew).disk_op o2; obtain ⟨f0, f1, f2, f3⟩ := E2.cellAt; rw [← HTL.out] at f2; have HE2 := hide E2; have HK2 := hide K2; have HN2 := hide N2; clear o2 E2 K2 N2))
  go_wp2
  go_ret
  obtain ⟨r1, r2⟩ := HE2.out.row.empty
  have hk : Kept [q] w2 (w2.setCell ⟨q, 2, none⟩ (.slice ta 0 tc)) := (Kept.refl _ w2).setCell (p := ⟨q, 2, none⟩) (.inl (by simp)) _
  have hq : q ∉ own (.slice ta 0 tc) := by rw [r2]; exact HE2.out.qt
  obtain ⟨x1, x2, x3⟩ := HE2.out.turn (tv' := .slice ta 0 tc) (t' := []) (hk.mono (by simp)) (by have e := heap_setCell HE2.out.cells 2 (.slice ta 0 tc); simpa [wcells] using e)
    (r1.kept hk (fun x hx e => by simp only [List.mem_singleton] at e; subst e; exact hq hx)) (fun x hx => .inl (by rw [r2] at hx; exact hx))
  have k1 : Kept (wfp fd q (.slice ta t.length tc)) w w1 := Kept.of_below B1.out
  have k2 : Kept (wfp fd q (.slice ta t.length tc)) w1 w2 := ⟨HK2.out.os, HK2.out.tape, HK2.out.output, HK2.out.size, HK2.out.block⟩
  have hs1 := B1.out.size
  have n2 : Newly w (wfp fd q (.slice ta t.length tc)) (wfp fd2 q (.slice ta t.length tc)) := fun x hx => (HN2.out x hx).imp id (fun e => by have e' : w1.heap.size ≤ x := e; omega)
  exact ⟨rfl, _, ⟨fd2, _, x1, rfl⟩, (k1.trans k2 (Newly.refl _ _)).trans x2 n2, n2.trans x3 (Nat.le_trans hs1 k2.size)⟩

set_option maxRecDepth 100000 in
set_option maxHeartbeats 4000000 in
theorem flush_no (h : Wk w fp p q A nm t) (hn : A.2.ops ≤ 1000000) (hnm : nm.size ≤ maxLen) (ht : t.length ≤ 1000) {k : Int} {B : Dsk} (hk0 : ¬ k = 0) (hB : flushW A nm.data.toList t = (k, B)) :
    Calls Tryz.prog 46 #[.pointer (some ⟨q, 0, none⟩)] w fun e w' => e = .returned (.int .i64 k) ∧ WxO w w' fp p q B := by
  obtain ⟨fd, tv, h, rfl⟩ := h
  obtain ⟨c0, c1, c2, c3⟩ := h.cellAt
  have H := hide h
  obtain ⟨xs, hxs⟩ : ∃ xs, xs = blkB t := ⟨_, rfl⟩
  have hxl : xs.length ≤ 1006 := by rw [hxs, blkB_length]; omega
  obtain ⟨tl, htl⟩ : ∃ tl, tl = t.length := ⟨_, rfl⟩
  obtain ⟨ta, tc, rfl, htc⟩ := h.row.isB.form
  have EN := hide (encode_go _ t xs w h.row.isB (by omega) hxs)
  have AP := hide (fun (w1 : World) (b1 : Below w.heap.size w w1) (u : Value) (hu : IsB w1 u xs) (hux : ∀ x ∈ own u, w.heap.size ≤ x) => (h.disk.below b1).append hn nm hnm u xs hu (by omega) (fun _ x hx e => by have := hux x hx; have := h.disk.lt x e; omega))
  rw [flushW, ← hxs] at hB
  rw [hB] at AP
  dsimp only at AP
  rw [← htl] at EN c2
  have HTL := hide htl
  clear h htc hxs hB htl
  go_enter Tryz.func46, Tryz.ntmps46
  go_wp2_with fail
  refine EN.out.mono ?_
  rintro e w1 ⟨g1, cap1, rfl, o1, b1⟩
  obtain ⟨d0, d1, d2, d3⟩ := (H.out.below b1).cellAt
  have e0 : w1.drew.cell? ⟨q, 0, none⟩ = some (.pointer (some ⟨p, 0, none⟩)) := d0
  have e1 : w1.drew.cell? ⟨q, 1, none⟩ = some (.string nm) := d1
  have AQ := hide (AP.out w1.drew b1.drew _ o1.isB (fun x hx => by simp [own, Value.ownBlock] at hx; have := o1.base; omega))
  have B1 := hide b1
  clear o1 b1 d2
  go_wp2_with fail
  go_region_held (fun W => W.cell? ⟨q, 0, none⟩ = some (.pointer (some ⟨p, 0, none⟩)) ∧ W.cell? ⟨q, 1, none⟩ = some (.string nm)) (exact ⟨by assumption, by assumption⟩) (first | (go_at_call 26; refine AQ.out.mono ?_; rintro e w2 ⟨rfl, o2⟩; obtain ⟨fd2, E2, K2, N2⟩ := (H.out.below B1.out.drew).disk_op o2; obtain ⟨f0, f1, f2, f3⟩ := E2.cellAt; have EE := hide (end_any E2); have HK2 := hide K2; have HN2 := hide N2; clear o2 E2 K2 N2 f2))
  go_wp2_with fail
  refine EE.out.mono ?_
  rintro e w3 ⟨rfl, fp3, x3, k3, n3⟩
  go_wp2
  go_ret
  have k1 : Kept (wfp fd q (.slice ta t.length tc)) w w1 := Kept.of_below B1.out
  have k2 : Kept (wfp fd q (.slice ta t.length tc)) w1 w2 := ⟨HK2.out.os, HK2.out.tape, HK2.out.output, HK2.out.size, HK2.out.block⟩
  have hs1 := B1.out.size
  have n2 : Newly w (wfp fd q (.slice ta t.length tc)) (wfp fd2 q (.slice ta t.length tc)) := fun x hx => (HN2.out x hx).imp id (fun e => by have e' : w1.heap.size ≤ x := e; omega)
  exact ⟨rfl, _, x3, (k1.trans k2 (Newly.refl _ _)).trans k3 n2, n2.trans n3 (Nat.le_trans hs1 k2.size)⟩

end

end Go.Proofs.YtgpbanjammipiaaGreatDoor

namespace Go.Proofs.YtgpbanjammipiaaGreatDoor
open Go.RowKit Go.Maps

theorem put8a (x1 : Int) (hx : 0 ≤ x1 ∧ x1 < 18446744073709551616) (W : World) : Calls Tryz.prog 45 #[.slice none 0 0, .int .i64 8, .int .u64 x1] W fun e w' =>
    ∃ g cap, e = .returned (.slice (some ⟨g, 0, none⟩) 8 cap) ∧ IsB w' (.slice (some ⟨g, 0, none⟩) 8 cap) (putB 8 x1) ∧ Below W.heap.size W w' := by
  refine (put_any (.slice none 0 0) [] 8 x1 W (IsB.nil W) (by simp) hx.1 hx.2).mono ?_
  rintro e w' ⟨g, cap, rfl, o, b⟩
  have e1 : ([] : List Int) ++ putB (min (8 : Int) 8).toNat x1 = putB 8 x1 := rfl
  rw [e1] at o ⊢
  have i := o.isB
  rw [putB_length] at i ⊢
  exact ⟨g, cap, rfl, i, b⟩

theorem put8b {v : Value} {x1 : Int} (x2 : Int) (hx : 0 ≤ x2 ∧ x2 < 18446744073709551616) {W : World} (h : IsB W v (putB 8 x1)) : Calls Tryz.prog 45 #[v, .int .i64 8, .int .u64 x2] W fun e w' =>
    ∃ g cap, e = .returned (.slice (some ⟨g, 0, none⟩) 16 cap) ∧ IsB w' (.slice (some ⟨g, 0, none⟩) 16 cap) (recB (x1, x2)) ∧ Below W.heap.size W w' := by
  refine (put_any v (putB 8 x1) 8 x2 W h (by rw [putB_length]; omega) hx.1 hx.2).mono ?_
  rintro e w' ⟨g, cap, rfl, o, b⟩
  have e1 : putB 8 x1 ++ putB (min (8 : Int) 8).toNat x2 = recB (x1, x2) := rfl
  rw [e1] at o ⊢
  have i := o.isB
  rw [recB_length] at i ⊢
  exact ⟨g, cap, rfl, i, b⟩

section
variable {w : World} {fp : List Nat} {p q : Nat} {A : Dsk} {nm : ByteArray} {t : List Int}

/-- In the middle of Put: the record lies in a box beside the writer. -/
structure PutMid (w W : World) (fd : List Nat) (tv : Value) (p q : Nat) (A : Dsk) (nm : ByteArray) (t : List Int) (x1 x2 : Int) : Prop where
  wk : WkE W fd tv p q A nm t
  box : W.heap[w.heap.size]? = some (.cells #[.int .u64 x1, .int .u64 x2] 52 (0, 0))
  bel : Below w.heap.size w W

theorem PutMid.next {W W' : World} {fd : List Nat} {tv : Value} {x1 x2 : Int} (h : PutMid w W fd tv p q A nm t x1 x2) (hb : Below W.heap.size W W') : PutMid w W' fd tv p q A nm t x1 x2 :=
  ⟨h.wk.below hb, (Kept.of_below (fp := []) hb).heap9 h.box (by simp), h.bel.trans (hb.mono h.bel.size)⟩
theorem PutMid.drew {W : World} {fd : List Nat} {tv : Value} {x1 x2 : Int} (h : PutMid w W fd tv p q A nm t x1 x2) : PutMid w W.drew fd tv p q A nm t x1 x2 :=
  h.next ⟨rfl, rfl, rfl, Nat.le_refl _, fun _ _ => rfl⟩

set_option maxRecDepth 100000 in
set_option maxHeartbeats 4000000 in
/-- Put, where the text stays. -/
theorem put_text (h : Wk w fp p q A nm t) (x : Rc) (hx : okR x) (ht : t.length ≤ 1000) (hs : (t ++ recB x).length < 800) :
    Calls Tryz.prog 28 #[.pointer (some ⟨q, 0, none⟩), valR x] w fun e w' => e = .returned (.int .i64 0) ∧ WkO w w' fp p q A nm (t ++ recB x) := by
  obtain ⟨fd, tv, h, rfl⟩ := h
  obtain ⟨x1, x2⟩ := x
  obtain ⟨hx1, hx2⟩ := hx
  dsimp only at hx1 hx2
  unfold valR
  dsimp only
  have M0 : PutMid w (w.alloc (.cells #[.int .u64 x1, .int .u64 x2] 52)) fd tv p q A nm t x1 x2 :=
    ⟨h.below ((Below.refl _ w).alloc (Nat.le_refl _) _), heap_alloc_new w _, (Below.refl _ w).alloc (Nat.le_refl _) _⟩
  obtain ⟨c0, _, c2, c3⟩ := M0.wk.cellAt
  have P1 := hide (fun W => put8a x1 hx1 W)
  have P2 := hide (fun (W : World) (v : Value) (i : IsB W v (putB 8 x1)) => put8b x2 hx2 i)
  obtain ⟨ts, hts⟩ : ∃ ts, ts = t ++ recB (x1, x2) := ⟨_, rfl⟩
  obtain ⟨n, hn⟩ : ∃ n, n = ts.length := ⟨_, rfl⟩
  have hl : t.length + (recB (x1, x2)).length ≤ 1099511627776 := by rw [recB_length]; omega
  have HL := hide hl
  have HTS := hide hts
  have HN := hide hn
  rw [← hts, ← hn] at hs
  rw [← hts]
  have hs' : (n : Int) < 800 := by omega
  have H0 := hide h
  have HM := hide M0
  have b0' : (w.alloc (.cells #[.int .u64 x1, .int .u64 x2] 52)).drew.cell? ⟨w.heap.size, 0, none⟩ = some (.int .u64 x1) := (cell_of_heap M0.box 0).trans rfl
  have b1' : (w.alloc (.cells #[.int .u64 x1, .int .u64 x2] 52)).drew.cell? ⟨w.heap.size, 1, none⟩ = some (.int .u64 x2) := (cell_of_heap M0.box 1).trans rfl
  clear h M0 hx1 hx2 hl hts hn
  go_enter Tryz.func28, Tryz.ntmps28
  go_wp2_with fail
  refine (closed_no c0).mono ?_
  rintro e w1 ⟨rfl, rfl⟩
  have c2' : (w.alloc (.cells #[.int .u64 x1, .int .u64 x2] 52)).drew.cell? ⟨q, 2, none⟩ = some tv := c2
  go_wp2_with fail
  go_region_law (first
    | (go_simp; go_at_call_of 45 (Value.slice none 0 0); refine (P1.out _).mono ?_; rintro e w2 ⟨g2, cap2, rfl, i2, bel2⟩; have m2 := HM.out.drew.next bel2; have d2 := m2.wk.cellAt.2.2.1; have d0 := cell_of_heap m2.box 0; have d1 := cell_of_heap m2.box 1; simp at d0 d1; have M2 := hide m2; have I2 := hide i2; clear m2 i2 bel2)
    | (go_simp; go_at_call_of 45 (Value.slice (some ⟨g2, 0, none⟩) 8 cap2); refine (P2.out _ _ I2.out).mono ?_; rintro e w3 ⟨g3, cap3, rfl, i3, bel3⟩; have m3 := M2.out.next bel3; have e2 := m3.wk.cellAt.2.2.1; have M3 := hide m3; have I3 := hide i3; clear m3 i3 bel3)
    | (refine step_appendR _ ?_ (.tmp 11) (.tmp 17) ?_ tv (.slice (some ⟨g3, 0, none⟩) 16 cap3) t (recB (x1, x2)) ?_ ?_ ?_ ?_ ?_ ?_; rfl; rfl; rfl; exact M3.out.wk.row; rfl; exact I3.out; exact HL.out; intro v4 w4 r4 k4 n4; rw [← HTS.out] at r4; have hq4 := k4.heap9 M3.out.wk.cells M3.out.wk.qt; have z4 := frozen_of_heap hq4; have e4 : w4.cell? ⟨q, 2, none⟩ = some tv := (cell_of_heap hq4 2).trans rfl; obtain ⟨va, vc, hv4, _⟩ := r4.isB.form; rw [← HN.out] at hv4; subst hv4; have R4 := hide r4; have K4 := hide k4; have N4 := hide n4; have HQ4 := hide hq4; clear r4 k4 n4 hq4))
  all_goals
    go_wp2
    go_ret
    have k5 : Kept [q] w4 (w4.setCell ⟨q, 2, none⟩ (.slice va n vc)) := (Kept.refl _ w4).setCell (p := ⟨q, 2, none⟩) (.inl (by simp)) _
    have m3 := M3.out
    have hql := heap_lt m3.wk.cells
    have hqn : q ∉ own (.slice va n vc) := fun e => by
      rcases N4.out q e with e2 | e2
      · exact m3.wk.qt e2
      · omega
    obtain ⟨y1, y2, y3⟩ := m3.wk.turn (w' := w4.setCell ⟨q, 2, none⟩ (.slice va n vc)) (tv' := .slice va n vc) (t' := ts) (((K4.out.mono (fp' := q :: own tv) (by intro y hy; simp [hy])).trans k5 (Newly.of_sub (by simp))))
      (by have e := heap_setCell HQ4.out 2 (.slice va n vc); simpa [wcells] using e) (R4.out.kept k5 (fun y hy e => by simp only [List.mem_singleton] at e; subst e; exact hqn hy)) N4.out
    have k0 : Kept (wfp fd q tv) w w3 := Kept.of_below m3.bel
    exact ⟨rfl, _, ⟨fd, _, y1, rfl⟩, k0.trans y2 (Newly.refl _ _), fun y hy => (y3 y hy).imp id (fun e => Nat.le_trans m3.bel.size e)⟩
set_option maxRecDepth 100000 in
set_option maxHeartbeats 4000000 in
/-- Put, where a block is full. -/
theorem put_flush (h : Wk w fp p q A nm t) (hnm : nm.size ≤ maxLen) (hno : A.2.ops ≤ 1000000) (x : Rc) (hx : okR x) (ht : t.length < 800) (hs : ¬ (t ++ recB x).length < 800) {k : Int} {B : Dsk} (hB : flushW A nm.data.toList (t ++ recB x) = (k, B)) :
    Calls Tryz.prog 28 #[.pointer (some ⟨q, 0, none⟩), valR x] w fun e w' => e = .returned (.int .i64 k) ∧ (k = 0 → WkO w w' fp p q B nm []) ∧ (k ≠ 0 → WxO w w' fp p q B) := by
  obtain ⟨fd, tv, h, rfl⟩ := h
  obtain ⟨x1, x2⟩ := x
  obtain ⟨hx1, hx2⟩ := hx
  dsimp only at hx1 hx2
  unfold valR
  dsimp only
  have M0 : PutMid w (w.alloc (.cells #[.int .u64 x1, .int .u64 x2] 52)) fd tv p q A nm t x1 x2 :=
    ⟨h.below ((Below.refl _ w).alloc (Nat.le_refl _) _), heap_alloc_new w _, (Below.refl _ w).alloc (Nat.le_refl _) _⟩
  obtain ⟨c0, _, c2, c3⟩ := M0.wk.cellAt
  have P1 := hide (fun W => put8a x1 hx1 W)
  have P2 := hide (fun (W : World) (v : Value) (i : IsB W v (putB 8 x1)) => put8b x2 hx2 i)
  obtain ⟨ts, hts⟩ : ∃ ts, ts = t ++ recB (x1, x2) := ⟨_, rfl⟩
  obtain ⟨n, hn⟩ : ∃ n, n = ts.length := ⟨_, rfl⟩
  have hl : t.length + (recB (x1, x2)).length ≤ 1099511627776 := by rw [recB_length]; omega
  have HL := hide hl
  have HTS := hide hts
  have HN := hide hn
  rw [← hts, ← hn] at hs
  have htl : ts.length ≤ 1000 := by rw [hts, List.length_append, recB_length]; omega
  have FL : Hid (∀ (W : World) (fq : List Nat), Wk W fq p q A nm ts → Calls Tryz.prog 46 #[.pointer (some ⟨q, 0, none⟩)] W fun e w' => e = .returned (.int .i64 k) ∧ (k = 0 → WkO W w' fq p q B nm []) ∧ (k ≠ 0 → WxO W w' fq p q B)) := fun W fq hW => by
    by_cases hk : k = 0
    · subst hk
      refine (flush_go hW hno hnm htl (by rw [hts]; exact hB)).mono ?_
      rintro e w' ⟨rfl, o⟩
      exact ⟨rfl, fun _ => o, fun h => absurd rfl h⟩
    · refine (flush_no hW hno hnm htl hk (by rw [hts]; exact hB)).mono ?_
      rintro e w' ⟨rfl, o⟩
      exact ⟨rfl, fun h => absurd h hk, fun _ => o⟩
  have hs' : ¬ (n : Int) < 800 := by omega
  have H0 := hide h
  have HM := hide M0
  have b0' : (w.alloc (.cells #[.int .u64 x1, .int .u64 x2] 52)).drew.cell? ⟨w.heap.size, 0, none⟩ = some (.int .u64 x1) := (cell_of_heap M0.box 0).trans rfl
  have b1' : (w.alloc (.cells #[.int .u64 x1, .int .u64 x2] 52)).drew.cell? ⟨w.heap.size, 1, none⟩ = some (.int .u64 x2) := (cell_of_heap M0.box 1).trans rfl
  clear h M0 hx1 hx2 hl hts hn hB htl
  go_enter Tryz.func28, Tryz.ntmps28
  go_wp2_with fail
  refine (closed_no c0).mono ?_
  rintro e w1 ⟨rfl, rfl⟩
  have c2' : (w.alloc (.cells #[.int .u64 x1, .int .u64 x2] 52)).drew.cell? ⟨q, 2, none⟩ = some tv := c2
  go_wp2_with fail
  go_region_law (first
    | (go_simp; go_at_call_of 45 (Value.slice none 0 0); refine (P1.out _).mono ?_; rintro e w2 ⟨g2, cap2, rfl, i2, bel2⟩; have m2 := HM.out.drew.next bel2; have d2 := m2.wk.cellAt.2.2.1; have d0 := cell_of_heap m2.box 0; have d1 := cell_of_heap m2.box 1; simp at d0 d1; have M2 := hide m2; have I2 := hide i2; clear m2 i2 bel2)
    | (go_simp; go_at_call_of 45 (Value.slice (some ⟨g2, 0, none⟩) 8 cap2); refine (P2.out _ _ I2.out).mono ?_; rintro e w3 ⟨g3, cap3, rfl, i3, bel3⟩; have m3 := M2.out.next bel3; have e2 := m3.wk.cellAt.2.2.1; have M3 := hide m3; have I3 := hide i3; clear m3 i3 bel3)
    | (refine step_appendR _ ?_ (.tmp 11) (.tmp 17) ?_ tv (.slice (some ⟨g3, 0, none⟩) 16 cap3) t (recB (x1, x2)) ?_ ?_ ?_ ?_ ?_ ?_; rfl; rfl; rfl; exact M3.out.wk.row; rfl; exact I3.out; exact HL.out; intro v4 w4 r4 k4 n4; rw [← HTS.out] at r4; have hq4 := k4.heap9 M3.out.wk.cells M3.out.wk.qt; have z4 := frozen_of_heap hq4; have e4 : w4.cell? ⟨q, 2, none⟩ = some tv := (cell_of_heap hq4 2).trans rfl; obtain ⟨va, vc, hv4, _⟩ := r4.isB.form; rw [← HN.out] at hv4; subst hv4; have R4 := hide r4; have K4 := hide k4; have N4 := hide n4; have HQ4 := hide hq4; clear r4 k4 n4 hq4))
  all_goals
    have k5 : Kept [q] w4 (w4.setCell ⟨q, 2, none⟩ (.slice va n vc)) := (Kept.refl _ w4).setCell (p := ⟨q, 2, none⟩) (.inl (by simp)) _
    have m3 := M3.out
    have hql := heap_lt m3.wk.cells
    have hqn : q ∉ own (.slice va n vc) := fun e => by
      rcases N4.out q e with e2 | e2
      · exact m3.wk.qt e2
      · omega
    obtain ⟨y1, y2, y3⟩ := m3.wk.turn (w' := w4.setCell ⟨q, 2, none⟩ (.slice va n vc)) (tv' := .slice va n vc) (t' := ts) (((K4.out.mono (fp' := q :: own tv) (by intro y hy; simp [hy])).trans k5 (Newly.of_sub (by simp))))
      (by have e := heap_setCell HQ4.out 2 (.slice va n vc); simpa [wcells] using e) (R4.out.kept k5 (fun y hy e => by simp only [List.mem_singleton] at e; subst e; exact hqn hy)) N4.out
    have k0 : Kept (wfp fd q tv) w w3 := Kept.of_below m3.bel
    have F5 := hide (FL.out _ _ ⟨fd, _, y1, rfl⟩)
    have K5 := hide (k0.trans y2 (Newly.refl _ _))
    have N5 : Hid (Newly w (wfp fd q tv) (wfp fd q (.slice va n vc))) := fun y hy => (y3 y hy).imp id (fun e => Nat.le_trans m3.bel.size e)
    clear k5 m3 hql hqn y1 y2 y3 k0
    go_wp2_with fail
    refine F5.out.mono ?_
    rintro e w6 ⟨rfl, o1, o2⟩
    go_wp2
    go_ret
    refine ⟨rfl, fun hk => ?_, fun hk => ?_⟩
    · obtain ⟨fp6, a6, k6, n6⟩ := o1 hk
      exact ⟨fp6, a6, K5.out.trans k6 N5.out, N5.out.trans n6 K5.out.size⟩
    · obtain ⟨fp6, a6, k6, n6⟩ := o2 hk
      exact ⟨fp6, a6, K5.out.trans k6 N5.out, N5.out.trans n6 K5.out.size⟩
end

end Go.Proofs.YtgpbanjammipiaaGreatDoor

namespace Go.Proofs.YtgpbanjammipiaaGreatDoor
open Go.RowKit Go.Maps

/-- Sync, of whatever file. -/
theorem sync_any {w : World} {fp : List Nat} {p : Nat} {l : List Ab} {s : Ds} (h : Dk w fp p l s) (hn : s.ops ≤ 1000000) (nm : ByteArray) (hnm : nm.size ≤ maxLen) {k : Int} {B : Dsk} (hB : syncW (beginA l s) nm.data.toList = (k, B)) :
    Calls Tryz.prog 47 #[.pointer (some ⟨p, 0, none⟩), .string nm] w fun e w' => e = .returned (.int .i64 k) ∧ Outc w w' fp p B := by
  unfold syncW at hB
  cases he : errA (beginA l s) nm.data.toList with
  | some j =>
    rw [he] at hB
    simp only [Prod.mk.injEq] at hB
    obtain ⟨rfl, rfl⟩ := hB
    exact h.sync_err hn nm hnm he
  | none =>
    obtain ⟨x, hx⟩ := errA_none he
    rw [he] at hB
    dsimp only at hB
    rw [hx] at hB
    simp only [Prod.mk.injEq] at hB
    obtain ⟨rfl, rfl⟩ := hB
    exact h.sync_ok hn nm hnm he hx

section
variable {w : World} {fp : List Nat} {p q : Nat} {A : Dsk} {nm : ByteArray} {t : List Int}

set_option maxRecDepth 100000 in
theorem put_closed (h : Wx w fp p q A) (x : Rc) : Calls Tryz.prog 28 #[.pointer (some ⟨q, 0, none⟩), valR x] w fun e w' => e = .returned (.int .i64 9) ∧ Below w.heap.size w w' := by
  obtain ⟨fd, d, hc, a, rfl⟩ := h
  obtain ⟨x1, x2⟩ := x
  unfold valR
  dsimp only
  have c0 : (w.alloc (.cells #[.int .u64 x1, .int .u64 x2] 52)).cell? ⟨q, 0, none⟩ = some (.pointer none) := ((Kept.refl [] w).alloc _).cell ((cell_of_heap hc 0).trans rfl) (by simp)
  have BB := hide ((Below.refl w.heap.size w).alloc (Nat.le_refl _) (.cells #[.int .u64 x1, .int .u64 x2] 52))
  clear d hc a
  go_enter Tryz.func28, Tryz.ntmps28
  go_wp2_with fail
  refine (closed_yes c0).mono ?_
  rintro e w1 ⟨rfl, rfl⟩
  go_wp2
  go_ret
  exact ⟨rfl, BB.out⟩

set_option maxRecDepth 100000 in
theorem close_closed (h : Wx w fp p q A) : Calls Tryz.prog 29 #[.pointer (some ⟨q, 0, none⟩)] w fun e w' => e = .returned (.int .i64 9) ∧ w' = w := by
  obtain ⟨fd, d, hc, a, rfl⟩ := h
  have c0 : w.cell? ⟨q, 0, none⟩ = some (.pointer none) := (cell_of_heap hc 0).trans rfl
  clear d hc a
  go_enter Tryz.func29, Tryz.ntmps29
  go_wp2_with fail
  refine (closed_yes c0).mono ?_
  rintro e w1 ⟨rfl, rfl⟩
  go_wp2
  go_ret
  exact ⟨rfl, rfl⟩

set_option maxRecDepth 100000 in
set_option maxHeartbeats 4000000 in
theorem close_empty (h : Wk w fp p q A nm []) (hn : A.2.ops ≤ 1000000) (hnm : nm.size ≤ maxLen) {k : Int} {B : Dsk} (hB : syncW (beginA A.1 A.2) nm.data.toList = (k, B)) :
    Calls Tryz.prog 29 #[.pointer (some ⟨q, 0, none⟩)] w fun e w' => e = .returned (.int .i64 k) ∧ WxO w w' fp p q B := by
  obtain ⟨fd, tv, h, rfl⟩ := h
  obtain ⟨c0, c1, c2, c3⟩ := h.cellAt
  obtain ⟨ta, tc, rfl, htc⟩ := h.row.isB.form
  simp only [List.length_nil] at c2
  have c0' : w.drew.cell? ⟨q, 0, none⟩ = some (.pointer (some ⟨p, 0, none⟩)) := c0
  have c1' : w.drew.cell? ⟨q, 1, none⟩ = some (.string nm) := c1
  have SY := hide (sync_any (h.disk.below ((Below.refl _ w).drew)) hn nm hnm hB)
  have H := hide (h.below ((Below.refl _ w).drew))
  clear h htc hB
  go_enter Tryz.func29, Tryz.ntmps29
  go_wp2_with fail
  refine (closed_no c0).mono ?_
  rintro e w1 ⟨rfl, rfl⟩
  go_wp2_with fail
  go_region_held (fun W => W.cell? ⟨q, 0, none⟩ = some (.pointer (some ⟨p, 0, none⟩)) ∧ W.cell? ⟨q, 1, none⟩ = some (.string nm)) (exact ⟨by assumption, by assumption⟩) (first | (go_at_call 47; refine SY.out.mono ?_; rintro e w2 ⟨rfl, o2⟩; obtain ⟨fd2, E2, K2, N2⟩ := H.out.disk_op o2; obtain ⟨f0, f1, f2, f3⟩ := E2.cellAt; have EE := hide (end_any E2); have HK2 := hide K2; have HN2 := hide N2; clear o2 E2 K2 N2 f2))
  go_wp2_with fail
  refine EE.out.mono ?_
  rintro e w3 ⟨rfl, fp3, x3, k3, n3⟩
  go_wp2
  go_ret
  have k2 : Kept (wfp fd q (.slice ta ([] : List Int).length tc)) w1 w2 := ⟨HK2.out.os, HK2.out.tape, HK2.out.output, HK2.out.size, HK2.out.block⟩
  have n2 : Newly w1 (wfp fd q (.slice ta ([] : List Int).length tc)) (wfp fd2 q (.slice ta ([] : List Int).length tc)) := HN2.out
  exact ⟨rfl, fp3, x3, k2.trans k3 n2, n2.trans n3 k2.size⟩

set_option maxRecDepth 100000 in
set_option maxHeartbeats 4000000 in
theorem close_full (h : Wk w fp p q A nm t) (h0 : t ≠ []) (ht : t.length ≤ 1000) (hn : A.2.ops < 1000000) (hnm : nm.size ≤ maxLen) {C : Dsk} (hC : flushW A nm.data.toList t = (0, C)) {k : Int} {B : Dsk} (hB : syncW (beginA C.1 C.2) nm.data.toList = (k, B)) :
    Calls Tryz.prog 29 #[.pointer (some ⟨q, 0, none⟩)] w fun e w' => e = .returned (.int .i64 k) ∧ WxO w w' fp p q B := by
  have FL := hide (flush_go h (by omega) hnm ht hC)
  have hop : C.2.ops = A.2.ops + 1 := by
    have := flushW_ops A nm.data.toList t
    rw [hC] at this
    exact this
  have SY := hide (fun (W : World) (fd : List Nat) (d : Dk W fd p C.1 C.2) => sync_any d (by omega) nm hnm hB)
  obtain ⟨fd, tv, h, rfl⟩ := h
  obtain ⟨c0, c1, c2, c3⟩ := h.cellAt
  obtain ⟨ta, tc, rfl, htc⟩ := h.row.isB.form
  obtain ⟨n, hnl⟩ : ∃ n, n = t.length := ⟨_, rfl⟩
  have hpos : 0 < n := by rw [hnl]; exact List.length_pos_iff.2 h0
  rw [← hnl] at c2 FL ⊢
  clear h htc hB hC h0 ht hop hnl
  go_enter Tryz.func29, Tryz.ntmps29
  go_wp2_with fail
  refine (closed_no c0).mono ?_
  rintro e w1 ⟨rfl, rfl⟩
  go_wp2_with fail
  refine FL.out.mono ?_
  rintro e w1 ⟨rfl, fp1, ⟨fd1, tv1, H1, rfl⟩, K1, N1⟩
  obtain ⟨d0, d1, d2, d3⟩ := H1.cellAt
  have d0' : w1.drew.cell? ⟨q, 0, none⟩ = some (.pointer (some ⟨p, 0, none⟩)) := d0
  have d1' : w1.drew.cell? ⟨q, 1, none⟩ = some (.string nm) := d1
  have H := hide (H1.below ((Below.refl _ w1).drew))
  have HK1 := hide K1
  have HN1 := hide N1
  clear H1 K1 N1 d2
  go_wp2_with fail
  go_region_held (fun W => W.cell? ⟨q, 0, none⟩ = some (.pointer (some ⟨p, 0, none⟩)) ∧ W.cell? ⟨q, 1, none⟩ = some (.string nm)) (exact ⟨by assumption, by assumption⟩) (first | (go_at_call 47; refine (SY.out _ _ H.out.disk).mono ?_; rintro e w2 ⟨rfl, o2⟩; obtain ⟨fd2, E2, K2, N2⟩ := H.out.disk_op o2; obtain ⟨f0, f1, f2, f3⟩ := E2.cellAt; have EE := hide (end_any E2); have HK2 := hide K2; have HN2 := hide N2; clear o2 E2 K2 N2 f2))
  go_wp2_with fail
  refine EE.out.mono ?_
  rintro e w3 ⟨rfl, fp3, x3, k3, n3⟩
  go_wp2
  go_ret
  have k2 : Kept _ w1 w2 := ⟨HK2.out.os, HK2.out.tape, HK2.out.output, HK2.out.size, HK2.out.block⟩
  have n2 : Newly w1 _ _ := HN2.out
  have k12 := HK1.out.trans k2 HN1.out
  have n12 := HN1.out.trans n2 HK1.out.size
  exact ⟨rfl, fp3, x3, k12.trans k3 n12, n12.trans n3 k12.size⟩

set_option maxRecDepth 100000 in
set_option maxHeartbeats 4000000 in
theorem close_no (h : Wk w fp p q A nm t) (h0 : t ≠ []) (ht : t.length ≤ 1000) (hn : A.2.ops ≤ 1000000) (hnm : nm.size ≤ maxLen) {k : Int} (hk : ¬ k = 0) {C : Dsk} (hC : flushW A nm.data.toList t = (k, C)) :
    Calls Tryz.prog 29 #[.pointer (some ⟨q, 0, none⟩)] w fun e w' => e = .returned (.int .i64 k) ∧ WxO w w' fp p q C := by
  have FL := hide (flush_no h hn hnm ht hk hC)
  obtain ⟨fd, tv, h, rfl⟩ := h
  obtain ⟨c0, c1, c2, c3⟩ := h.cellAt
  obtain ⟨ta, tc, rfl, htc⟩ := h.row.isB.form
  obtain ⟨n, hnl⟩ : ∃ n, n = t.length := ⟨_, rfl⟩
  have hpos : 0 < n := by rw [hnl]; exact List.length_pos_iff.2 h0
  rw [← hnl] at c2 FL ⊢
  clear h htc hC h0 ht hnl
  go_enter Tryz.func29, Tryz.ntmps29
  go_wp2_with fail
  refine (closed_no c0).mono ?_
  rintro e w1 ⟨rfl, rfl⟩
  go_wp2_with fail
  refine FL.out.mono ?_
  rintro e w1 ⟨rfl, o1⟩
  go_wp2
  go_ret
  exact ⟨rfl, o1⟩

/-- Close. -/
theorem close_any (h : Wk w fp p q A nm t) (ht : t.length ≤ 1000) (hn : A.2.ops < 1000000) (hnm : nm.size ≤ maxLen) {k : Int} {B : Dsk} (hB : closeW A nm.data.toList t = (k, B)) :
    Calls Tryz.prog 29 #[.pointer (some ⟨q, 0, none⟩)] w fun e w' => e = .returned (.int .i64 k) ∧ WxO w w' fp p q B := by
  unfold closeW at hB
  by_cases h0 : t = []
  · subst h0
    rw [if_pos rfl] at hB
    exact close_empty h (by omega) hnm hB
  · rw [if_neg h0] at hB
    obtain ⟨j, C, hC⟩ : ∃ j C, flushW A nm.data.toList t = (j, C) := ⟨_, _, rfl⟩
    rw [hC] at hB
    dsimp only at hB
    by_cases hj : j = 0
    · rw [if_pos hj] at hB
      subst hj
      exact close_full h h0 ht hn hnm hC hB
    · rw [if_neg hj] at hB
      simp only [Prod.mk.injEq] at hB
      obtain ⟨rfl, rfl⟩ := hB
      exact close_no h h0 ht (by omega) hnm hj hC

/-- Put. -/
theorem put_step (h : Wk w fp p q A nm t) (hnm : nm.size ≤ maxLen) (hn : A.2.ops ≤ 1000000) (x : Rc) (hx : okR x) (ht : t.length < 800) {k : Int} {B : Dsk} {t' : List Int} (hB : putW A nm.data.toList t x = (k, B, t')) :
    Calls Tryz.prog 28 #[.pointer (some ⟨q, 0, none⟩), valR x] w fun e w' => e = .returned (.int .i64 k) ∧ (k = 0 → WkO w w' fp p q B nm t') ∧ (k ≠ 0 → WxO w w' fp p q B) := by
  unfold putW at hB
  by_cases hs : (t ++ recB x).length < 800
  · rw [if_pos hs] at hB
    simp only [Prod.mk.injEq] at hB
    obtain ⟨rfl, rfl, rfl⟩ := hB
    refine (put_text h x hx (by omega) hs).mono ?_
    rintro e w' ⟨rfl, o⟩
    exact ⟨rfl, fun _ => o, fun h => absurd rfl h⟩
  · rw [if_neg hs] at hB
    obtain ⟨j, C, hC⟩ : ∃ j C, flushW A nm.data.toList (t ++ recB x) = (j, C) := ⟨_, _, rfl⟩
    rw [hC] at hB
    simp only [Prod.mk.injEq] at hB
    obtain ⟨rfl, rfl, rfl⟩ := hB
    exact put_flush h hnm hn x hx ht hs hC

end

end Go.Proofs.YtgpbanjammipiaaGreatDoor
