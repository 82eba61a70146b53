/-
  Names of files, sorted; the look-up of a file; copies of slices. A lemma file: no statement of the seat is proved here.
-/
import Derived.Test.YtbhjdcoehgajcaaDSmall
import Derived.Test.YtbhjdcoehgajcaaIter
namespace Go.Proofs.Ytbhjdcoehgajcaa
open Go.RowKit Go.Maps Go.Sort Go.Shelf

theorem strLaw : Keyed Try.prog 9 := string_keyed Try.underlying9

theorem look_name {fs : List Fl} {n : List UInt8} {f : Fl} (h : look fs n = some f) : f ∈ fs ∧ f.name = n := by
  unfold look at h
  exact ⟨List.mem_of_find?_eq_some h, by simpa using List.find?_some h⟩

theorem look_none {fs : List Fl} {n : List UInt8} (h : look fs n = none) : ∀ f ∈ fs, f.name ≠ n := by
  unfold look at h
  intro f hf
  simpa using List.find?_eq_none.1 h f hf

theorem lt_ne {x y : List UInt8} (h : x < y) : x ≠ y := fun e => by subst e; exact List.lt_irrefl _ h

theorem look_of_mem {fs : List Fl} (hs : fs.Pairwise (fun f g => f.name < g.name)) {f : Fl} (hf : f ∈ fs) : look fs f.name = some f := by
  induction fs with
  | nil => simp at hf
  | cons g fs ih =>
    rw [List.pairwise_cons] at hs
    unfold look
    rw [List.find?_cons]
    rcases List.mem_cons.1 hf with rfl | hf
    · simp
    · have hne : (g.name == f.name) = false := by simpa using lt_ne (hs.1 f hf)
      rw [hne]
      exact ih hs.2 hf

theorem names_sorted {D : DataW Unit} {w : World} {bm n : Nat} {fs : List Fl} (hown : w.ownsMap Try.prog 9 ptrE bm n D) (hD : MapIs D fs) (hs : fs.Pairwise (fun f g => f.name < g.name)) {ss : List (List UInt8)} (hp : ss.Perm (strKeys D)) :
    ss.mergeSort (fun x y => decide (x ≤ y)) = fs.map Fl.name := by
  have hnd : (fs.map Fl.name).Nodup := List.pairwise_map.2 (hs.imp fun h => lt_ne h)
  have hpw : (fs.map Fl.name).Pairwise (fun x y => decide (x ≤ y) = true) := List.pairwise_map.2 (hs.imp fun h => by simpa using List.le_of_lt h)
  have hmem : ∀ x, x ∈ fs.map Fl.name ↔ Maps.has D (.string x) = true := by
    intro x
    rw [hD.has x]
    constructor
    · intro h
      obtain ⟨f, hf, rfl⟩ := List.mem_map.1 h
      rw [look_of_mem hs hf]
      rfl
    · intro h
      obtain ⟨f, hf⟩ := Option.isSome_iff_exists.1 h
      exact List.mem_map.2 ⟨f, (look_name hf).1, (look_name hf).2⟩
  obtain ⟨es, hDe, hpw2, _⟩ := hown.entries strLaw
  obtain ⟨es', hD', hko⟩ := hown.keysOf
  obtain rfl : es = es' := by rw [hDe] at hD'; simpa using hD'
  subst hDe
  have hq := perm_strKeys hpw2 (fun p hp => by obtain ⟨v, hv⟩ := hko p hp; obtain ⟨x, _, hx, _⟩ := Maps.keyOf_str Try.underlying9 hv; exact ⟨x, hx⟩) hnd hmem
  have e1 := mergeSort_of_perm (hp.trans hq.symm)
  rw [e1]
  exact List.mergeSort_of_pairwise hpw

set_option maxHeartbeats 1000000 in
theorem names_any {w : World} {p bm : Nat} {kv : Value} {fs : List Fl} {s : Ds} (h : DiskAt w p bm kv fs s) (hl : fs.length ≤ 1073741824) :
    Calls Try.prog 38 #[.pointer (some ⟨p, 0, none⟩)] w fun e w' => ∃ v, e = .returned v ∧ w'.ownsRow w.heap.size 9 1 v fs.length (fs.map fun f => encStr f.name) ∧ Below w.heap.size w w' := by
  obtain ⟨D, hown, hD⟩ := h.map
  have c0 := cell_of_heap h.cells 0
  simp [diskCells] at c0
  have hs := h.sorted
  have hz : Maps.size D = fs.length := hD.size
  have hmax : Maps.size D ≤ maxLen := by unfold maxLen; omega
  have hby : Maps.size D * 16 ≤ 140737488355328 := by omega
  have K1 := hide (fun W => callsIn_wide.1 (Try.maps_Keys_54 (some bm) W))
  have K2 := hide (callsIn_wide.1 (Try.slices_Sorted_keys_53_54 bm fs.length D ptrE w hown hmax hby))
  have HN : Hid (∀ ss : List (List UInt8), ss.Perm (strKeys D) → ss.mergeSort (fun x y => decide (x ≤ y)) = fs.map Fl.name) := fun ss hp => names_sorted hown hD hs hp
  clear hmax hby hz hs hown hD h
  go_enter Try.func38, Try.ntmps38
  go_wp2_with (first
    | (go_at_call 54; refine (K1.out _).mono ?_; rintro e w' ⟨rfl, rfl⟩)
    | (go_at_call 53; refine K2.out.mono ?_; rintro e w' ⟨v, ss, rfl, hS, hrow, hnil, hb⟩))
  go_ret
  have e := HN.out ss hS
  have e2 : ss.length = fs.length := by
    have := congrArg List.length e
    simpa using this
  refine ⟨v, rfl, ?_, ((Below.refl _ w).alloc (Nat.le_refl _) _).trans (hb.mono (by simp))⟩
  rw [e, e2, List.map_map] at hrow
  exact ownsRow_base_a hrow (by simp)

/-- The pointer to a file that there may be. -/
def ptrOf (o : Option Fl) : Value := .pointer (o.map fun f => ⟨f.blk, 0, none⟩)

theorem Try.zeroPtr (w : World) : (zeroValue 67).run Try.prog w = .ok (.pointer none) w := by kernel_rfl

theorem look_run {w : World} {bm n : Nat} {D : DataW Unit} {fs : List Fl} (hown : w.ownsMap Try.prog 9 ptrE bm n D) (hD : MapIs D fs) (nm : List UInt8) (hn : nm.length ≤ maxLen) :
    (Instr.lookup 72 (.map (some bm)) (.string ⟨nm.toArray⟩) false).run Try.prog w = .ok (ptrOf (look fs nm)) w := by
  obtain ⟨v, ps, hrun, hv⟩ := hown.lookup strLaw Try.underlying72 (Try.zeroPtr w) ptrE_none (Go.WideMaps.keyOf_string_mk (s := ⟨nm.toArray⟩) Try.underlying9 (by simpa [ByteArray.size] using hn))
  rw [hrun]
  have e : (⟨nm.toArray⟩ : ByteArray).data.toList = nm := rfl
  rw [e, hD.at_ nm] at hv
  cases hl : look fs nm with
  | none =>
    rw [hl] at hv
    rw [ptrE_inv_nil hv]
    rfl
  | some f =>
    rw [hl] at hv
    rw [ptrE_inv hv]
    rfl

end Go.Proofs.Ytbhjdcoehgajcaa
