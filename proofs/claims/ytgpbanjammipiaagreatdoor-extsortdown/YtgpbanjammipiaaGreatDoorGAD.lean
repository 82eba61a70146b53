/-
  Lemma texts, one behind the other: DNames, DClone, DZeros, DSame, DStays, DCopy, DTear. No statement of the seat is proved here.
-/
import Derived.Test.YtgpbanjammipiaaGreatDoorGAB
import Derived.Test.YtgpbanjammipiaaGreatDoorIter
import Derived.Lib.AppendZeros
import Derived.Laws.CopyOwn
import Derived.Deep.RegionHeldLaw
import Derived.Deep.RegionLaw
namespace Go.Proofs.YtgpbanjammipiaaGreatDoor
open Go.RowKit Go.Maps Go.Sort Go.Shelf

theorem strLaw : Keyed Tryz.prog 9 := string_keyed Tryz.underlying9

theorem look_name {fs : List Fl} {n : List UInt8} {f : Fl} (h : look fs n = some f) : f ∈ fs ∧ f.name = n := by
  unfold look at h
  exact ⟨List.mem_of_find?_eq_some h, by simpa using List.find?_some h⟩

theorem look_none {fs : List Fl} {n : List UInt8} (h : look fs n = none) : ∀ f ∈ fs, f.name ≠ n := by
  unfold look at h
  intro f hf
  simpa using List.find?_eq_none.1 h f hf

theorem lt_ne {x y : List UInt8} (h : x < y) : x ≠ y := fun e => by subst e; exact List.lt_irrefl _ h

theorem look_of_mem {fs : List Fl} (hs : fs.Pairwise (fun f g => f.name < g.name)) {f : Fl} (hf : f ∈ fs) : look fs f.name = some f := by
  induction fs with
  | nil => simp at hf
  | cons g fs ih =>
    rw [List.pairwise_cons] at hs
    unfold look
    rw [List.find?_cons]
    rcases List.mem_cons.1 hf with rfl | hf
    · simp
    · have hne : (g.name == f.name) = false := by simpa using lt_ne (hs.1 f hf)
      rw [hne]
      exact ih hs.2 hf

theorem names_sorted {D : DataW Unit} {w : World} {bm n : Nat} {fs : List Fl} (hown : w.ownsMap Tryz.prog 9 ptrE bm n D) (hD : MapIs D fs) (hs : fs.Pairwise (fun f g => f.name < g.name)) {ss : List (List UInt8)} (hp : ss.Perm (strKeys D)) :
    ss.mergeSort (fun x y => decide (x ≤ y)) = fs.map Fl.name := by
  have hnd : (fs.map Fl.name).Nodup := List.pairwise_map.2 (hs.imp fun h => lt_ne h)
  have hpw : (fs.map Fl.name).Pairwise (fun x y => decide (x ≤ y) = true) := List.pairwise_map.2 (hs.imp fun h => by simpa using List.le_of_lt h)
  have hmem : ∀ x, x ∈ fs.map Fl.name ↔ Maps.has D (.string x) = true := by
    intro x
    rw [hD.has x]
    constructor
    · intro h
      obtain ⟨f, hf, rfl⟩ := List.mem_map.1 h
      rw [look_of_mem hs hf]
      rfl
    · intro h
      obtain ⟨f, hf⟩ := Option.isSome_iff_exists.1 h
      exact List.mem_map.2 ⟨f, (look_name hf).1, (look_name hf).2⟩
  obtain ⟨es, hDe, hpw2, _⟩ := hown.entries strLaw
  obtain ⟨es', hD', hko⟩ := hown.keysOf
  obtain rfl : es = es' := by rw [hDe] at hD'; simpa using hD'
  subst hDe
  have hq := perm_strKeys hpw2 (fun p hp => by obtain ⟨v, hv⟩ := hko p hp; obtain ⟨x, _, hx, _⟩ := Maps.keyOf_str Tryz.underlying9 hv; exact ⟨x, hx⟩) hnd hmem
  have e1 := mergeSort_of_perm (hp.trans hq.symm)
  rw [e1]
  exact List.mergeSort_of_pairwise hpw

set_option maxHeartbeats 1000000 in
theorem names_any {w : World} {p bm : Nat} {kv : Value} {fs : List Fl} {s : Ds} (h : DiskAt w p bm kv fs s) (hl : fs.length ≤ 1073741824) :
    Calls Tryz.prog 35 #[.pointer (some ⟨p, 0, none⟩)] w fun e w' => ∃ v, e = .returned v ∧ w'.ownsRow w.heap.size 9 1 v fs.length (fs.map fun f => encStr f.name) ∧ Below w.heap.size w w' := by
  obtain ⟨D, hown, hD⟩ := h.map
  have c0 := cell_of_heap h.cells 0
  simp [diskCells] at c0
  have hs := h.sorted
  have hz : Maps.size D = fs.length := hD.size
  have hmax : Maps.size D ≤ maxLen := by unfold maxLen; omega
  have hby : Maps.size D * 16 ≤ 140737488355328 := by omega
  have K1 := hide (fun W => callsIn_wide.1 (Tryz.maps_Keys_65 (some bm) W))
  have K2 := hide (callsIn_wide.1 (Tryz.slices_Sorted_keys_64_65 bm fs.length D ptrE w hown hmax hby))
  have HN : Hid (∀ ss : List (List UInt8), ss.Perm (strKeys D) → ss.mergeSort (fun x y => decide (x ≤ y)) = fs.map Fl.name) := fun ss hp => names_sorted hown hD hs hp
  clear hmax hby hz hs hown hD h
  go_enter Tryz.func35, Tryz.ntmps35
  go_wp2_with (first
    | (go_at_call 65; refine (K1.out _).mono ?_; rintro e w' ⟨rfl, rfl⟩)
    | (go_at_call 64; refine K2.out.mono ?_; rintro e w' ⟨v, ss, rfl, hS, hrow, hnil, hb⟩))
  go_ret
  have e := HN.out ss hS
  have e2 : ss.length = fs.length := by
    have := congrArg List.length e
    simpa using this
  refine ⟨v, rfl, ?_, ((Below.refl _ w).alloc (Nat.le_refl _) _).trans (hb.mono (by simp))⟩
  rw [e, e2, List.map_map] at hrow
  exact ownsRow_base_a hrow (by simp)

/-- The pointer to a file that there may be. -/
def ptrOf (o : Option Fl) : Value := .pointer (o.map fun f => ⟨f.blk, 0, none⟩)

theorem Tryz.zeroPtr (w : World) : (zeroValue 90).run Tryz.prog w = .ok (.pointer none) w := by kernel_rfl

theorem look_run {w : World} {bm n : Nat} {D : DataW Unit} {fs : List Fl} (hown : w.ownsMap Tryz.prog 9 ptrE bm n D) (hD : MapIs D fs) (nm : List UInt8) (hn : nm.length ≤ maxLen) :
    (Instr.lookup 53 (.map (some bm)) (.string ⟨nm.toArray⟩) false).run Tryz.prog w = .ok (ptrOf (look fs nm)) w := by
  obtain ⟨v, ps, hrun, hv⟩ := hown.lookup strLaw Tryz.underlying53 (Tryz.zeroPtr w) ptrE_none (Go.WideMaps.keyOf_string_mk (s := ⟨nm.toArray⟩) Tryz.underlying9 (by simpa [ByteArray.size] using hn))
  rw [hrun]
  have e : (⟨nm.toArray⟩ : ByteArray).data.toList = nm := rfl
  rw [e, hD.at_ nm] at hv
  cases hl : look fs nm with
  | none =>
    rw [hl] at hv
    rw [ptrE_inv_nil hv]
    rfl
  | some f =>
    rw [hl] at hv
    rw [ptrE_inv hv]
    rfl

end Go.Proofs.YtgpbanjammipiaaGreatDoor

namespace Go.Proofs.YtgpbanjammipiaaGreatDoor
open Go.RowKit Go.Maps Go.Sort Go.Shelf

/-- The slice value v holds the truths ks. -/
def IsK (w : World) (v : Value) (ks : List Bool) : Prop :=
  ∃ (a : Option Addr) (cap : Nat), v = .slice a ks.length cap ∧ ks.length ≤ cap ∧ (a = none → ks = [] ∧ cap = 0) ∧
    (∀ x, a = some x → ∀ j, j < ks.length → w.cell? (x.add j) = some (.bool (ks[j]?.getD false)))

theorem IsK.nil (w : World) : IsK w (.slice none 0 0) [] := ⟨none, 0, rfl, Nat.le_refl _, fun _ => ⟨rfl, rfl⟩, by simp⟩

theorem IsK.kept {fp : List Nat} {w w' : World} {v : Value} {ks : List Bool} (h : IsK w v ks) (hk : Kept fp w w') (hf : ks ≠ [] → ∀ x ∈ own v, x ∉ fp) : IsK w' v ks := by
  obtain ⟨a, cap, rfl, h1, h2, h3⟩ := h
  refine ⟨a, cap, rfl, h1, h2, fun x hx j hj => ?_⟩
  subst hx
  exact hk.cell (h3 x rfl j hj) (hf (fun e => by subst e; simp at hj) _ (by simp [Value.ownBlock, Addr.add]; split <;> rfl))

theorem IsK.below {w w' : World} {v : Value} {ks : List Bool} (h : IsK w v ks) (hb : Below w.heap.size w w') : IsK w' v ks :=
  h.kept (Kept.of_below (fp := []) hb) (fun _ _ _ => by simp)

theorem IsK.lt {w : World} {v : Value} {ks : List Bool} (h : IsK w v ks) (hne : ks ≠ []) : ∀ x ∈ own v, x < w.heap.size := by
  obtain ⟨a, cap, rfl, h1, h2, h3⟩ := h
  intro x hx
  cases a with
  | none => simp [own, Value.ownBlock] at hx
  | some a =>
    have := World.block_lt_of_cell? w _ (h3 a rfl 0 (List.length_pos_iff.2 hne))
    simp [own, Value.ownBlock] at hx
    subst hx
    simpa [Addr.add] using this

theorem RowK.isK {w : World} {v : Value} {ks : List Bool} (h : RowK w v ks) : IsK w v ks := by
  obtain ⟨h1, h2⟩ := id h
  rcases h2 with ⟨rfl, e⟩ | ⟨g, cap, cur, rfl, hb, hg, hn, hm, hs, ht⟩
  · obtain rfl : ks = [] := List.eq_nil_of_length_eq_zero e
    exact IsK.nil w
  · refine ⟨_, cap, rfl, hn, by simp, fun x hx j hj => ?_⟩
    simp only [Option.some.injEq] at hx
    subst hx
    have := World.ownsRow.cells h (g := g) rfl j (.bool (ks[j]?.getD false)) (by simp [hj])
    exact this

theorem Tryz.infoBool : (Tryz.prog.info? 4).map (fun i => (i.zero, i.size, i.bytes)) = some (some (.bool false), 1, 1) := by kernel_rfl

section
variable {ops : Array Oper} {rest : List Oper} {o : Oper} {a : Act} {Q : Exit → Act → World → Prop}

/-- .. as a step of a region that draws its order. -/
theorem step_appendR {K : Act → World → Prop} {E : Prop} (w : World) (hgd : o.guard = none) (s x : Operand) (ho : o.op = .call { callee := .builtin .append, args := #[s, x], argTypes := #[46, 46] })
    (v u : Value) (bs cs : List Int) (hs : a.eval s = v) (hrow : RowB w v bs) (hx : a.eval x = u) (hu : IsB w u cs) (hlen : bs.length + cs.length ≤ 1099511627776)
    (h : ∀ v' w', RowB w' v' (bs ++ cs) → Kept (own v) w w' → Newly w (own v) (own v') → K (a.put o.dst v') w') :
    if Region.wanted o (yielded ops a.tmps) = true then Oper.wp Tryz.prog o a w K Q else E := by
  have hw : Region.wanted o (yielded ops a.tmps) = true := by simp [Region.wanted, hgd]
  rw [if_pos hw]
  obtain ⟨v', w', hr, h2, h3, h4, h5⟩ := hrow.append hu hlen o.type
  unfold Oper.wp execOp
  simp only [ho, resolve, invoke, builtin, Sem.run_bind, Sem.run_pure, Result.andThen_ok, List.map_toArray, List.map_cons, List.map_nil, hs, hx, hr]
  exact h v' w' h2 h3 h4

/-- 'append(row, b...)' of truths. -/
theorem wp_appendK (w : World) (hgd : o.guard = none) (s x : Operand) (ho : o.op = .call { callee := .builtin .append, args := #[s, x], argTypes := #[43, 43] })
    (v u : Value) (ks ls : List Bool) (hs : a.eval s = v) (hrow : RowK w v ks) (hx : a.eval x = u) (hu : IsK w u ls) (hlen : ks.length + ls.length ≤ 1099511627776)
    (h : ∀ v' w', RowK w' v' (ks ++ ls) → Kept (own v) w w' → Newly w (own v) (own v') → wpList Tryz.prog ops Q rest (a.put o.dst v') w') :
    wpList Tryz.prog ops Q (o :: rest) a w := by
  refine wpList_plain hgd fun K hK => ?_
  obtain ⟨i0, hi, hz0, hz1, hz2⟩ := info_parts Tryz.infoBool
  obtain ⟨ad, c, rfl, h1, h2, h3⟩ := hu
  cases ad with
  | none =>
    obtain ⟨rfl, rfl⟩ := h2 rfl
    have hr := run_append_owned_none (P := Tryz.prog) (w := w) 0 43 o.type 4 i0 1 Tryz.underlying43 hi _ _ _ hrow
    simp only [List.length_nil] at hx
    unfold Oper.wp execOp
    simp only [ho, resolve, invoke, builtin, Sem.run_bind, Sem.run_pure, Result.andThen_ok, List.map_toArray, List.map_cons, List.map_nil, hs, hx, hr]
    exact hK _ _ (h v w (by simpa using hrow) (Kept.refl _ _) (Newly.refl _ _))
  | some ad =>
    obtain ⟨v', w', hr, ho', hg, hn, hat⟩ := run_append_own_at (P := Tryz.prog) w 0 43 o.type 4 i0 (.bool false) 1 1 Tryz.underlying43 hi hz0 hz1 hz2 rfl (by decide) v ks.length _ hrow ad ls.length c (ls.map Value.bool) (by simp) (fun j u hu => by
      have hj : j < ls.length := by simpa using (List.getElem?_eq_some_iff.1 hu).1
      rw [h3 ad rfl j hj]
      simp [hj] at hu
      simp [hj, hu]) (fun u hu => by obtain ⟨k, _, rfl⟩ := List.mem_map.1 hu; rfl) (by unfold maxLen; omega) (by omega) (Nat.zero_le _)
    unfold Oper.wp execOp
    simp only [ho, resolve, invoke, builtin, Sem.run_bind, Sem.run_pure, Result.andThen_ok, List.map_toArray, List.map_cons, List.map_nil, hs, hx, hr]
    refine hK _ _ (h v' w' (by simpa [RowK] using ho') (Kept.of_grown hg) ?_)
    intro y hy
    rcases hat with e | e
    · exact .inl (by simpa [own, e] using hy)
    · simp [own, e] at hy
      subst hy
      exact .inr (Nat.le_refl _)
end

theorem Tryz.eqlNone (w : World) : (binOp .eql 46 (.slice none 0 0) (.slice none 0 0)).run Tryz.prog w = .ok (.bool true) w := by kernel_rfl
theorem Tryz.eqlNoneK (w : World) : (binOp .eql 43 (.slice none 0 0) (.slice none 0 0)).run Tryz.prog w = .ok (.bool true) w := by kernel_rfl
theorem Tryz.eqlSomeK (ad : Addr) (n c : Nat) (w : World) : (binOp .eql 43 (.slice (some ad) n c) (.slice none 0 0)).run Tryz.prog w = .ok (.bool false) w := by kernel_rfl

set_option maxRecDepth 100000 in
set_option maxHeartbeats 1000000 in
/-- slices.Clone, of bytes. -/
theorem cloneB_any (v : Value) (bs : List Int) (w : World) (hv : IsB w v bs) (hl : bs.length ≤ 1099511627776) :
    Calls Tryz.prog 136 #[v] w fun e w' => ∃ v', e = .returned v' ∧ RowB w' v' bs ∧ Below w.heap.size w w' ∧ (∀ x ∈ own v', w.heap.size ≤ x) := by
  obtain ⟨ad, c, rfl, h1⟩ := hv.form
  have HV := hide hv
  cases ad with
  | none =>
    obtain ⟨a', c', he, _, h2, _⟩ := hv
    simp only [Value.slice.injEq] at he
    obtain ⟨rfl, _, rfl⟩ := he
    obtain ⟨rfl, rfl⟩ := h2 rfl
    have q := Tryz.eqlNone
    go_enter Tryz.func136, Tryz.ntmps136
    go_wp2
    go_ret
    exact ⟨.slice none 0 0, rfl, RowB.nil _, Below.refl _ _, by simp [Value.ownBlock]⟩
  | some ad =>
    clear hv
    have R0 := hide ((OwnB.empty w 0 (Nat.zero_le _)).rowB)
    have HB := hide (HV.out.below ((Below.refl _ w).alloc (Nat.le_refl _) (.cells #[] 5)))
    have q := Tryz.eqlSome ad
    go_enter Tryz.func136, Tryz.ntmps136
    go_wp2_with (first | (at_builtin; refine wp_appendR _ rfl _ _ rfl (.slice (some ⟨w.heap.size, 0, none⟩) 0 0) _ [] bs rfl R0.out rfl HB.out (by simpa using hl) ?_; intro v' w' hrow hk hn hnil) | go_in)
    go_ret
    refine ⟨v', rfl, by simpa using hrow, ((Below.refl _ w).alloc (Nat.le_refl _) _).trans (hk.below (by simp) (by simp [Value.ownBlock])), fun x hx => ?_⟩
    rcases hn x hx with h | h
    · simp [Value.ownBlock] at h
      omega
    · simp at h
      omega

set_option maxRecDepth 100000 in
set_option maxHeartbeats 1000000 in
/-- slices.Clone, of truths. -/
theorem cloneK_any (v : Value) (ks : List Bool) (w : World) (hv : IsK w v ks) (hl : ks.length ≤ 1099511627776) :
    Calls Tryz.prog 40 #[v] w fun e w' => ∃ v', e = .returned v' ∧ RowK w' v' ks ∧ Below w.heap.size w w' ∧ (∀ x ∈ own v', w.heap.size ≤ x) := by
  have HV := hide hv
  obtain ⟨ad, c, rfl, h1, h2, _⟩ := hv
  cases ad with
  | none =>
    obtain ⟨rfl, rfl⟩ := h2 rfl
    have q := Tryz.eqlNoneK
    go_enter Tryz.func40, Tryz.ntmps40
    go_wp2
    go_ret
    exact ⟨.slice none 0 0, rfl, World.ownsRow_nil _ _ _ _, Below.refl _ _, by simp [Value.ownBlock]⟩
  | some ad =>
    clear h2
    have R0 : Hid (RowK (w.alloc (.cells #[] 4)) (.slice (some ⟨w.heap.size, 0, none⟩) 0 0) []) := World.ownsRow_made w #[] 0 (Nat.zero_le _) (by unfold maxLen; omega) rfl
    have HB := hide (HV.out.below ((Below.refl _ w).alloc (Nat.le_refl _) (.cells #[] 4)))
    have q := Tryz.eqlSomeK ad
    go_enter Tryz.func40, Tryz.ntmps40
    go_wp2_with (first | (at_builtin; refine wp_appendK _ rfl _ _ rfl (.slice (some ⟨w.heap.size, 0, none⟩) 0 0) _ [] ks rfl R0.out rfl HB.out (by simpa using hl) ?_; intro v' w' hrow hk hn) | go_in)
    go_ret
    refine ⟨v', rfl, by simpa using hrow, ((Below.refl _ w).alloc (Nat.le_refl _) _).trans (hk.below (by simp) (by simp [Value.ownBlock])), fun x hx => ?_⟩
    rcases hn x hx with h | h
    · simp [Value.ownBlock] at h
      omega
    · simp at h
      omega

end Go.Proofs.YtgpbanjammipiaaGreatDoor

namespace Go.Proofs.YtgpbanjammipiaaGreatDoor
open Go.RowKit Go.Maps Go.Sort Go.Shelf

theorem zeros_u8 (n : Nat) : Builtin.zeroCells (Value.int .u8 0).cells n = ((List.replicate n (0 : Int)).map (Value.int .u8)).toArray := by
  apply Array.ext'
  simp [Builtin.zeroCells, Value.cells]
  apply List.ext_getElem?
  intro i
  by_cases h : i < n
  · simp [h, Nat.mod_one]
  · simp [h]

theorem run_zeros_room (w : World) (ty : TypeId) (g sLen sCap n : Nat) (cur : Array Value) (hg : w.heap[g]? = some (.cells cur 5 (0, 0))) (h0 : 0 < n) (hroom : sLen + n ≤ sCap) (hfit : sCap ≤ cur.size) (hl : sLen + n ≤ 1099511627776) :
    (Builtin.append_ #[46, 3] ty #[.slice (some ⟨g, 0, none⟩) sLen sCap, .int .i64 n]).run Tryz.prog w =
      .ok (.slice (some ⟨g, 0, none⟩) (sLen + n) sCap) (w.setRow g (cur.toList.take sLen ++ (List.replicate n (0 : Int)).map (Value.int .u8) ++ cur.toList.drop (sLen + n)).toArray) := by
  obtain ⟨i0, hi, hz0, hz1, hz2⟩ := info_parts Tryz.infoU8
  have hst := run_storeCells_at Tryz.prog g sLen 5 ((List.replicate n (0 : Int)).map (Value.int .u8)) 0 cur w hg (by simp; omega) (ints_oneCell _ _)
  simp only [Nat.add_zero, List.length_map, List.length_replicate] at hst
  have hw : IntKind.i64.wrap (n : Int) = n := by rw [IntKind.wrap_i64]; omega
  have hneg : ¬ ((n : Int) < 0) := by omega
  have h48 : ¬ (281474976710656 < (n : Int)) := by omega
  have hn : n ≠ 0 := by omega
  have hzz := zeros_u8 n
  simp only [List.map_replicate] at hst hzz ⊢
  simp [Builtin.append_, run_underlying Tryz.underlying46, run_underlying Tryz.underlying3, sizeOf, typeInfo, zeroValue, hi, hz0, hz1, hz2, asInt, asIntOf, hw, hneg, h48, hn, hroom, hzz, Addr.add_lit, hst]

theorem run_zeros_grow (w : World) (ty : TypeId) (s : Option Addr) (sLen sCap n : Nat) (olds : List Value) (hlo : olds.length = sLen) (holds : ∀ a, s = some a → ∀ j v, olds[j]? = some v → w.cell? (a.add j) = some v) (hnone : s = none → sLen = 0)
    (h0 : 0 < n) (hg : sCap < sLen + n) (hl : sLen + n ≤ 1099511627776) :
    (Builtin.append_ #[46, 3] ty #[.slice s sLen sCap, .int .i64 n]).run Tryz.prog w =
      .ok (.slice (some ⟨w.heap.size, 0, none⟩) (sLen + n) (grownCap w (sLen + n) sCap 5))
        (w.drew.alloc (.cells (olds.toArray ++ ((List.replicate n (0 : Int)).map (Value.int .u8)).toArray ++ Builtin.zeroCells (Value.int .u8 0).cells (grownCap w (sLen + n) sCap 5 - (sLen + n))) 5)) := by
  obtain ⟨i0, hi, hz0, hz1, hz2⟩ := info_parts Tryz.infoU8
  have hw : IntKind.i64.wrap (n : Int) = n := by rw [IntKind.wrap_i64]; omega
  have hneg : ¬ ((n : Int) < 0) := by omega
  have h48 : ¬ (281474976710656 < (n : Int)) := by omega
  have hn : n ≠ 0 := by omega
  have hroom : ¬ (sLen + n ≤ sCap) := by omega
  have h63' : ¬ (9223372036854775807 < ((sLen : Int) + (n : Int))) := by omega
  have h48' : ¬ (281474976710656 < Builtin.nextslicecap (sLen + n) sCap) := by
    have := growslice_fits (bytes := 1) hg (by omega)
    omega
  have hfo : (Builtin.firstCells 1 sLen (.slice s sLen sCap)).run Tryz.prog w.drew = .ok olds.toArray w.drew := by
    cases s with
    | none =>
      obtain rfl : olds = [] := List.eq_nil_of_length_eq_zero (by rw [hlo]; exact hnone rfl)
      exact run_firstCells_none (P := Tryz.prog) w.drew 1 sLen sLen sCap
    | some a => exact run_firstCells_some (P := Tryz.prog) w.drew 1 sLen a sLen sCap olds (by omega) (by simpa using holds a rfl)
  have hzz := zeros_u8 n
  simp only [List.map_replicate] at hzz ⊢
  simp [Builtin.append_, run_underlying Tryz.underlying46, run_underlying Tryz.underlying3, sizeOf, typeInfo, zeroValue, hi, hz0, hz1, hz2, asInt, asIntOf, hw, hneg, h48, hn, hroom, h63', h48', hzz, hfo, Question.forced, newRow, grownCap]

/-- 'append(row, make([]byte, n)...)'. -/
theorem RowB.zeros {w : World} {v : Value} {bs : List Int} (h : RowB w v bs) (n : Nat) (h0 : 0 < n) (hlen : bs.length + n ≤ 1099511627776) (ty : TypeId) :
    ∃ v' w', (Builtin.append_ #[46, 3] ty #[v, .int .i64 n]).run Tryz.prog w = .ok v' w' ∧ RowB w' v' (bs ++ List.replicate n 0) ∧ Kept (own v) w w' ∧ Newly w (own v) (own v') := by
  have hby : ∀ z ∈ bs ++ List.replicate n (0 : Int), 0 ≤ z ∧ z ≤ 255 := by
    intro z hz
    rcases List.mem_append.1 hz with hz | hz
    · exact h.2 z hz
    · rw [(List.mem_replicate.1 hz).2]
      omega
  have grown : ∀ old : Nat, old < bs.length + n → RowB (w.drew.alloc (.cells ((bs.map (Value.int .u8)).toArray ++ ((List.replicate n (0 : Int)).map (Value.int .u8)).toArray ++ Builtin.zeroCells (Value.int .u8 0).cells (grownCap w (bs.length + n) old 5 - (bs.length + n))) 5))
      (.slice (some ⟨w.heap.size, 0, none⟩) (bs.length + n) (grownCap w (bs.length + n) old 5)) (bs ++ List.replicate n 0) := by
    intro old ho
    have hge := grownCap_ge w (bs.length + n) old 5
    have hcm : grownCap w (bs.length + n) old 5 ≤ maxLen := grownCap_le_maxLen w (bs.length + n) old 5 (by unfold maxLen; omega)
    have e1 : (bs ++ List.replicate n (0 : Int)).length = bs.length + n := by simp
    refine ⟨⟨by simp, .inr ⟨w.heap.size, _, _, by rw [e1], Nat.zero_le _, heap_alloc_new w.drew _, by rw [e1]; exact hge, hcm, ?_, ?_⟩⟩, hby⟩
    · simp [size_zeroCells, Value.cells]
      omega
    · simp only [Array.toList_append, List.map_append, Nat.mul_one, e1]
      exact List.take_left' (by simp)
  have keptN : ∀ o : Obj, Kept (own v) w (w.drew.alloc o) := fun o => (Kept.refl _ w).drew.alloc o
  have newN : ∀ l c : Nat, Newly w (own v) (own (.slice (some ⟨w.heap.size, 0, none⟩) l c)) := fun l c x hx => by
    simp [own, Value.ownBlock] at hx
    exact .inr (by omega)
  rcases h.1.2 with ⟨rfl, e⟩ | ⟨g, cap, cur, rfl, hbg, hg, hnc, hcm, hcs, htake⟩
  · obtain rfl : bs = [] := List.eq_nil_of_length_eq_zero e
    have hr := run_zeros_grow w ty none 0 0 n [] rfl (by simp) (fun _ => rfl) h0 (by omega) (by simpa using hlen)
    have hgr := grown 0 (by simpa using h0)
    simp only [List.length_nil, Nat.zero_add, List.map_nil, List.nil_append] at hgr hr ⊢
    exact ⟨_, _, hr, hgr, keptN _, newN _ _⟩
  · by_cases hroom : bs.length + n ≤ cap
    · have hr := run_zeros_room w ty g bs.length cap n cur hg h0 hroom (by omega) hlen
      refine ⟨_, _, hr, ⟨⟨by simp, .inr ⟨g, cap, _, by simp, hbg, setRow_heap w g cur _ _ _ hg, by simpa using hroom, hcm, ?_, ?_⟩⟩, hby⟩, ⟨rfl, rfl, rfl, by simp, fun k _ hk => setRow_other w g k _ (fun e => hk (by simp [own, Value.ownBlock, e]))⟩, Newly.of_sub fun x hx => by simpa [own, Value.ownBlock] using hx⟩
      · simp
        omega
      · rw [Nat.mul_one] at htake
        have e1 : (bs ++ List.replicate n (0 : Int)).length = bs.length + n := by simp
        simp only [htake, List.map_append, Nat.mul_one, e1]
        exact List.take_left' (by simp)
    · have hcells : ∀ j u, (bs.map (Value.int .u8))[j]? = some u → w.cell? ((⟨g, 0, none⟩ : Addr).add j) = some u := h.1.cells (g := g) rfl
      have hr := run_zeros_grow w ty (some ⟨g, 0, none⟩) bs.length cap n (bs.map (Value.int .u8)) (by simp) (fun a ha => by simp at ha; subst ha; exact hcells) (by simp) h0 (by omega) hlen
      exact ⟨_, _, hr, grown cap (by omega), keptN _, newN _ _⟩

section
variable {ops : Array Oper} {rest : List Oper} {o : Oper} {a : Act} {Q : Exit → Act → World → Prop}

theorem wp_zeros (w : World) (hgd : o.guard = none) (s x : Operand) (ho : o.op = .call { callee := .builtin .append, args := #[s, x], argTypes := #[46, 3] })
    (v : Value) (bs : List Int) (n m : Nat) (z : Int) (hs : a.eval s = v) (hrow : RowB w v bs) (hx : a.eval x = .int .i64 z) (hz : z = n) (h0 : 0 < n) (hm : m = bs.length + n) (hlen : bs.length + n ≤ 1099511627776)
    (h : ∀ g cap w', RowB w' (.slice (some ⟨g, 0, none⟩) m cap) (bs ++ List.replicate n 0) → m ≤ cap → Kept (own v) w w' → Newly w (own v) (own (.slice (some ⟨g, 0, none⟩) m cap)) → wpList Tryz.prog ops Q rest (a.put o.dst (.slice (some ⟨g, 0, none⟩) m cap)) w') :
    wpList Tryz.prog ops Q (o :: rest) a w := by
  subst hz
  obtain ⟨v', w', hr, h2, h3, h4⟩ := hrow.zeros n h0 hlen o.type
  have e : (bs ++ List.replicate n (0 : Int)).length = m := by simp [hm]
  rcases h2.form with ⟨_, h⟩ | ⟨g, cap, rfl, ho2⟩
  · rw [h] at e
    simp at e
    omega
  · have hc := ho2.len_le
    rw [e] at hc h2 h4 hr
    exact Lib.wpList_append_run w hgd s x _ _ ho v (.int .i64 n) hs hx _ w' hr (h g cap w' h2 hc h3 h4)
end

end Go.Proofs.YtgpbanjammipiaaGreatDoor

namespace Go.Proofs.YtgpbanjammipiaaGreatDoor
open Go.RowKit Go.Maps Go.Sort Go.Shelf

/-- The bytes from a on, up to b. -/
def seg (xs : List Int) (a b : Nat) : List Int := (xs.drop a).take (b - a)

/-- Are the bytes from a to b as they were synced? -/
def sameB (now syn : List Int) (a b : Nat) : Bool := decide (b ≤ syn.length) && decide (seg now a b = seg syn a b)

set_option maxRecDepth 100000 in
set_option maxHeartbeats 4000000 in
theorem same_any {w : World} {f : Fl} (h : FileAt w f) (a b : Nat) (hab : a < b) (hb : b ≤ f.now.length) (hl : f.now.length ≤ 1099511627776) (hl2 : f.syn.length ≤ 1099511627776) :
    Calls Tryz.prog 137 #[.pointer (some ⟨f.blk, 0, none⟩), .int .i64 a, .int .i64 b] w fun e w' => e = .returned (.bool (sameB f.now f.syn a b)) ∧ ∃ n, w' = w.drewN n := by
  have c0 := cell_of_heap h.cells 0
  have c1 := cell_of_heap h.cells 1
  simp at c0 c1
  have hn := h.rnow.isB
  have hs := h.rsyn.isB
  obtain ⟨vn, hvn⟩ : ∃ vn, vn = f.vn := ⟨_, rfl⟩
  obtain ⟨vs, hvs⟩ : ∃ vs, vs = f.vs := ⟨_, rfl⟩
  obtain ⟨now, hnow⟩ : ∃ now, now = f.now := ⟨_, rfl⟩
  obtain ⟨syn, hsyn⟩ : ∃ syn, syn = f.syn := ⟨_, rfl⟩
  obtain ⟨p, hp⟩ : ∃ p, p = f.blk := ⟨_, rfl⟩
  rw [← hvn, ← hp] at c0
  rw [← hvs, ← hp] at c1
  rw [← hvn, ← hnow] at hn
  rw [← hvs, ← hsyn] at hs
  rw [← hnow] at hb hl ⊢
  rw [← hsyn] at hl2 ⊢
  rw [← hp]
  clear hvn hvs hnow hsyn hp h
  obtain ⟨n1, n2, n3, rfl, hnc, hnx⟩ := hn.opened (by omega)
  by_cases h2 : b ≤ syn.length
  · obtain ⟨s1, s2, s3, rfl, hsc, hsx⟩ := hs.opened (by omega)
    have E1 := hide (fun W (hW : ∀ p, W.cell? p = w.cell? p) => bytesEqual_any (.slice (some ⟨n1, n2 + a, none⟩) (b - a) (n3 - a)) (.slice (some ⟨s1, s2 + a, none⟩) (b - a) (s3 - a)) (seg now a b) (seg syn a b) W
      (by have := hn.mid a (b - a) (by omega); obtain ⟨x1, x2, x3, x4, x5, x6, x7⟩ := this; exact ⟨x1, x2, x3, x4, x5, fun x hx j hj => (hW _).trans (x6 x hx j hj), x7⟩)
      (by have := hs.mid a (b - a) (by omega); obtain ⟨x1, x2, x3, x4, x5, x6, x7⟩ := this; exact ⟨x1, x2, x3, x4, x5, fun x hx j hj => (hW _).trans (x6 x hx j hj), x7⟩))
    have hd1 : decide (b ≤ syn.length) = true := by simpa using h2
    have hres : sameB now syn a b = decide (seg now a b = seg syn a b) := by simp [sameB, h2]
    rw [hres]
    clear hres
    generalize decide (seg now a b = seg syn a b) = r at E1 ⊢
    have hi1 : (b : Int) ≤ (syn.length : Int) := by omega
    have hi2 : (a : Int) ≤ (b : Int) := by omega
    have hi3 : (b : Int) ≤ (n3 : Int) := by omega
    have hi4 : (b : Int) ≤ (s3 : Int) := by omega
    have hz1 : ¬ (a : Int) = n3 := by omega
    have hz2 : ¬ (a : Int) = s3 := by omega
    clear hn hs hnx hsx hd1
    go_enter Tryz.func137, Tryz.ntmps137
    go_wp2
    go_quiet ((go_at_call 160; exact Calls.quiet_of_same (E1.out _ (fun _ => rfl))))
    go_wp2
    go_ret
    exact ⟨rfl, _, rfl⟩
  · have hd1 : decide ((b : Int) ≤ (syn.length : Int)) = false := by simp; omega
    have hd2 : decide (b ≤ syn.length) = false := by simp; omega
    have hres : sameB now syn a b = false := by simp [sameB, h2]
    rw [hres]
    clear hres
    obtain ⟨a2, cp2, rfl, _⟩ := hs.form
    clear hn hs hnx h2
    go_enter Tryz.func137, Tryz.ntmps137
    go_wp2
    go_quiet (fail)
    go_wp2
    go_ret
    exact ⟨rfl, _, rfl⟩

end Go.Proofs.YtgpbanjammipiaaGreatDoor

namespace Go.Proofs.YtgpbanjammipiaaGreatDoor
open Go.RowKit Go.Maps Go.Sort Go.Shelf

/-- Does the k-th sector stay? -/
def staysB (ks : List Bool) (k : Nat) : Bool := ks[k]?.getD false

set_option maxRecDepth 100000 in
set_option maxHeartbeats 1000000 in
theorem stays_any (c kb k : Nat) (kv : Value) (ks : List Bool) (w : World) (hc : w.heap[c]? = some (.cells #[.int .i64 k] 3 (0, 0))) (hk : w.cell? ⟨kb, 0, none⟩ = some kv) (hne : c ≠ kb) (hv : IsK w kv ks) (hcv : ks ≠ [] → c ∉ own kv) (hk2 : k ≤ 1099511627776) (hl : ks.length ≤ 1099511627776) :
    Calls Tryz.prog 115 #[.pointer (some ⟨c, 0, none⟩), .pointer (some ⟨kb, 0, none⟩)] w fun e w' => e = .returned (.bool (staysB ks k)) ∧ w' = w.setCell ⟨c, 0, none⟩ (.int .i64 ((k + 1 : Nat) : Int)) := by
  have c0 := cell_of_heap hc 0
  have f0 := frozen_of_heap hc 0
  simp at c0
  have hk' : (w.setCell ⟨c, 0, none⟩ (.int .i64 ((k : Int) + 1))).cell? ⟨kb, 0, none⟩ = some kv := (World.cell?_of_block (Below.heap_setCell w _ _ kb (Ne.symm hne))).trans hk
  have e1 : ((k + 1 : Nat) : Int) = (k : Int) + 1 := by omega
  rw [e1]
  obtain ⟨ad, cp, rfl, h1, h2, h3⟩ := hv
  by_cases hlt : k < ks.length
  · obtain ⟨x, rfl⟩ : ∃ x, ad = some x := by
      cases ad with
      | none => rw [(h2 rfl).1] at hlt; simp at hlt
      | some x => exact ⟨x, rfl⟩
    have hx := h3 x rfl k hlt
    have hspot : x.spot = none := by
      have := World.cell?_spot (h3 x rfl 0 (by omega))
      simpa [Addr.add] using this
    obtain ⟨b, off, sp⟩ := x
    simp only at hspot
    subst hspot
    rw [Addr.add_lit] at hx
    have hcb : b ≠ c := fun e => hcv (fun e2 => by subst e2; simp at hlt) (by simp [own, Value.ownBlock, e])
    have hx' : (w.setCell ⟨c, 0, none⟩ (.int .i64 ((k : Int) + 1))).cell? ⟨b, off + k, none⟩ = some (.bool (staysB ks k)) := (World.cell?_of_block (Below.heap_setCell w _ _ b hcb)).trans hx
    generalize staysB ks k = r at hx' ⊢
    have hi : (k : Int) < (ks.length : Int) := by omega
    clear h3 h2 hc hx hk e1 hcv
    go_enter Tryz.func115, Tryz.ntmps115
    go_wp2
    go_ret
    exact ⟨rfl, rfl⟩
  · have hs : staysB ks k = false := by simp [staysB, List.getElem?_eq_none (Nat.le_of_not_lt hlt)]
    rw [hs]
    have hi : ¬ (k : Int) < (ks.length : Int) := by omega
    clear h3 h2 hc hk e1 hcv hs
    go_enter Tryz.func115, Tryz.ntmps115
    go_wp2
    go_ret
    exact ⟨rfl, rfl⟩

/-- xs laid over rest from a on, 0s ahead of it where rest ends. -/
def over (rest : List Int) (a : Nat) (xs : List Int) : List Int :=
  (rest ++ List.replicate (a + xs.length - rest.length) 0).take a ++ (xs ++ (rest ++ List.replicate (a + xs.length - rest.length) 0).drop (a + xs.length))

/-- What is left of a file, and how many sectors have been asked for, behind its first sectors. -/
def tearTo (ks : List Bool) (now syn : List Int) (k0 : Nat) : Nat → List Int × Nat
  | 0 => (syn, k0)
  | j + 1 =>
    if sameB now syn (16 * j) (min (16 * j + 16) now.length) then tearTo ks now syn k0 j
    else if staysB ks (tearTo ks now syn k0 j).2 then (over (tearTo ks now syn k0 j).1 (16 * j) (seg now (16 * j) (min (16 * j + 16) now.length)), (tearTo ks now syn k0 j).2 + 1)
    else ((tearTo ks now syn k0 j).1, (tearTo ks now syn k0 j).2 + 1)

/-- .. behind all of them. -/
def tearB (ks : List Bool) (now syn : List Int) (k0 : Nat) : List Int × Nat := tearTo ks now syn k0 ((now.length + 15) / 16)

theorem seg_length (xs : List Int) (a b : Nat) (hb : b ≤ xs.length) : (seg xs a b).length = b - a := by simp [seg]; omega

theorem over_length (rest : List Int) (a : Nat) (xs : List Int) : (over rest a xs).length = max rest.length (a + xs.length) := by simp [over]; omega

/-- What is left is as long as what was synced, or less than what was there. -/
theorem tearTo_len (ks : List Bool) (now syn : List Int) (k0 j : Nat) (hj : 16 * j < now.length + 16) (hs : syn.length ≤ now.length) : (tearTo ks now syn k0 j).1.length ≤ now.length ∧ syn.length ≤ (tearTo ks now syn k0 j).1.length ∧ (tearTo ks now syn k0 j).2 ≤ k0 + j ∧ k0 ≤ (tearTo ks now syn k0 j).2 := by
  induction j with
  | zero => simp [tearTo, hs]
  | succ j ih =>
    have ih := ih (by omega)
    unfold tearTo
    split
    · omega
    · split
      · have e := seg_length now (16 * j) (min (16 * j + 16) now.length) (by omega)
        simp only [over_length, e]
        omega
      · simp only
        omega

end Go.Proofs.YtgpbanjammipiaaGreatDoor

namespace Go.Proofs.YtgpbanjammipiaaGreatDoor
open Go.RowKit Go.Maps Go.Sort Go.Shelf

theorem Tryz.sizeU8 : (Tryz.prog.info? 5).map (·.size) = some 1 := by kernel_rfl

theorem copy_list (L : List Value) (bs cs : List Int) (a : Nat) (hM : L.take bs.length = bs.map (Value.int .u8)) (ha : a < bs.length) (hle : bs.length ≤ L.length) :
    (L.take a ++ (cs.take (bs.length - a)).map (Value.int .u8) ++ L.drop (a + Nat.min cs.length (bs.length - a))).take bs.length = (bs.take a ++ (cs.take (bs.length - a) ++ bs.drop (a + cs.length))).map (Value.int .u8) := by
  have ecur : ∀ i, i < bs.length → L[i]? = (bs.map (Value.int .u8))[i]? := by
    intro i hi
    rw [← hM, List.getElem?_take_of_lt hi]
  rw [List.append_assoc]
  apply List.ext_getElem?
  intro i
  by_cases hi : i < bs.length
  · rw [List.getElem?_take_of_lt hi]
    have ec := ecur i hi
    simp only [List.map_append, List.map_take, List.map_drop, List.getElem?_append, List.getElem?_take, List.getElem?_drop, List.length_take, List.length_map]
    have hmin : Nat.min cs.length (bs.length - a) = min (bs.length - a) cs.length := Nat.min_comm _ _
    rw [hmin]
    by_cases hia : i < a
    · have p1 : i < min a L.length := by omega
      have p2 : i < min a bs.length := by omega
      rw [if_pos p1, if_pos p2, if_pos hia, if_pos hia, ec]
    · have p1 : ¬ i < min a L.length := by omega
      have p2 : ¬ i < min a bs.length := by omega
      rw [if_neg p1, if_neg p2]
      have e4 : min a L.length = a := by omega
      have e5 : min a bs.length = a := by omega
      rw [e4, e5]
      by_cases hic : i - a < min (bs.length - a) cs.length
      · rw [if_pos hic, if_pos hic]
      · rw [if_neg hic, if_neg hic]
        have e6 : a + min (bs.length - a) cs.length + (i - a - min (bs.length - a) cs.length) = i := by omega
        have e7 : a + cs.length + (i - a - min (bs.length - a) cs.length) = i := by omega
        rw [e6, e7, ec]
  · rw [List.getElem?_eq_none (by simp only [List.length_take]; omega), List.getElem?_eq_none (by simp only [List.length_map, List.length_append, List.length_take, List.length_drop]; omega)]

/-- 'copy(row[a:], b)'. -/
theorem RowB.copy {w : World} {v : Value} {bs : List Int} (h : RowB w v bs) (a : Nat) (ha : a ≤ bs.length) {u : Value} {cs : List Int} (hu : IsB w u cs) (dp : Option Addr) (dc : Nat) (hdp : a < bs.length → ∀ g, v.ownBlock = some g → dp = some ⟨g, a, none⟩) (ty : TypeId) :
    ∃ w', (Builtin.copy_ #[46, 46] ty #[.slice dp (bs.length - a) dc, u]).run Tryz.prog w = .ok (.int .i64 ((min cs.length (bs.length - a) : Nat) : Int)) w' ∧ RowB w' v (bs.take a ++ (cs.take (bs.length - a) ++ bs.drop (a + cs.length))) ∧ Kept (own v) w w' := by
  obtain ⟨ad, sc, rfl, h1, h2, h3, h4⟩ := hu
  by_cases h0 : min cs.length (bs.length - a) = 0
  · refine ⟨w, ?_, ?_, Kept.refl _ _⟩
    · have := run_copy_none (P := Tryz.prog) w 46 46 ty 5 dp ad (bs.length - a) dc cs.length sc Tryz.underlying46 Tryz.sizeU8 h0
      rw [h0]
      exact this
    · have e : bs.take a ++ (cs.take (bs.length - a) ++ bs.drop (a + cs.length)) = bs := by
        rcases Nat.min_eq_zero_iff.1 h0 with e | e
        · obtain rfl : cs = [] := List.eq_nil_of_length_eq_zero e
          simp
        · have e2 : a = bs.length := by omega
          subst e2
          simp
      rw [e]
      exact h
  · have hal : a < bs.length := by omega
    rcases h.1.2 with ⟨rfl, e⟩ | ⟨g, cap, cur, rfl, hbg, hg, hnc, hcm, hcs, htake⟩
    · omega
    · have hd := hdp hal g rfl
      subst hd
      cases ad with
      | none => rw [(h2 rfl).1] at h0; simp at h0
      | some ad =>
        have hlen : (cs.take (bs.length - a)).length = Nat.min cs.length (bs.length - a) := by rw [List.length_take, Nat.min_comm]
        have hmin : Nat.min cs.length (bs.length - a) = min cs.length (bs.length - a) := rfl
        have hr := run_copy_row (P := Tryz.prog) w 46 46 ty 5 g a (bs.length - a) dc ad cs.length sc cur _ ((cs.take (bs.length - a)).map (Value.int .u8)) Tryz.underlying46 Tryz.sizeU8 hg (by rw [List.length_map]; exact hlen) (fun j u hu => by
          have hj : j < (cs.take (bs.length - a)).length := by simpa using (List.getElem?_eq_some_iff.1 hu).1
          have hj2 : j < cs.length := by simp at hj; omega
          rw [h3 ad rfl j hj2]
          rw [List.getElem?_map, List.getElem?_take_of_lt (by simp at hj; omega)] at hu
          simp [hj2] at hu
          simp [hj2, hu]) (by rw [List.length_map, hlen, hmin]; omega) (ints_oneCell _ _)
        refine ⟨_, by rw [hr, List.length_map, hlen]; rfl, ⟨⟨by simp, .inr ⟨g, cap, _, ?_, Nat.zero_le _, setRow_heap w g cur _ _ _ hg, by simp; omega, hcm, ?_, ?_⟩⟩, ?_⟩, ⟨rfl, rfl, rfl, by simp, fun k _ hk => setRow_other w g k _ (fun e => hk (by simp [own, Value.ownBlock, e]))⟩⟩
        · have e : (bs.take a ++ (cs.take (bs.length - a) ++ bs.drop (a + cs.length))).length = bs.length := by simp; omega
          rw [e]
        · simp
          omega
        · have e : (bs.take a ++ (cs.take (bs.length - a) ++ bs.drop (a + cs.length))).length = bs.length := by simp; omega
          rw [e, Nat.mul_one] at *
          exact copy_list cur.toList bs cs a htake hal (by simp; omega)
        · intro z hz
          rcases List.mem_append.1 hz with hz | hz
          · exact h.2 z (List.mem_of_mem_take hz)
          · rcases List.mem_append.1 hz with hz | hz
            · exact h4 z (List.mem_of_mem_take hz)
            · exact h.2 z (List.mem_of_mem_drop hz)

section
variable {ops : Array Oper} {rest : List Oper} {o : Oper} {a : Act} {Q : Exit → Act → World → Prop}

theorem wp_copyR (w : World) (hgd : o.guard = none) (d s : Operand) (ho : o.op = .call { callee := .builtin .copy, args := #[d, s], argTypes := #[46, 46] })
    (v : Value) (bs : List Int) (hrow : RowB w v bs) (n : Nat) (hn : n ≤ bs.length) (u : Value) (cs : List Int) (hu : IsB w u cs) (dp : Option Addr) (dl dc : Nat) (hd : a.eval d = .slice dp dl dc) (hdl : dl = bs.length - n)
    (hdp : n < bs.length → ∀ g, v.ownBlock = some g → dp = some ⟨g, n, none⟩) (hs : a.eval s = u)
    (h : ∀ w', RowB w' v (bs.take n ++ (cs.take (bs.length - n) ++ bs.drop (n + cs.length))) → Kept (own v) w w' → wpList Tryz.prog ops Q rest (a.put o.dst (.int .i64 ((min cs.length (bs.length - n) : Nat) : Int))) w') :
    wpList Tryz.prog ops Q (o :: rest) a w := by
  refine wpList_plain hgd fun K hK => ?_
  subst hdl
  obtain ⟨w', hr, h2, h3⟩ := hrow.copy n hn hu dp dc hdp o.type
  unfold Oper.wp execOp
  simp only [ho, resolve, invoke, builtin, Sem.run_bind, Sem.run_pure, Result.andThen_ok, List.map_toArray, List.map_cons, List.map_nil, hd, hs, hr]
  exact hK _ _ (h w' h2 h3)

theorem step_copyR {K : Act → World → Prop} {E : Prop} (w : World) (hgd : o.guard = none) (d s : Operand) (ho : o.op = .call { callee := .builtin .copy, args := #[d, s], argTypes := #[46, 46] })
    (v : Value) (bs : List Int) (hrow : RowB w v bs) (n : Nat) (hn : n ≤ bs.length) (u : Value) (cs : List Int) (hu : IsB w u cs) (dp : Option Addr) (dl dc : Nat) (hd : a.eval d = .slice dp dl dc) (hdl : dl = bs.length - n)
    (hdp : n < bs.length → ∀ g, v.ownBlock = some g → dp = some ⟨g, n, none⟩) (hs : a.eval s = u)
    (h : ∀ w', RowB w' v (bs.take n ++ (cs.take (bs.length - n) ++ bs.drop (n + cs.length))) → Kept (own v) w w' → K (a.put o.dst (.int .i64 ((min cs.length (bs.length - n) : Nat) : Int))) w') :
    if Region.wanted o (yielded ops a.tmps) = true then Oper.wp Tryz.prog o a w K Q else E := by
  have hw : Region.wanted o (yielded ops a.tmps) = true := by simp [Region.wanted, hgd]
  rw [if_pos hw]
  subst hdl
  obtain ⟨w', hr, h2, h3⟩ := hrow.copy n hn hu dp dc hdp o.type
  unfold Oper.wp execOp
  simp only [ho, resolve, invoke, builtin, Sem.run_bind, Sem.run_pure, Result.andThen_ok, List.map_toArray, List.map_cons, List.map_nil, hd, hs, hr]
  exact h w' h2 h3
end

end Go.Proofs.YtgpbanjammipiaaGreatDoor

namespace Go.Proofs.YtgpbanjammipiaaGreatDoor
open Go.RowKit Go.Maps Go.Sort Go.Shelf

/-- In the middle of tear: what is left so far, and how many sectors were asked for. -/
structure TearSt (w wr : World) (c k : Nat) (v : Value) (rest : List Int) : Prop where
  row : RowB wr v rest
  fresh : ∀ x ∈ own v, w.heap.size ≤ x
  cnt : wr.heap[c]? = some (.cells #[.int .i64 k] 3 (0, 0))
  kept : Kept [c] w wr

section
variable {w wr : World} {c k : Nat} {v : Value} {rest : List Int}

theorem TearSt.drewN (h : TearSt w wr c k v rest) (n : Nat) : TearSt w (wr.drewN n) c k v rest := ⟨h.row, h.fresh, h.cnt, h.kept.drewN n⟩
theorem TearSt.drew (h : TearSt w wr c k v rest) : TearSt w wr.drew c k v rest := ⟨h.row, h.fresh, h.cnt, h.kept.drew⟩

theorem TearSt.count (h : TearSt w wr c k v rest) (hc : c < w.heap.size) : TearSt w (wr.setCell ⟨c, 0, none⟩ (.int .i64 ((k + 1 : Nat) : Int))) c (k + 1) v rest := by
  have hk : Kept [c] wr (wr.setCell ⟨c, 0, none⟩ (.int .i64 ((k + 1 : Nat) : Int))) := (Kept.refl _ _).setCell (p := ⟨c, 0, none⟩) (.inl (by simp)) _
  refine ⟨h.row.kept hk (fun x hx => ?_), h.fresh, ?_, h.kept.trans hk (Newly.refl _ _)⟩
  · have := h.fresh x hx
    simp
    omega
  · rw [heap_setCell h.cnt]
    simp

theorem TearSt.turn {w2 : World} {v2 : Value} {rest2 : List Int} (h : TearSt w wr c k v rest) (hc : c < w.heap.size) (hr : RowB w2 v2 rest2) (hk : Kept (own v) wr w2) (hn : Newly wr (own v) (own v2)) : TearSt w w2 c k v2 rest2 := by
  refine ⟨hr, fun x hx => ?_, ?_, h.kept.trans hk (fun x hx => .inr (h.fresh x hx))⟩
  · rcases hn x hx with h1 | h1
    · exact h.fresh x h1
    · exact Nat.le_trans h.kept.size h1
  · rw [hk.block c (Nat.lt_of_lt_of_le hc h.kept.size) (fun e => by have := h.fresh c e; omega)]
    exact h.cnt
end

theorem over_in (rest : List Int) (a : Nat) (xs : List Int) (h : a + xs.length ≤ rest.length) : rest.take a ++ (xs.take (rest.length - a) ++ rest.drop (a + xs.length)) = over rest a xs := by
  have e : a + xs.length - rest.length = 0 := by omega
  unfold over
  rw [e, List.replicate_zero, List.append_nil, List.take_of_length_le (i := rest.length - a) (by omega)]

theorem over_out (rest : List Int) (a : Nat) (xs : List Int) (n : Nat) (h : a + xs.length = rest.length + n) : (rest ++ List.replicate n 0).take a ++ (xs.take ((rest ++ List.replicate n (0 : Int)).length - a) ++ (rest ++ List.replicate n 0).drop (a + xs.length)) = over rest a xs := by
  have e : a + xs.length - rest.length = n := by omega
  unfold over
  rw [e, List.take_of_length_le (i := (rest ++ List.replicate n (0 : Int)).length - a) (by simp; omega)]

theorem IsB.segm {w : World} {g : Nat} {len cap : Nat} {bs : List Int} (h : IsB w (.slice (some ⟨g, 0, none⟩) len cap) bs) (a b : Nat) (hab : a ≤ b) (hb : b ≤ len) : IsB w (.slice (some ⟨g, a, none⟩) (b - a) (cap - a)) (seg bs a b) := by
  have := h.mid a (b - a) (by omega)
  rw [Nat.zero_add] at this
  exact this

set_option maxRecDepth 100000 in
set_option maxHeartbeats 8000000 in
theorem tear_any {w : World} {f : Fl} (h : FileAt w f) (c kb k0 : Nat) (kv : Value) (ks : List Bool) (hc : w.heap[c]? = some (.cells #[.int .i64 k0] 3 (0, 0))) (hkb : w.cell? ⟨kb, 0, none⟩ = some kv) (hne : c ≠ kb) (hv : IsK w kv ks)
    (hcv : ks ≠ [] → c ∉ own kv) (hcf : c ∉ foot f) (hl : f.now.length ≤ 1073741824) (hs : f.syn.length ≤ f.now.length) (hk0 : k0 ≤ 1073741824) (hkl : ks.length ≤ 1099511627776) :
    Calls Tryz.prog 116 #[.pointer (some ⟨f.blk, 0, none⟩), .func (.func 115) #[] #[.pointer (some ⟨c, 0, none⟩), .pointer (some ⟨kb, 0, none⟩)]] w fun e w' =>
      e = .returned (.tuple #[]) ∧ ∃ vn vs, FileAt w' { f with vn := vn, vs := vs, now := (tearB ks f.now f.syn k0).1, syn := (tearB ks f.now f.syn k0).1 } ∧
        w'.heap[c]? = some (.cells #[.int .i64 (tearB ks f.now f.syn k0).2] 3 (0, 0)) ∧ Kept [c, f.blk] w w' ∧ (∀ x ∈ own vn ++ own vs, w.heap.size ≤ x) := by
  have hcl : c < w.heap.size := (Array.getElem?_eq_some_iff.1 hc).1
  obtain ⟨p, hp⟩ : ∃ p, p = f.blk := ⟨_, rfl⟩
  have hcp : p ≠ c := by rw [hp]; intro e; exact hcf (by simp [foot, e])
  have hpl : p < w.heap.size := by rw [hp]; exact h.lt _ (by simp [foot])
  -- what of the file is read while it is torn
  have HF := hide (fun (W : World) (hk : Kept [c] w W) => h.kept hk (fun x hx => by simp; rintro rfl; exact hcf hx))
  have HC := hide (fun (W : World) (hk : Kept [c] w W) => by
    have hf := HF.out W hk
    have a0 := cell_of_heap hf.cells 0
    have a1 := cell_of_heap hf.cells 1
    have a2 := frozen_of_heap hf.cells
    simp at a0 a1
    rw [← hp] at a0 a1 a2
    exact (⟨a0, a1, a2⟩ : W.cell? ⟨p, 0, none⟩ = some f.vn ∧ W.cell? ⟨p, 1, none⟩ = some f.vs ∧ ∀ o, W.frozen? ⟨p, o, none⟩ = false))
  have HK := hide (fun (W : World) (hk : Kept [c] w W) => (⟨hk.cell hkb (by simp; omega), hv.kept hk (fun hks x hx => by simp; rintro rfl; exact hcv hks hx)⟩ : W.cell? ⟨kb, 0, none⟩ = some kv ∧ IsK W kv ks))
  obtain ⟨a0, a1, a2⟩ := HC.out w (Kept.refl _ _)
  have CL := hide (cloneB_any f.vs f.syn w h.rsyn.isB (by omega))
  have HN := hide (fun (W : World) (hk : Kept [c] w W) => (HF.out W hk).rnow)
  obtain ⟨L, hL⟩ : ∃ L, L = f.now.length := ⟨_, rfl⟩
  obtain ⟨⟨na, ncap, hvn, hnc⟩, hform⟩ : (∃ na ncap, f.vn = .slice na L ncap ∧ L ≤ ncap) ∧ True := by
    obtain ⟨x, y, e, e2⟩ := h.rnow.isB.form
    exact ⟨⟨x, y, by rw [hL]; exact e, by rw [hL]; exact e2⟩, trivial⟩
  clear hform
  have HCV := hide hcv
  have HCF := hide hcf
  have HS := hide hs
  have HL := hide hL
  have HP := hide hp
  have HH := hide h
  have HCN := hide hc
  rw [← hL] at hl
  rw [← hp]
  clear hcv hcf hs hp hkb hv h hc hL
  rw [hvn] at a0
  go_enter Tryz.func116, Tryz.ntmps116
  go_wp2_with (go_at_call 136; refine CL.out.mono ?_; rintro e w1 ⟨v1, rfl, r1, b1, n1⟩)
  have ST0 : Hid (TearSt w w1 c k0 v1 f.syn) := ⟨r1, n1, (b1.block c hcl).trans HCN.out, Kept.of_below b1⟩
  clear r1 n1 b1 a0 a1 a2
  go_loopw [4, 5] (fun v i wr => ∃ (j a k : Nat) (rest : List Int), a = 16 * j ∧ a < L + 16 ∧ i = .int .i64 (a : Int) ∧ Hid (tearTo ks f.now f.syn k0 j = (rest, k)) ∧ Hid (TearSt w wr c k v rest)) (fun _ i _ => L + 16 - (intOf i).toNat)
  case atStart => exact ⟨0, 0, k0, f.syn, rfl, by omega, rfl, rfl, ST0⟩
  case round =>
    obtain ⟨j, a, k, rest, haj, hab, rfl, HT, HST⟩ := hrel
    have HTL := tearTo_len ks f.now f.syn k0 j (by rw [← HL.out]; omega) HS.out
    rw [HT.out, ← HL.out] at HTL
    simp only at HTL
    obtain ⟨hr1, _, hr3, _⟩ := HTL
    have hjl : j ≤ 67108864 := by omega
    have HAJ := hide haj
    clear haj
    obtain ⟨a0, a1, a2⟩ := HC.out wr HST.out.kept
    rw [hvn] at a0
    by_cases hlt : a < L
    · obtain ⟨en, hen⟩ : ∃ en, en = min (a + 16) L := ⟨_, rfl⟩
      have hmin : ∀ (ts : Array TypeId) (t : TypeId) (W : World), (Builtin.min_ ts t #[.int .i64 ((a : Int) + 16), .int .i64 (L : Int)]).run Tryz.prog W = .ok (.int .i64 (en : Int)) W := by
        intro ts t W
        rw [run_min_int2]
        congr 2
        split <;> omega
      have hae : a < en := by omega
      have heL : en ≤ L := by omega
      have he16 : en ≤ a + 16 := by omega
      have HEN := hide hen
      clear hen
      have S1 := same_any (HF.out wr HST.out.kept) a en hae (by rw [← HL.out]; exact heL) (by rw [← HL.out]; omega) (by have := HS.out; rw [← HL.out] at this; omega)
      rw [← HP.out] at S1
      have HSM : Hid (sameB f.now f.syn (16 * j) (min (16 * j + 16) f.now.length) = sameB f.now f.syn a en) := by
        show _ = _
        rw [HEN.out, HAJ.out, HL.out]
      have HSEG : Hid (seg f.now (16 * j) (min (16 * j + 16) f.now.length) = seg f.now a en) := by
        show _ = _
        rw [HEN.out, HAJ.out, HL.out]
      by_cases hsame : sameB f.now f.syn a en = true
      · rw [hsame] at S1
        have HS1 := hide S1
        have HT2 : Hid (tearTo ks f.now f.syn k0 (j + 1) = (rest, k)) := by
          show _ = _
          rw [tearTo, HSM.out, if_pos hsame]
          exact HT.out
        clear S1 hsame
        go_wp2_with (first | (go_at_call 137; refine HS1.out.mono ?_; rintro e w2 ⟨rfl, n2, rfl⟩) | go_in)
        go_roundw
        case rel => exact ⟨j + 1, a + 16, k, rest, by have := HAJ.out; omega, by omega, by go_num, HT2, HST.out.drewN _⟩
        case measure => simp [intOf]; omega
      · have hsf : sameB f.now f.syn a en = false := by simpa using hsame
        rw [hsf] at S1
        have HS1 := hide S1
        clear S1
        have HS2 := hide (fun n => stays_any c kb k kv ks (wr.drewN n) HST.out.cnt (HK.out wr HST.out.kept).1 hne (HK.out wr HST.out.kept).2 HCV.out (by omega) hkl)
        by_cases hst : staysB ks k = true
        · rw [hst] at HS2
          have hsl : (seg f.now a en).length = en - a := seg_length _ _ _ (by rw [← HL.out]; exact heL)
          have HT2 : Hid (tearTo ks f.now f.syn k0 (j + 1) = (over rest a (seg f.now a en), k + 1)) := by
            show _ = _
            rw [tearTo, HSM.out, if_neg hsame, HT.out, HSEG.out]
            simp [hst, HAJ.out]
          obtain ⟨ng, hng⟩ : ∃ ng, na = some ⟨ng, 0, none⟩ := by
            rcases HH.out.rnow.form with ⟨e1, e2⟩ | ⟨g, cp, e1, _⟩
            · have := HL.out
              rw [e2] at this
              simp at this
              omega
            · rw [hvn] at e1
              simp only [Value.slice.injEq] at e1
              exact ⟨g, e1.1⟩
          subst hng
          obtain ⟨XS, hXS⟩ : ∃ XS, XS = seg f.now a en := ⟨_, rfl⟩
          have HSRC := hide (fun (W : World) (hk : Kept [c] w W) => by
            have h1 := (HN.out W hk).isB
            rw [hvn] at h1
            have h2 := h1.segm a en (by omega) heL
            rw [← hXS] at h2
            exact h2)
          rw [← hXS] at hsl HT2
          have HXL := hide hsl
          clear hsame hsf hst hXS hsl
          obtain ⟨ra, rcap, rfl, hrc⟩ := HST.out.row.isB.form
          by_cases hin : en ≤ rest.length
          · obtain ⟨g, hg⟩ : ∃ g, ra = some ⟨g, 0, none⟩ := by
              rcases HST.out.row.form with ⟨e1, e2⟩ | ⟨g, cp, e1, _⟩
              · rw [e2] at hin
                simp at hin
                omega
              · simp only [Value.slice.injEq] at e1
                exact ⟨g, e1.1⟩
            subst hg
            have hz1 : ¬ rcap = a := by omega
            have hz2 : ¬ ncap = a := by omega
            have hi1 : (a : Int) ≤ (rest.length : Int) := by omega
            have hi2 : (a : Int) ≤ (en : Int) := by omega
            have hi3 : (en : Int) ≤ (ncap : Int) := by omega
            have hi4 : ¬ (rest.length : Int) < (en : Int) := by omega
            have hfit : a ≤ rest.length := by omega
            have hdp : a < rest.length → ∀ g', (Value.slice (some ⟨g, 0, none⟩) rest.length rcap).ownBlock = some g' → (some ⟨g, a, none⟩ : Option Addr) = some ⟨g', a, none⟩ := by
              intro _ g' e
              simp [Value.ownBlock] at e
              rw [e]
            have HOV : Hid (rest.take a ++ (XS.take (rest.length - a) ++ rest.drop (a + XS.length)) = over rest a XS) := over_in rest a XS (by rw [HXL.out]; omega)
            go_wp2_with (first | (go_at_call 137; refine HS1.out.mono ?_; rintro e w2 ⟨rfl, n2, rfl⟩) | (go_at_call 115; refine (HS2.out _).mono ?_; rintro e w3 ⟨rfl, hw3⟩; have ST3 := hide (HST.out.drewN n2 |>.count hcl); rw [← hw3] at ST3; clear hw3; have d0 := (HC.out w3 ST3.out.kept).1; rw [hvn] at d0) | go_in)
            go_region_law (refine step_copyR _ ?_ (.tmp 50) (.tmp 57) ?_ (.slice (some ⟨g, 0, none⟩) rest.length rcap) rest ?_ a ?_ (.slice (some ⟨ng, a, none⟩) (en - a) (ncap - a)) XS ?_ (some ⟨g, a, none⟩) (rest.length - a) (rcap - a) ?_ ?_ ?_ ?_ ?_; rfl; rfl; exact ST3.out.row; exact hfit; exact HSRC.out w3 ST3.out.kept; rfl; rfl; exact hdp; rfl; intro w4 r4 k4)
            have HR4 := hide r4
            have HK4 := hide k4
            clear r4 k4 d0
            have ST4 : Hid (TearSt w w4 c (k + 1) (.slice (some ⟨g, 0, none⟩) rest.length rcap) (over rest a XS)) := by
              have h1 := HR4.out
              rw [HOV.out] at h1
              exact ST3.out.drew.turn hcl h1 HK4.out (Newly.refl _ _)
            go_wp2
            go_roundw
            case rel => exact ⟨j + 1, a + 16, k + 1, over rest a XS, by have := HAJ.out; omega, by omega, by go_num, HT2, ST4⟩
            case measure => simp [intOf]; omega
          · obtain ⟨n, hn⟩ : ∃ n, n = en - rest.length := ⟨_, rfl⟩
            have hn0 : 0 < n := by omega
            have hen2 : en = rest.length + n := by omega
            have hez : (en : Int) - (rest.length : Int) = (n : Int) := by omega
            have hbd : rest.length + n ≤ 1099511627776 := by omega
            have HN2 := hide hn
            have HE2 := hide hen2
            have HEZ := hide hez
            clear hn hen2 hez
            have hz2 : ¬ ncap = a := by omega
            have hi1 : (a : Int) ≤ (en : Int) := by omega
            have hi3 : (en : Int) ≤ (ncap : Int) := by omega
            have hi4 : (rest.length : Int) < (en : Int) := by omega
            have hfit : a ≤ (rest ++ List.replicate n (0 : Int)).length := by simp; have := HE2.out; omega
            have hdl : en - a = (rest ++ List.replicate n (0 : Int)).length - a := by simp; have := HE2.out; omega
            have HFT := hide hfit
            have HDL := hide hdl
            clear hfit hdl
            have HOV : Hid ((rest ++ List.replicate n 0).take a ++ (XS.take ((rest ++ List.replicate n (0 : Int)).length - a) ++ (rest ++ List.replicate n 0).drop (a + XS.length)) = over rest a XS) := over_out rest a XS n (by rw [HXL.out]; have := HE2.out; omega)
            go_wp2_with (first | (go_at_call 137; refine HS1.out.mono ?_; rintro e w2 ⟨rfl, n2, rfl⟩) | (go_at_call 115; refine (HS2.out _).mono ?_; rintro e w3 ⟨rfl, hw3⟩; have ST3 := hide (HST.out.drewN n2 |>.count hcl); rw [← hw3] at ST3; clear hw3) | (at_builtin; refine wp_zeros _ rfl _ _ rfl (.slice ra rest.length rcap) rest n en ((en : Int) - (rest.length : Int)) rfl ST3.out.row rfl HEZ.out hn0 HE2.out hbd ?_; intro g cap4 w4 r4 hc4 k4 nw4; have ST4 := hide (ST3.out.turn hcl r4 k4 nw4); clear r4 k4 nw4; have d0 := (HC.out w4 ST4.out.kept).1; rw [hvn] at d0) | go_in)
            have hz1 : ¬ cap4 = a := by omega
            have hdp : a < (rest ++ List.replicate n (0 : Int)).length → ∀ g', (Value.slice (some ⟨g, 0, none⟩) en cap4).ownBlock = some g' → (some ⟨g, a, none⟩ : Option Addr) = some ⟨g', a, none⟩ := by
              intro _ g' e
              simp [Value.ownBlock] at e
              rw [e]
            have HDP := hide hdp
            clear hdp
            go_region_law (refine step_copyR _ ?_ (.tmp 50) (.tmp 57) ?_ (.slice (some ⟨g, 0, none⟩) en cap4) (rest ++ List.replicate n (0 : Int)) ?_ a ?_ (.slice (some ⟨ng, a, none⟩) (en - a) (ncap - a)) XS ?_ (some ⟨g, a, none⟩) (en - a) (cap4 - a) ?_ ?_ ?_ ?_ ?_; rfl; rfl; exact ST4.out.row; exact HFT.out; exact HSRC.out w4 ST4.out.kept; rfl; exact HDL.out; exact HDP.out; rfl; intro w5 r5 k5)
            have HR5 := hide r5
            have HK5 := hide k5
            clear r5 k5 d0
            have ST5 : Hid (TearSt w w5 c (k + 1) (.slice (some ⟨g, 0, none⟩) en cap4) (over rest a XS)) := by
              have h1 := HR5.out
              rw [HOV.out] at h1
              exact ST4.out.drew.turn hcl h1 HK5.out (Newly.refl _ _)
            go_wp2
            go_roundw
            case rel => exact ⟨j + 1, a + 16, k + 1, over rest a XS, by have := HAJ.out; omega, by omega, by go_num, HT2, ST5⟩
            case measure => simp [intOf]; omega
        · have hstf : staysB ks k = false := by simpa using hst
          rw [hstf] at HS2
          have HT2 : Hid (tearTo ks f.now f.syn k0 (j + 1) = (rest, k + 1)) := by
            show _ = _
            rw [tearTo, HSM.out, if_neg hsame, HT.out]
            simp [hstf]
          clear hsame hsf hst hstf
          go_wp2_with (first | (go_at_call 137; refine HS1.out.mono ?_; rintro e w2 ⟨rfl, n2, rfl⟩) | (go_at_call 115; refine (HS2.out _).mono ?_; rintro e w3 ⟨rfl, hw3⟩; have ST3 := hide (HST.out.drewN n2 |>.count hcl); rw [← hw3] at ST3; clear hw3) | go_in)
          go_roundw
          case rel => exact ⟨j + 1, a + 16, k + 1, rest, by have := HAJ.out; omega, by omega, by go_num, HT2, ST3⟩
          case measure => simp [intOf]; omega
    · have hJ : j = (f.now.length + 15) / 16 := by have := HAJ.out; rw [← HL.out]; omega
      have HB : Hid (tearB ks f.now f.syn k0 = (rest, k)) := by
        show _ = _
        unfold tearB
        rw [← hJ]
        exact HT.out
      clear hJ
      obtain ⟨ra, rcap, rfl, hrc⟩ := HST.out.row.isB.form
      have CL2 := hide (cloneB_any (.slice ra rest.length rcap) rest wr HST.out.row.isB (by omega))
      go_wp2_with (go_at_call 136; refine CL2.out.mono ?_; rintro e w3 ⟨v3, rfl, r3, b3, n3⟩; obtain ⟨ra3, rc3, rfl, hrc3⟩ := r3.isB.form; have R3 := hide r3; have B3 := hide b3; have N3 := hide n3; clear r3 b3 n3; have K3 := hide (HST.out.kept.trans (Kept.of_below (fp := []) B3.out) (Newly.of_sub (by simp))); have d0 := (HC.out w3 K3.out).1; have d1 := (HC.out w3 K3.out).2.1; have d2 := (HC.out w3 K3.out).2.2)
      go_end0
      have hf := HF.out w3 K3.out
      have hcells := hf.cells
      rw [← HP.out] at hcells
      have k2 : Kept [p] w3 ((w3.setCell ⟨p, 0, none⟩ (.slice ra rest.length rcap)).setCell ⟨p, 1, none⟩ (.slice ra3 rest.length rc3)) := ((Kept.refl _ w3).setCell (p := ⟨p, 0, none⟩) (.inl (by simp)) _).setCell (p := ⟨p, 1, none⟩) (.inl (by simp)) _
      have hnew1 : ∀ x ∈ own (.slice ra rest.length rcap), w.heap.size ≤ x := HST.out.fresh
      have hnew2 : ∀ x ∈ own (.slice ra3 rest.length rc3), wr.heap.size ≤ x := N3.out
      have hsz := HST.out.kept.size
      have hlt1 : ∀ x ∈ own (.slice ra rest.length rcap), x < wr.heap.size := HST.out.row.lt
      rw [HB.out]
      refine ⟨rfl, .slice ra rest.length rcap, .slice ra3 rest.length rc3, ⟨?_, ?_, ?_, ?_⟩, ?_, ?_, ?_⟩
      · have e := heap_setCell (heap_setCell hcells 0 (.slice ra rest.length rcap)) 1 (.slice ra3 rest.length rc3)
        simpa using e
      · exact ((HST.out.row.kept (Kept.of_below (fp := []) B3.out) (by simp)).kept k2 (fun x hx => by simp; have := hnew1 x hx; omega))
      · exact R3.out.kept k2 (fun x hx => by simp; have := hnew2 x hx; omega)
      · show (p :: (own (.slice ra rest.length rcap) ++ own (.slice ra3 rest.length rc3))).Nodup
        have nd1 : (own (.slice ra rest.length rcap)).Nodup := by cases ra <;> simp [own, Value.ownBlock]
        have nd2 : (own (.slice ra3 rest.length rc3)).Nodup := by cases ra3 <;> simp [own, Value.ownBlock]
        rw [List.nodup_cons, List.nodup_append]
        refine ⟨fun e => ?_, nd1, nd2, fun x hx y hy e => ?_⟩
        · rcases List.mem_append.1 e with e | e
          · have := hnew1 p e
            omega
          · have := hnew2 p e
            omega
        · have h1 := hlt1 x hx
          have h2 := hnew2 y hy
          omega
      · rw [k2.block c (by have := K3.out.size; omega) (by simp; omega), B3.out.block c (by omega)]
        exact HST.out.cnt
      · refine (K3.out.mono (fp' := [c, p]) (by simp)).trans k2 (Newly.of_sub (by simp))
      · intro x hx
        rcases List.mem_append.1 hx with hx | hx
        · exact hnew1 x hx
        · have := hnew2 x hx
          omega


end Go.Proofs.YtgpbanjammipiaaGreatDoor
