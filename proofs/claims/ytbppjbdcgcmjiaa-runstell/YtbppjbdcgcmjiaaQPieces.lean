/-
  Pieces of a row, sorted each, are the row; Same as a quiet call. A lemma file: no statement of the seat is proved here.
-/
import Derived.Test.YtbppjbdcgcmjiaaQFew
namespace Go.Proofs.Ytbppjbdcgcmjiaa
open Go.RowKit

/-- The pieces. -/
def pieces (n : Nat) (l : List Rc) : List (List Rc) := (List.range (pcN l.length n)).map (pcL l n)
theorem cutL_eq (how : Int) (n : Nat) (l : List Rc) : cutL how n l = (pieces n l).map (canR how) := by simp [cutL, pieces]
theorem cutL_length (how : Int) (n : Nat) (l : List Rc) : (cutL how n l).length = pcN l.length n := by simp [cutL]
theorem pieces_upto (n : Nat) (l : List Rc) (k : Nat) : ((List.range k).map (pcL l n)).flatten = l.take (k * n) := by
  induction k with
  | zero => simp
  | succ k ih =>
    rw [List.range_succ, List.map_append, List.flatten_append, ih, Nat.succ_mul, List.take_add]
    simp [pcL]
theorem pieces_flat (n : Nat) (hn : 0 < n) (l : List Rc) : (pieces n l).flatten = l := by
  rw [pieces, pieces_upto]
  refine List.take_of_length_le ?_
  have h := pcN_lt (len := l.length) (n := n) (k := pcN l.length n) hn
  omega
theorem pieces_ok (n : Nat) {l : List Rc} (h : ∀ e ∈ l, okR e) : ∀ p ∈ pieces n l, ∀ e ∈ p, okR e := by
  intro p hp e he
  simp only [pieces, List.mem_map] at hp
  obtain ⟨k, _, rfl⟩ := hp
  exact h e (List.mem_of_mem_drop (List.mem_of_mem_take he))
/-- It does not matter in what pieces records are sorted. -/
theorem can_cut {how : Int} (n : Nat) (hn : 0 < n) {l : List Rc} (h : ∀ e ∈ l, okR e) : canR how (cutL how n l).flatten = canR how l := by
  rw [cutL_eq, can_flat (pieces_ok n h), pieces_flat n hn]
theorem cut_flat_le (how : Int) (n : Nat) (hn : 0 < n) (l : List Rc) : (cutL how n l).flatten.length ≤ l.length := by
  have := flat_can_le how (pieces n l)
  rw [pieces_flat n hn] at this
  rw [cutL_eq]
  exact this
theorem pcN_le (len n : Nat) (hn : 0 < n) : pcN len n ≤ len := by
  have h := pcN_lt (len := len) (n := n) (k := len) hn
  have : len * 1 ≤ len * n := Nat.mul_le_mul_left _ hn
  omega

open Go.ChangeShapes Go.WideShapes Go.ChangeAt in
theorem open_recrows {H : Type} {enc : TypeId × Value → H} {W : World} {held : Bool} {fuel : Nat} {cs : List Value} {x : DataW H × List MemPlace} (h : DataW.trod enc Try.prog W 0 (fun _ => true) held fuel 28 cs = some x) :
    (cs = [.slice none 0 0]) ∨ ∃ (a : Addr) (len cap : Nat) (bss : List (List Rc)), cs = [.slice (some a) len cap] ∧ bss.length = len ∧ len ≤ cap ∧ cap ≤ maxLen ∧ IsRR W (.slice (some a) len cap) bss := by
  rcases Go.Deep.open_slice1 Try.underlying28 (by kernel_rfl) h with ⟨h0, _⟩ | ⟨a, len, cap, m, n, V, D, Pl, rfl, hb, hl, hm, hmm, rfl, hx⟩
  · exact .inl h0
  · right
    simp only [if_true] at hmm
    subst hmm
    have key : ∀ i, i < len → ∃ b, IsR W (V i) b := fun i hi => by
      obtain ⟨a', len', cap', es, hcs, h1, _⟩ := recsIn (hx i (by omega)).2
      simp only [List.cons.injEq, and_true] at hcs
      rw [hcs]
      exact ⟨es, h1⟩
    obtain ⟨f, hf⟩ : ∃ f : Nat → List Rc, ∀ i, i < len → IsR W (V i) (f i) := ⟨fun i => if hi : i < len then Classical.choose (key i hi) else [], fun i hi => by simp only [hi, dif_pos]; exact Classical.choose_spec (key i hi)⟩
    refine ⟨a, len, m, (List.range len).map f, rfl, by simp, hl, hm, some a, m, by simp, by simp; exact hl, by simp, fun q hq j hj => ?_⟩
    simp only [Option.some.injEq] at hq
    subst hq
    simp at hj
    refine ⟨V j, (hx j (by omega)).1, ?_⟩
    simp [hj]
    exact hf j hj

/-- The front of a row of slices, and what is behind it. -/
theorem IsRR.take {w : World} {a : Option Addr} {n cap : Nat} {ls : List (List Rc)} (h : IsRR w (.slice a n cap) ls) (k : Nat) (hk : k ≤ ls.length) : IsRR w (.slice a k cap) (ls.take k) := by
  obtain ⟨a', cap', e, h1, h2, h3⟩ := h
  simp only [Value.slice.injEq] at e
  obtain ⟨rfl, rfl, rfl⟩ := e
  have hl : (ls.take k).length = k := by simp; omega
  refine ⟨a, cap, by rw [hl], by omega, fun e => ⟨by rw [(h2 e).1]; simp, (h2 e).2⟩, fun x hx j hj => ?_⟩
  rw [hl] at hj
  obtain ⟨u, hu, hi⟩ := h3 x hx j (by omega)
  exact ⟨u, hu, by rw [List.getElem?_take_of_lt hj]; exact hi⟩
theorem IsRR.drop {w : World} {b off : Nat} {n cap : Nat} {ls : List (List Rc)} (h : IsRR w (.slice (some ⟨b, off, none⟩) n cap) ls) (k : Nat) (hk : k ≤ ls.length) : IsRR w (.slice (some ⟨b, off + k, none⟩) (n - k) (cap - k)) (ls.drop k) := by
  obtain ⟨a', cap', e, h1, h2, h3⟩ := h
  simp only [Value.slice.injEq] at e
  obtain ⟨rfl, rfl, rfl⟩ := e
  refine ⟨some ⟨b, off + k, none⟩, cap - k, by simp, by simp; omega, by simp, fun x hx j hj => ?_⟩
  simp only [Option.some.injEq] at hx
  subst hx
  simp at hj
  obtain ⟨u, hu, hi⟩ := h3 _ rfl (k + j) (by omega)
  rw [Addr.add_lit] at hu ⊢
  exact ⟨u, by rw [Nat.add_assoc]; exact hu, by rw [List.getElem?_drop]; exact hi⟩

/-- Merged in two steps it is the same. -/
theorem can_parts {how : Int} {ls : List (List Rc)} (k : Nat) (h : ∀ l ∈ ls, ∀ e ∈ l, okR e) : canR how ([canR how (ls.drop k).flatten, canR how (ls.take k).flatten] : List (List Rc)).flatten = canR how ls.flatten := by
  have h1 : ∀ e ∈ (ls.take k).flatten, okR e := flat_ok fun l hl => h l (List.mem_of_mem_take hl)
  have h2 : ∀ e ∈ (ls.drop k).flatten, okR e := flat_ok fun l hl => h l (List.mem_of_mem_drop hl)
  have e : ([canR how (ls.drop k).flatten, canR how (ls.take k).flatten] : List (List Rc)).flatten = canR how (ls.drop k).flatten ++ canR how (ls.take k).flatten := by simp
  rw [e]
  refine Like.can ?_ (fun x hx => ?_) (flat_ok h)
  · refine (Like.append (canR_like h2) (canR_like h1)).trans (Like.of_perm ?_)
    refine List.perm_append_comm.trans ?_
    rw [← List.flatten_append, List.take_append_drop]
  · rcases List.mem_append.1 hx with hx | hx
    · exact canR_ok h2 x hx
    · exact canR_ok h1 x hx

/-- 'append(row, x)' of which is known what it leaves: at the operation. -/
theorem wp_appendY {ops : Array Oper} {rest : List Oper} {o : Oper} {a : Act} {Q : Exit → Act → World → Prop} (R : Value → World → Prop) (w : World) (hgd : o.guard = none) (t : TypeId) (s x : Operand) (ho : o.op = .call { callee := .builtin .append, args := #[s, x], argTypes := #[t, t] })
    (v u : Value) (hs : a.eval s = v) (hx : a.eval x = u) (hr : ∃ v' w', (Builtin.append_ #[t, t] o.type #[v, u]).run Try.prog w = .ok v' w' ∧ R v' w')
    (h : ∀ v' w', R v' w' → wpList Try.prog ops Q rest (a.put o.dst v') w') :
    wpList Try.prog ops Q (o :: rest) a w := by
  refine wpList_plain hgd fun K hK => ?_
  obtain ⟨v', w', hr, h2⟩ := hr
  unfold Oper.wp execOp
  simp only [ho, resolve, invoke, builtin, Sem.run_bind, Sem.run_pure, Result.andThen_ok, List.map_toArray, List.map_cons, List.map_nil, hs, hx, hr]
  exact hK _ _ (h v' w' h2)

theorem step_appendY {ops : Array Oper} {o : Oper} {a : Act} {K : Act → World → Prop} {Q : Exit → Act → World → Prop} {E : Prop} (R : Value → World → Prop) (w : World) (hgd : o.guard = none) (t : TypeId) (s x : Operand) (ho : o.op = .call { callee := .builtin .append, args := #[s, x], argTypes := #[t, t] })
    (v u : Value) (hs : a.eval s = v) (hx : a.eval x = u) (hr : ∃ v' w', (Builtin.append_ #[t, t] o.type #[v, u]).run Try.prog w = .ok v' w' ∧ R v' w')
    (h : ∀ v' w', R v' w' → K (a.put o.dst v') w') :
    if Region.wanted o (yielded ops a.tmps) = true then Oper.wp Try.prog o a w K Q else E := by
  have hw : Region.wanted o (yielded ops a.tmps) = true := by simp [Region.wanted, hgd]
  rw [if_pos hw]
  obtain ⟨v', w', hr, h2⟩ := hr
  unfold Oper.wp execOp
  simp only [ho, resolve, invoke, builtin, Sem.run_bind, Sem.run_pure, Result.andThen_ok, List.map_toArray, List.map_cons, List.map_nil, hs, hx, hr]
  exact h v' w' h2

theorem isRR_two (w : World) {a b : Value} {l m : List Rc} (ha : IsR w a l) (hb : IsR w b m) : IsRR (w.alloc (.cells #[a, b] 22)) (.slice (some ⟨w.heap.size, 0, none⟩) 2 2) [l, m] := by
  have k := (Kept.refl [] w).alloc (.cells #[a, b] 22)
  refine ⟨_, 2, rfl, Nat.le_refl _, by simp, fun x hx j hj => ?_⟩
  simp only [Option.some.injEq] at hx
  subst hx
  rw [Addr.add_lit, Nat.zero_add]
  match j, hj with
  | 0, _ => exact ⟨a, cell_of_heap (heap_alloc_new w _) 0, ha.keptN k (fun _ _ _ => by simp)⟩
  | 1, _ => exact ⟨b, cell_of_heap (heap_alloc_new w _) 1, hb.keptN k (fun _ _ _ => by simp)⟩

theorem IsRR.none {w : World} {a : Option Addr} {cap : Nat} (h : a = .none → cap = 0) : IsRR w (.slice a 0 cap) [] := ⟨a, cap, rfl, Nat.zero_le _, fun e => ⟨rfl, h e⟩, by simp⟩

end Go.Proofs.Ytbppjbdcgcmjiaa
