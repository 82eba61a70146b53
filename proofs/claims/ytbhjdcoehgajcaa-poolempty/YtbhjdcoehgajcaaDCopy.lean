/-
  'copy' into a row. A lemma file: no statement of the seat is proved here.
-/
import Derived.Test.YtbhjdcoehgajcaaDStays
import Derived.Laws.CopyOwn
namespace Go.Proofs.Ytbhjdcoehgajcaa
open Go.RowKit Go.Maps Go.Sort Go.Shelf

theorem Try.sizeU8 : (Try.prog.info? 5).map (·.size) = some 1 := by kernel_rfl

theorem copy_list (L : List Value) (bs cs : List Int) (a : Nat) (hM : L.take bs.length = bs.map (Value.int .u8)) (ha : a < bs.length) (hle : bs.length ≤ L.length) :
    (L.take a ++ (cs.take (bs.length - a)).map (Value.int .u8) ++ L.drop (a + Nat.min cs.length (bs.length - a))).take bs.length = (bs.take a ++ (cs.take (bs.length - a) ++ bs.drop (a + cs.length))).map (Value.int .u8) := by
  have ecur : ∀ i, i < bs.length → L[i]? = (bs.map (Value.int .u8))[i]? := by
    intro i hi
    rw [← hM, List.getElem?_take_of_lt hi]
  rw [List.append_assoc]
  apply List.ext_getElem?
  intro i
  by_cases hi : i < bs.length
  · rw [List.getElem?_take_of_lt hi]
    have ec := ecur i hi
    simp only [List.map_append, List.map_take, List.map_drop, List.getElem?_append, List.getElem?_take, List.getElem?_drop, List.length_take, List.length_map]
    have hmin : Nat.min cs.length (bs.length - a) = min (bs.length - a) cs.length := Nat.min_comm _ _
    rw [hmin]
    by_cases hia : i < a
    · have p1 : i < min a L.length := by omega
      have p2 : i < min a bs.length := by omega
      rw [if_pos p1, if_pos p2, if_pos hia, if_pos hia, ec]
    · have p1 : ¬ i < min a L.length := by omega
      have p2 : ¬ i < min a bs.length := by omega
      rw [if_neg p1, if_neg p2]
      have e4 : min a L.length = a := by omega
      have e5 : min a bs.length = a := by omega
      rw [e4, e5]
      by_cases hic : i - a < min (bs.length - a) cs.length
      · rw [if_pos hic, if_pos hic]
      · rw [if_neg hic, if_neg hic]
        have e6 : a + min (bs.length - a) cs.length + (i - a - min (bs.length - a) cs.length) = i := by omega
        have e7 : a + cs.length + (i - a - min (bs.length - a) cs.length) = i := by omega
        rw [e6, e7, ec]
  · rw [List.getElem?_eq_none (by simp only [List.length_take]; omega), List.getElem?_eq_none (by simp only [List.length_map, List.length_append, List.length_take, List.length_drop]; omega)]

/-- 'copy(row[a:], b)'. -/
theorem RowB.copy {w : World} {v : Value} {bs : List Int} (h : RowB w v bs) (a : Nat) (ha : a ≤ bs.length) {u : Value} {cs : List Int} (hu : IsB w u cs) (dp : Option Addr) (dc : Nat) (hdp : a < bs.length → ∀ g, v.ownBlock = some g → dp = some ⟨g, a, none⟩) (ty : TypeId) :
    ∃ w', (Builtin.copy_ #[28, 28] ty #[.slice dp (bs.length - a) dc, u]).run Try.prog w = .ok (.int .i64 ((min cs.length (bs.length - a) : Nat) : Int)) w' ∧ RowB w' v (bs.take a ++ (cs.take (bs.length - a) ++ bs.drop (a + cs.length))) ∧ Kept (own v) w w' := by
  obtain ⟨ad, sc, rfl, h1, h2, h3, h4⟩ := hu
  by_cases h0 : min cs.length (bs.length - a) = 0
  · refine ⟨w, ?_, ?_, Kept.refl _ _⟩
    · have := run_copy_none (P := Try.prog) w 28 28 ty 5 dp ad (bs.length - a) dc cs.length sc Try.underlying28 Try.sizeU8 h0
      rw [h0]
      exact this
    · have e : bs.take a ++ (cs.take (bs.length - a) ++ bs.drop (a + cs.length)) = bs := by
        rcases Nat.min_eq_zero_iff.1 h0 with e | e
        · obtain rfl : cs = [] := List.eq_nil_of_length_eq_zero e
          simp
        · have e2 : a = bs.length := by omega
          subst e2
          simp
      rw [e]
      exact h
  · have hal : a < bs.length := by omega
    rcases h.1.2 with ⟨rfl, e⟩ | ⟨g, cap, cur, rfl, hbg, hg, hnc, hcm, hcs, htake⟩
    · omega
    · have hd := hdp hal g rfl
      subst hd
      cases ad with
      | none => rw [(h2 rfl).1] at h0; simp at h0
      | some ad =>
        have hlen : (cs.take (bs.length - a)).length = Nat.min cs.length (bs.length - a) := by rw [List.length_take, Nat.min_comm]
        have hmin : Nat.min cs.length (bs.length - a) = min cs.length (bs.length - a) := rfl
        have hr := run_copy_row (P := Try.prog) w 28 28 ty 5 g a (bs.length - a) dc ad cs.length sc cur _ ((cs.take (bs.length - a)).map (Value.int .u8)) Try.underlying28 Try.sizeU8 hg (by rw [List.length_map]; exact hlen) (fun j u hu => by
          have hj : j < (cs.take (bs.length - a)).length := by simpa using (List.getElem?_eq_some_iff.1 hu).1
          have hj2 : j < cs.length := by simp at hj; omega
          rw [h3 ad rfl j hj2]
          rw [List.getElem?_map, List.getElem?_take_of_lt (by simp at hj; omega)] at hu
          simp [hj2] at hu
          simp [hj2, hu]) (by rw [List.length_map, hlen, hmin]; omega) (ints_oneCell _ _)
        refine ⟨_, by rw [hr, List.length_map, hlen]; rfl, ⟨⟨by simp, .inr ⟨g, cap, _, ?_, Nat.zero_le _, setRow_heap w g cur _ _ _ hg, by simp; omega, hcm, ?_, ?_⟩⟩, ?_⟩, ⟨rfl, rfl, rfl, by simp, fun k _ hk => setRow_other w g k _ (fun e => hk (by simp [own, Value.ownBlock, e]))⟩⟩
        · have e : (bs.take a ++ (cs.take (bs.length - a) ++ bs.drop (a + cs.length))).length = bs.length := by simp; omega
          rw [e]
        · simp
          omega
        · have e : (bs.take a ++ (cs.take (bs.length - a) ++ bs.drop (a + cs.length))).length = bs.length := by simp; omega
          rw [e, Nat.mul_one] at *
          exact copy_list cur.toList bs cs a htake hal (by simp; omega)
        · intro z hz
          rcases List.mem_append.1 hz with hz | hz
          · exact h.2 z (List.mem_of_mem_take hz)
          · rcases List.mem_append.1 hz with hz | hz
            · exact h4 z (List.mem_of_mem_take hz)
            · exact h.2 z (List.mem_of_mem_drop hz)

section
variable {ops : Array Oper} {rest : List Oper} {o : Oper} {a : Act} {Q : Exit → Act → World → Prop}

theorem wp_copyR (w : World) (hgd : o.guard = none) (d s : Operand) (ho : o.op = .call { callee := .builtin .copy, args := #[d, s], argTypes := #[28, 28] })
    (v : Value) (bs : List Int) (hrow : RowB w v bs) (n : Nat) (hn : n ≤ bs.length) (u : Value) (cs : List Int) (hu : IsB w u cs) (dp : Option Addr) (dl dc : Nat) (hd : a.eval d = .slice dp dl dc) (hdl : dl = bs.length - n)
    (hdp : n < bs.length → ∀ g, v.ownBlock = some g → dp = some ⟨g, n, none⟩) (hs : a.eval s = u)
    (h : ∀ w', RowB w' v (bs.take n ++ (cs.take (bs.length - n) ++ bs.drop (n + cs.length))) → Kept (own v) w w' → wpList Try.prog ops Q rest (a.put o.dst (.int .i64 ((min cs.length (bs.length - n) : Nat) : Int))) w') :
    wpList Try.prog ops Q (o :: rest) a w := by
  refine wpList_plain hgd fun K hK => ?_
  subst hdl
  obtain ⟨w', hr, h2, h3⟩ := hrow.copy n hn hu dp dc hdp o.type
  unfold Oper.wp execOp
  simp only [ho, resolve, invoke, builtin, Sem.run_bind, Sem.run_pure, Result.andThen_ok, List.map_toArray, List.map_cons, List.map_nil, hd, hs, hr]
  exact hK _ _ (h w' h2 h3)

theorem step_copyR {K : Act → World → Prop} {E : Prop} (w : World) (hgd : o.guard = none) (d s : Operand) (ho : o.op = .call { callee := .builtin .copy, args := #[d, s], argTypes := #[28, 28] })
    (v : Value) (bs : List Int) (hrow : RowB w v bs) (n : Nat) (hn : n ≤ bs.length) (u : Value) (cs : List Int) (hu : IsB w u cs) (dp : Option Addr) (dl dc : Nat) (hd : a.eval d = .slice dp dl dc) (hdl : dl = bs.length - n)
    (hdp : n < bs.length → ∀ g, v.ownBlock = some g → dp = some ⟨g, n, none⟩) (hs : a.eval s = u)
    (h : ∀ w', RowB w' v (bs.take n ++ (cs.take (bs.length - n) ++ bs.drop (n + cs.length))) → Kept (own v) w w' → K (a.put o.dst (.int .i64 ((min cs.length (bs.length - n) : Nat) : Int))) w') :
    if Region.wanted o (yielded ops a.tmps) = true then Oper.wp Try.prog o a w K Q else E := by
  have hw : Region.wanted o (yielded ops a.tmps) = true := by simp [Region.wanted, hgd]
  rw [if_pos hw]
  subst hdl
  obtain ⟨w', hr, h2, h3⟩ := hrow.copy n hn hu dp dc hdp o.type
  unfold Oper.wp execOp
  simp only [ho, resolve, invoke, builtin, Sem.run_bind, Sem.run_pure, Result.andThen_ok, List.map_toArray, List.map_cons, List.map_nil, hd, hs, hr]
  exact h w' h2 h3
end

end Go.Proofs.Ytbhjdcoehgajcaa
