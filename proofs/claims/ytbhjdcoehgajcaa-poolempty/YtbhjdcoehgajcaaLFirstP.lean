/-
  Caches with keys of type cartage/pool.place: first. A lemma file: no statement of the seat is proved here.
-/
import Derived.Test.YtbhjdcoehgajcaaLWithP
namespace Go.Proofs.Ytbhjdcoehgajcaa.L.P
open Go.RowKit Go.Maps

/-- What is known while frames are gone through: of those that came. -/
def FirstR (es : List (Fr Key)) (left : Lit → Bool) (least : Int) (ok : Bool) : Prop :=
  (ok = false ∧ least = 0 ∧ ∀ e ∈ es, left (uLit e.use) = false → e.pins ≠ 0) ∨
  (ok = true ∧ ∃ e ∈ es, left (uLit e.use) = false ∧ e.pins = 0 ∧ least = e.use ∧ ∀ x ∈ es, left (uLit x.use) = false → x.pins = 0 → e.use ≤ x.use)

section
variable {w w' : World} {p bh bl : Nat} {fr : Int} {us : Nat}

theorem left_strike {left : Lit → Bool} {u v : Nat} : ((fun z : Lit => left z && !z.sameKey (uLit u)) (uLit v)) = false ↔ (left (uLit v) = false ∨ v = u) := by
  simp only [Bool.and_eq_false_iff, Bool.not_eq_false']
  constructor
  · rintro (h | h)
    · exact .inl h
    · by_cases e : v = u
      · exact .inr e
      · have := sameKey_ne (fun e2 => e (uLit_inj _ _ e2)) (a := uLit v) (b := uLit u)
        rw [this] at h
        cases h
  · rintro (h | rfl)
    · exact .inl h
    · exact .inr (by simp [uLit, Lit.sameKey])

theorem FirstR.skip {es : List (Fr Key)} {left : Lit → Bool} {least : Int} {ok : Bool} (h : FirstR es left least ok) (hnd : (es.map Fr.use).Nodup) {e : Fr Key} (he : e ∈ es) (hp : e.pins ≠ 0) : FirstR es (fun z => left z && !z.sameKey (uLit e.use)) least ok := by
  have huniq : ∀ x ∈ es, x.use = e.use → x = e := fun x hx hu => by
    obtain ⟨ds, rs, rfl⟩ := List.append_of_mem he
    have h1 := find_at (kf := Fr.use) hnd
    obtain ⟨ds', rs', h2⟩ := List.append_of_mem hx
    rw [h2] at hnd h1
    have h3 := find_at (kf := Fr.use) hnd
    rw [hu] at h3
    rw [h1] at h3
    exact (Option.some.inj h3).symm
  rcases h with ⟨rfl, rfl, h⟩ | ⟨rfl, e0, h0, h1, h2, rfl, h3⟩
  · refine .inl ⟨rfl, rfl, fun x hx hl => ?_⟩
    rcases left_strike.1 hl with hl | hl
    · exact h x hx hl
    · rw [huniq x hx hl]
      exact hp
  · refine .inr ⟨rfl, e0, h0, left_strike.2 (.inl h1), h2, rfl, fun x hx hl hz => ?_⟩
    rcases left_strike.1 hl with hl | hl
    · exact h3 x hx hl hz
    · rw [huniq x hx hl] at hz
      exact absurd hz hp

theorem FirstR.over {es : List (Fr Key)} {left : Lit → Bool} {least : Int} (h : FirstR es left least true) {e : Fr Key} (hu : ¬ (e.use : Int) < least) : FirstR es (fun z => left z && !z.sameKey (uLit e.use)) least true := by
  rcases h with ⟨h, _⟩ | ⟨_, e0, h0, h1, h2, rfl, h3⟩
  · cases h
  · refine .inr ⟨rfl, e0, h0, left_strike.2 (.inl h1), h2, rfl, fun x hx hl hz => ?_⟩
    rcases left_strike.1 hl with hl | hl
    · exact h3 x hx hl hz
    · omega

theorem FirstR.take {es : List (Fr Key)} {left : Lit → Bool} {least : Int} {ok : Bool} (h : FirstR es left least ok) {e : Fr Key} (he : e ∈ es) (hp : e.pins = 0) (hu : ok = true → (e.use : Int) < least) : FirstR es (fun z => left z && !z.sameKey (uLit e.use)) e.use true := by
  refine .inr ⟨rfl, e, he, left_strike.2 (.inr rfl), hp, rfl, fun x hx hl hz => ?_⟩
  rcases left_strike.1 hl with hl | hl
  · rcases h with ⟨rfl, rfl, h⟩ | ⟨rfl, e0, h0, h1, h2, rfl, h3⟩
    · exact absurd hz (h x hx hl)
    · have := h3 x hx hl hz
      have := hu rfl
      omega
  · omega

theorem ptrE_shape (v : Value) (y : DataW Unit × List MemPlace) (h : ptrE v = some y) : ∃ c : Option Nat, v = (fun c : Option Nat => Value.pointer (c.map fun b => ⟨b, 0, none⟩)) c := by
  unfold ptrE at h
  split at h
  · exact ⟨none, rfl⟩
  · split at h
    · rename_i a e
      exact ⟨some a.block, by simp only [Option.map_some]; rw [← e]⟩
    · cases h
  · cases h

set_option maxRecDepth 100000 in
set_option maxHeartbeats 4000000 in
theorem first_any {es : List (Fr Key)} (h : Cat w p bh bl fr us es) :
    Calls Try.prog 87 #[.pointer (some ⟨p, 0, none⟩)] w fun x w' => ∃ least ok, x = .returned (.tuple #[.int .u64 least, .bool ok]) ∧ FirstR es (fun _ => false) least ok ∧ Below w.heap.size w w' := by
  obtain ⟨_, _, c2, _, _⟩ := h.cellAt
  obtain ⟨D, hown, hD⟩ := h.held
  have HF := hide (fun (W : World) (k : Kept [] w W) (e : Fr Key) (he : e ∈ es) => (Cat.frameAt (CacheAt.kept h k (by simp)) he).2.1)
  have OW := hide hown
  have HD := hide hD
  have HN := hide h.nd
  have hbl := hide hown.lt
  have HFEW := hide (fun e (he : e ∈ es) => Nat.le_trans (h.up e he) h.few)
  clear h hown hD
  go_enter Try.func87, Try.ntmps87
  go_wp2_with (first | (at_range; refine wpList_range_own _ rfl _ 89 rfl 91 99 uKeyed Try.underlying89 ptrE bh es.length D rfl OW.out ?_; intro w0 hrg0 hg0 hs0) | fail)
  have hk0 : Kept [] w w0 := Kept.of_grown hg0
  have HK0 := hide hk0
  have HR0 := hide hrg0
  clear hk0 hrg0 hg0 hs0
  go_frame
  go_loopw [2, 3] (fun v2 v3 wr => ∃ (left : Lit → Bool) (cnt : Nat) (least : Int) (ok : Bool), v2 = .int .u64 least ∧ v3 = .bool ok ∧ Hid (wr.ranges Try.prog 91 ptrE bh w.heap.size es.length D left cnt) ∧ Hid (FirstR es left least ok) ∧ Hid (Kept [] w wr)) (fun _ _ wr => wr.rangeLeft bh w.heap.size)
  case atStart => exact ⟨_, _, 0, false, rfl, rfl, HR0, .inl ⟨rfl, rfl, fun e he hl => by have := HD.out.has e.use; rw [hl] at this; obtain ⟨ds, rs, rfl⟩ := List.append_of_mem he; rw [find_at HN.out] at this; cases this⟩, HK0⟩
  case round =>
    obtain ⟨left, cnt, least, ok, rfl, rfl, HR, HFR, HK⟩ := hrel
    go_wp2_with (at_next; refine wpList_next_ranges _ rfl _ rfl 91 uKeyed ptrE (Value.int .u64) (fun c : Option Nat => Value.pointer (c.map fun b => ⟨b, 0, none⟩)) (fun key kl hk => by obtain ⟨x, rfl, _⟩ := Maps.keyOf_int_inv Try.underlying91 hk; exact ⟨x, rfl⟩) ptrE_shape bh w.heap.size es.length D left cnt rfl HR.out ?_ ?_)
    · intro hc0 hl0
      have HL0 := hide hl0
      clear hc0 hl0
      go_wp2
      go_ret2
      have e : left = fun _ => false := funext HL0.out
      rw [e] at HFR
      exact ⟨least, ok, rfl, HFR.out, HK.out.below (Nat.le_refl _) (by simp)⟩
    · intro x c kl yd yp w2 cnt2 hkey hlk hv hat hrg2 hlt hg2 hs2 hen
      obtain ⟨x', ex, rfl, hwf⟩ := Maps.keyOf_int_inv Try.underlying91 hkey
      cases ex
      obtain ⟨u, rfl⟩ : ∃ u : Nat, x = u := ⟨x.toNat, by
        have hmin : IntKind.u64.min = 0 := rfl
        simp only [Lit.wf, Bool.and_eq_true, decide_eq_true_eq] at hwf
        omega⟩
      have h1 := hat .nil
      have h2 := HD.out.at_ u
      rw [show D.atKey (uLit u) .nil = yd from h1] at h2
      have h3 := HD.out.has u
      rw [has_true_of_atKey (k := uLit u) hat] at h3
      obtain ⟨e, he⟩ := Option.isSome_iff_exists.1 h3.symm
      rw [he] at h2
      obtain ⟨hmem, rfl⟩ := find_some he
      simp only at h2
      subst h2
      have hc := ptrE_inv hv
      obtain rfl : c = some e.blk := by
        cases c with
        | none => simp at hc
        | some b => simpa using hc
      have hk2 : Kept [] w w2 := HK.out.trans (Kept.of_grown hg2) (fun z hz => by simp at hz; subst hz; exact .inr (Nat.le_refl _))
      have f1 := HF.out w2 hk2 e hmem
      have HK2 := hide hk2
      have HR2 := hide hrg2
      have HLT : Hid (w2.rangeLeft bh w.heap.size < wr.rangeLeft bh w.heap.size) := by rw [hrg2.left_eq, HR.out.left_eq]; exact hlt
      have HE := hide hmem
      simp only [Option.map_some] at hen ⊢
      clear h1 h3 he hmem hc hk2 hrg2 hlt hkey hlk hv hat hg2 hs2 hwf HR
      obtain ⟨q, hq⟩ : ∃ q, q = e.blk := ⟨_, rfl⟩
      obtain ⟨un, hun⟩ : ∃ un, un = e.use := ⟨_, rfl⟩
      obtain ⟨pn, hpn⟩ : ∃ pn, pn = e.pins := ⟨_, rfl⟩
      rw [← hq] at f1 hen ⊢
      rw [← hun] at hen HR2 ⊢
      rw [← hpn] at f1
      have EQ := hide (And.intro hun hpn)
      clear hq hun hpn
      by_cases hz : pn = 0
      · subst hz
        have FT := hide (fun hu => HFR.out.take HE.out EQ.out.2.symm hu)
        rw [← EQ.out.1] at FT
        cases ok with
        | false =>
          go_wp2
          go_roundw
          case rel => exact ⟨_, cnt2, un, true, rfl, rfl, HR2, FT.out (fun h => by cases h), HK2⟩
          case measure => exact HLT.out
        | true =>
          by_cases hlt : (un : Int) < least
          · go_wp2
            go_roundw
            case rel => exact ⟨_, cnt2, un, true, rfl, rfl, HR2, FT.out (fun _ => hlt), HK2⟩
            case measure => exact HLT.out
          · have FO := hide (HFR.out.over (e := e) (by rw [← EQ.out.1]; exact hlt))
            rw [← EQ.out.1] at FO
            go_wp2
            go_roundw
            case rel => exact ⟨_, cnt2, least, true, rfl, rfl, HR2, FO.out, HK2⟩
            case measure => exact HLT.out
      · have FS := hide (HFR.out.skip HN.out HE.out (by rw [← EQ.out.2]; exact hz))
        rw [← EQ.out.1] at FS
        have hz2 : ((pn : Int) == 0) = false := by simpa using hz
        go_wp2
        go_roundw
        case rel => exact ⟨_, cnt2, least, ok, rfl, rfl, HR2, FS.out, HK2⟩
        case measure => exact HLT.out

end
end Go.Proofs.Ytbhjdcoehgajcaa.L.P
