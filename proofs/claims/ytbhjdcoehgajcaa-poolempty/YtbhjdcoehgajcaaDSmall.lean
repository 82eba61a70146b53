/-
  The small functions of disk: sectors, mayBe, what is asked, the count of operations, copies of slices, and whether bytes are the same. A lemma file: no statement of the seat is proved here.
-/
import Derived.Test.YtbhjdcoehgajcaaDMem
import Derived.Laws.LoneSync
import Derived.Deep.QuietTactic
import Derived.BigQuiet
namespace Go.Proofs.Ytbhjdcoehgajcaa
open Go.RowKit Go.Maps

theorem i64_small (x : Int) (h0 : -9223372036854775808 ≤ x) (h1 : x ≤ 9223372036854775807) : IntKind.i64.wrap x = x := by
  rw [IntKind.wrap_i64]
  omega

/-- How many sectors so many bytes need. -/
def sec (n : Nat) : Int := ((n + 15) / 16 : Nat)

theorem sec_eq (n : Nat) : sec n = ((n : Int) + 15) / 16 := by unfold sec; omega

theorem sectors_any (n : Nat) (h : n ≤ 1099511627776) (w : World) : Calls Try.prog 40 #[.int .i64 n] w fun e w' => e = .returned (.int .i64 (sec n)) ∧ w' = w := by
  rw [sec_eq]
  go_enter Try.func40, Try.ntmps40
  go_wp2
  go_ret
  refine ⟨?_, rfl⟩
  have e : (n : Int) + 16 - 1 = n + 15 := by omega
  rw [← e]
  rfl

/-- May a name be? -/
def mayB (s : List UInt8) : Bool := decide (1 ≤ s.length) && decide (s.length ≤ 24)

theorem mayBe_any (s : ByteArray) (hs : s.size ≤ maxLen) (w : World) : Calls Try.prog 43 #[.string s] w fun e w' => e = .returned (.bool (mayB s.data.toList)) ∧ w' = w := by
  unfold maxLen at hs
  have hm : mayB s.data.toList = (decide (1 ≤ s.size) && decide (s.size ≤ 24)) := by simp [mayB]
  rw [hm]
  clear hm
  by_cases h1 : 1 ≤ s.size
  · by_cases h2 : s.size ≤ 24
    · go_enter Try.func43, Try.ntmps43
      go_wp2
      go_ret
      simp [h1, h2]
      omega
    · go_enter Try.func43, Try.ntmps43
      go_wp2
      go_ret
      simp [h1, h2]
      omega
  · go_enter Try.func43, Try.ntmps43
    go_wp2
    go_ret
    simp

theorem Try.addInt64 {a : Addr} {x y s : Int} {w : World} (hc : w.cell? a = some (.int .i64 x)) (hz : w.frozen? a = false) (hs : IntKind.i64.wrap (x + y) = s) :
    (callFunc 69 #[.pointer (some a), .int .i64 y]).run Try.prog w = .ok (.value (.int .i64 s)) (w.setCell a (.int .i64 s)) :=
  run_call_add Try.func69 (by kernel_rfl) (by kernel_rfl) (by kernel_rfl) .i64 (by kernel_rfl) hc hz (by rw [← hs]; rfl)

theorem Try.loadInt64 {a : Addr} {x : Int} {w : World} (hc : w.cell? a = some (.int .i64 x)) :
    (callFunc 52 #[.pointer (some a)]).run Try.prog w = .ok (.value (.int .i64 x)) w :=
  run_call_load Try.func52 (by kernel_rfl) (by kernel_rfl) (by kernel_rfl) .i64 (by kernel_rfl) hc

theorem add_any (b o : Nat) (x y s : Int) (w : World) (hc : w.cell? ⟨b, o, none⟩ = some (.int .i64 x)) (hz : w.frozen? ⟨b, o, none⟩ = false) (hs : IntKind.i64.wrap (x + y) = s) :
    Calls Try.prog 58 #[.pointer (some ⟨b, o, none⟩), .int .i64 y] w fun e w' => e = .returned (.int .i64 s) ∧ w' = w.setCell ⟨b, o, none⟩ (.int .i64 s) := by
  have hr := Try.addInt64 hc hz hs
  clear hs
  go_enter Try.func58, Try.ntmps58
  go_wp2
  go_ret
  exact ⟨rfl, rfl⟩

theorem load_any (b o : Nat) (x : Int) (w : World) (hc : w.cell? ⟨b, o, none⟩ = some (.int .i64 x)) :
    Calls Try.prog 36 #[.pointer (some ⟨b, o, none⟩)] w fun e w' => e = .returned (.int .i64 x) ∧ w' = w := by
  have hr := Try.loadInt64 hc
  go_enter Try.func36, Try.ntmps36
  go_wp2
  go_ret
  exact ⟨rfl, rfl⟩

section
variable {w : World} {p bm : Nat} {kv : Value} {fs : List Fl} {s : Ds}

theorem ops_any (h : DiskAt w p bm kv fs s) : Calls Try.prog 20 #[.pointer (some ⟨p, 0, none⟩)] w fun e w' => e = .returned (.int .i64 s.ops) ∧ w' = w := by
  have c4 := cell_of_heap h.cells 3
  simp [diskCells] at c4
  clear h
  go_enter Try.func20, Try.ntmps20
  go_wp2_with (go_at_call 36; refine (load_any _ _ s.ops _ ?_).mono ?_; (first | exact c4 | simpa using c4); rintro e w' ⟨rfl, rfl⟩)
  go_ret
  exact ⟨rfl, rfl⟩
end

/-- bytes.Equal. -/
theorem bytesEqual_any (a b : Value) (xs ys : List Int) (w : World) (ha : IsB w a xs) (hb : IsB w b ys) :
    Calls Try.prog 68 #[a, b] w fun e w' => e = .returned (.bool (decide (xs = ys))) ∧ w' = w := by
  have c1 := conv_isB ha
  have c2 := conv_isB hb
  have hx := ha.bytes
  have hy := hb.bytes
  obtain ⟨a1, cp1, rfl, _⟩ := ha.form
  obtain ⟨a2, cp2, rfl, _⟩ := hb.form
  clear ha hb
  by_cases e : xs = ys
  · subst e
    go_enter Try.func68, Try.ntmps68
    go_wp2
    go_ret
    simp
  · have hne : (strOfNums xs).toList ≠ (strOfNums ys).toList := fun h => e (strOfNums_inj hx hy (by
      rw [ByteArray.toList_eq, ByteArray.toList_eq] at h
      generalize strOfNums xs = a at h
      generalize strOfNums ys = b at h
      cases a
      cases b
      simp at h
      rw [h]))
    have HE : Hid (¬ xs = ys) := e
    clear e
    go_enter Try.func68, Try.ntmps68
    go_wp2
    go_ret
    simp [HE.out, hne]

end Go.Proofs.Ytbhjdcoehgajcaa
