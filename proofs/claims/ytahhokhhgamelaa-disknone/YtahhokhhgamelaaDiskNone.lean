/-
  Proved: for every name and all bytes, DiskNone returns true and leaves the bytes as they were (of a file that there is not all calls are ErrNone; a name that may not be is refused). No condition.
-/
import Derived.Test.YtahhokhhgamelaaDDrop
import Derived.WalkKit
import Derived.ProofKit
import Derived.OpenShut
import Derived.ShutString
import Derived.ChangeOld
import Derived.Below
namespace Go.Proofs.Ytahhokhhgamelaa.diskNone
open Go.ChangeShapes Go.WideShapes Go.ChangeAt Go.RowKit
open Go.ChangeMaps (open_string shut_string)
set_option linter.unusedVariables false

theorem own : ownKnob Try.prog.godebug = none := by kernel_rfl
theorem laidOut : laidOutB Try.prog = true := by kernel_rfl

/-- WHAT THE WALK IS TOLD OF A SLICE OF INTEGERS THAT CAME IN: it is nil; or it leads to a row of 'cap' cells, the numbers 'zs' (the first 'len' are its elements, the rest its spare room), each fitting its kind. -/
def IsRow (k : IntKind) (w : World) (a : Option Addr) (len cap : Nat) (zs : List Int) : Prop :=
  (a = none ∧ len = 0 ∧ cap = 0 ∧ zs = []) ∨
  ∃ x, a = some x ∧ len ≤ cap ∧ cap ≤ maxLen ∧ zs.length = cap ∧ (∀ i, i < zs.length → w.cell? (x.add i) = some (.int k (zs.getD i 0))) ∧ ∀ n ∈ zs, (Lit.int k n).wf = true

theorem isB_of {w : World} {a : Option Addr} {len cap : Nat} {zs : List Int} (h : IsRow .u8 w a len cap zs) : IsB w (.slice a len cap) (zs.take len) ∧ (zs.take len).length = len ∧ len ≤ cap := by
  rcases h with ⟨rfl, rfl, rfl, rfl⟩ | ⟨x, rfl, hl, hm, hz, hc, hw⟩
  · exact ⟨IsB.nil w, rfl, Nat.le_refl _⟩
  · have e : (zs.take len).length = len := by simp; omega
    refine ⟨⟨_, cap, by rw [e], by omega, by simp, fun y hy j hj => ?_, fun z hz => ?_⟩, e, hl⟩
    · simp only [Option.some.injEq] at hy
      subst hy
      rw [hc j (by omega), List.getElem?_take_of_lt (by omega)]
      rfl
    · have := hw z (List.mem_of_mem_take hz)
      exact bounds_u8 this

/-- What is left of a slice that is cut to at most m bytes. -/
theorem cut_to {w : World} {a : Option Addr} {len cap : Nat} {zs : List Int} (h : IsRow .u8 w a len cap zs) (m : Nat) (hm : m ≤ len) : ∃ bs, IsB w (.slice a m cap) bs ∧ bs.length = m := by
  obtain ⟨h1, h2, h3⟩ := isB_of h
  exact ⟨_, h1.take m hm, by simp only [List.length_take, h2]; omega⟩

/-- The same, the length named: as the walk reckons it. -/
theorem cut_min {w : World} {a : Option Addr} {len cap : Nat} {zs : List Int} (h : IsRow .u8 w a len cap zs) (k : Nat) (K : Int) (hK : K = (k : Int)) :
    ∃ (m : Nat) (bs : List Int), (∀ (ts : Array TypeId) (t : TypeId) (w : World), (Builtin.min_ ts t #[.int .i64 (len : Int), .int .i64 K]).run Try.prog w = .ok (.int .i64 (m : Int)) w) ∧ IsB w (.slice a m cap) bs ∧ bs.length = m ∧ m ≤ len ∧ m ≤ k ∧ m ≤ cap := by
  obtain ⟨h1, h2, h3⟩ := isB_of h
  refine ⟨min len k, _, fun ts t w => ?_, h1.take (min len k) (by omega), by simp only [List.length_take, h2]; omega, by omega, by omega, by omega⟩
  rw [run_min_int2, hK]
  congr 2
  split <;> omega

/-- A disk of a hundred sectors, behind so many operations. -/
def Sx (ops : Int) : Ds := { room := 100, used := 0, ops := ops, down := false, left := 0, keep := [] }
theorem Sx_begin (l : List Ab) (k : Int) : beginA l (Sx k) = (l, Sx (k + 1)) := rfl

section
variable {B : Nat} {w0 w : World} {p : Nat} {l l' : List Ab} {s s' : Ds} {f : Nat} {args : Array Value} {r : Ending}

theorem sd_of (h : Sd B w0 w p l s) (k : ∀ fp, Dk w fp p l s → Calls Try.prog f args w fun e w' => e = r ∧ Outc w w' fp p (l', s')) : Calls Try.prog f args w fun e w' => e = r ∧ Sd B w0 w' p l' s' := by
  obtain ⟨fp, d, b, ff, hB⟩ := h
  refine (k fp d).mono ?_
  rintro e w' ⟨rfl, o⟩
  exact ⟨rfl, o.sd b ff hB⟩

variable {k : Int} (hk : k ≤ 1000) (nm : ByteArray) (hnm : nm.size ≤ maxLen)
include hk hnm
theorem n_append (h : Sd B w0 w p [] (Sx k)) (u : Value) (cs : List Int) (hu : IsB w u cs) (hcl : cs.length ≤ 1000) (hux : cs ≠ [] → ∀ x ∈ Go.Proofs.Ytahhokhhgamelaa.own u, x < B) : Calls Try.prog 18 #[.pointer (some ⟨p, 0, none⟩), .string nm, u] w fun e w' => e = .returned (.int .i64 4) ∧ Sd B w0 w' p [] (Sx (k + 1)) :=
  h.append (by simp only [Sx]; omega) nm hnm u cs hu (by omega) hux (by rfl)
theorem n_writeAt (h : Sd B w0 w p [] (Sx k)) (a : Option Addr) (n c : Nat) : Calls Try.prog 20 #[.pointer (some ⟨p, 0, none⟩), .string nm, .int .i64 0, .slice a n c] w fun e w' => e = .returned (.int .i64 4) ∧ Sd B w0 w' p [] (Sx (k + 1)) :=
  sd_of h fun fp d => d.writeAt_err (by simp only [Sx]; omega) nm hnm 0 a n c (by rfl)
theorem n_readAt (h : Sd B w0 w p [] (Sx k)) : Calls Try.prog 22 #[.pointer (some ⟨p, 0, none⟩), .string nm, .int .i64 0, .int .i64 0] w fun e w' => e = .returned (.tuple #[.slice none 0 0, .int .i64 4]) ∧ Sd B w0 w' p [] (Sx (k + 1)) :=
  sd_of h fun fp d => d.readAt_err (by simp only [Sx]; omega) nm hnm 0 0 (by rfl)
theorem n_size (h : Sd B w0 w p [] (Sx k)) : Calls Try.prog 24 #[.pointer (some ⟨p, 0, none⟩), .string nm] w fun e w' => e = .returned (.tuple #[.int .i64 0, .int .i64 4]) ∧ Sd B w0 w' p [] (Sx (k + 1)) :=
  h.size (by simp only [Sx]; omega) nm hnm (by rfl) (by rfl)
theorem n_sync (h : Sd B w0 w p [] (Sx k)) : Calls Try.prog 26 #[.pointer (some ⟨p, 0, none⟩), .string nm] w fun e w' => e = .returned (.int .i64 4) ∧ Sd B w0 w' p [] (Sx (k + 1)) :=
  sd_of h fun fp d => d.sync_err (by simp only [Sx]; omega) nm hnm (by rfl)
theorem n_rename (h : Sd B w0 w p [] (Sx k)) (to : ByteArray) : Calls Try.prog 28 #[.pointer (some ⟨p, 0, none⟩), .string nm, .string to] w fun e w' => e = .returned (.int .i64 4) ∧ Sd B w0 w' p [] (Sx (k + 1)) :=
  sd_of h fun fp d => d.rename_err (by simp only [Sx]; omega) nm hnm to (by rfl)
theorem n_remove (h : Sd B w0 w p [] (Sx k)) : Calls Try.prog 30 #[.pointer (some ⟨p, 0, none⟩), .string nm] w fun e w' => e = .returned (.int .i64 4) ∧ Sd B w0 w' p [] (Sx (k + 1)) :=
  sd_of h fun fp d => d.remove_err (by simp only [Sx]; omega) nm hnm (by rfl)
theorem n_create_no (h : Sd B w0 w p [] (Sx k)) (hm : mayB nm.data.toList = false) : Calls Try.prog 16 #[.pointer (some ⟨p, 0, none⟩), .string nm] w fun e w' => e = .returned (.int .i64 1) ∧ Sd B w0 w' p [] (Sx (k + 1)) :=
  h.create (by simp only [Sx]; omega) nm hnm (by
    rw [Sx_begin]
    unfold createA
    rw [if_neg (by simp [Sx]), if_pos hm])
theorem n_create (h : Sd B w0 w p [] (Sx k)) (hm : mayB nm.data.toList = true) : Calls Try.prog 16 #[.pointer (some ⟨p, 0, none⟩), .string nm] w fun e w' => e = .returned (.int .i64 0) ∧ Sd B w0 w' p [(nm.data.toList, [], [])] (Sx (k + 1)) :=
  h.create (by simp only [Sx]; omega) nm hnm (by
    rw [Sx_begin]
    unfold createA
    rw [if_neg (by simp [Sx]), if_neg (by simp [hm])]
    rfl)
omit hk hnm in
theorem look_one (n : List UInt8) : lookA [(n, [], [])] n = some (n, [], []) := by simp [lookA]
theorem n_again (h : Sd B w0 w p [(nm.data.toList, [], [])] (Sx k)) (hm : mayB nm.data.toList = true) : Calls Try.prog 16 #[.pointer (some ⟨p, 0, none⟩), .string nm] w fun e w' => e = .returned (.int .i64 5) ∧ Sd B w0 w' p [(nm.data.toList, [], [])] (Sx (k + 1)) :=
  h.create (by simp only [Sx]; omega) nm hnm (by
    rw [Sx_begin]
    unfold createA
    rw [if_neg (by simp [Sx]), if_neg (by simp [hm])]
    simp only [look_one])
omit hk hnm in
theorem n_err : errA (beginA [(nm.data.toList, [], [])] (Sx k)) nm.data.toList = none := by
  rw [Sx_begin]
  unfold errA
  rw [if_neg (by simp [Sx])]
  simp only [look_one]
theorem n_rename_arg (h : Sd B w0 w p [(nm.data.toList, [], [])] (Sx k)) : Calls Try.prog 28 #[.pointer (some ⟨p, 0, none⟩), .string nm, .string ⟨#[]⟩] w fun e w' => e = .returned (.int .i64 1) ∧ Sd B w0 w' p [(nm.data.toList, [], [])] (Sx (k + 1)) :=
  sd_of h fun fp d => d.rename_arg (by simp only [Sx]; omega) nm hnm ⟨#[]⟩ (by show 0 ≤ maxLen; omega) (by rfl) (n_err nm) (by rw [Sx_begin]; exact look_one _)
theorem n_gone (h : Sd B w0 w p [(nm.data.toList, [], [])] (Sx k)) : Calls Try.prog 30 #[.pointer (some ⟨p, 0, none⟩), .string nm] w fun e w' => e = .returned (.int .i64 0) ∧ Sd B w0 w' p [] (Sx (k + 1)) :=
  sd_of h fun fp d => by
    have q := d.remove_ok (by simp only [Sx]; omega) nm hnm (n_err nm) (by rw [Sx_begin]; exact look_one _)
    have e : removeA (beginA [(nm.data.toList, [], [])] (Sx k)) (nm.data.toList, [], []) = ([], Sx (k + 1)) := by
      rw [Sx_begin]
      simp [removeA, delA, Sx, sec]
    rw [e] at q
    exact q
end
theorem n_ops {B : Nat} {w0 w : World} {p : Nat} {l : List Ab} (h : Sd B w0 w p l (Sx 11)) : Calls Try.prog 41 #[.pointer (some ⟨p, 0, none⟩)] w fun e w' => e = .returned (.int .i64 11) ∧ w' = w := h.ops

/-! ### The walk -/
set_option maxRecDepth 100000 in
set_option maxHeartbeats 4000000 in
theorem walk (a0 : ByteArray) (a1 : Option Addr) (len1 cap1 : Nat) (z1 : List Int) (w : World) (w0 : a0.size ≤ maxLen) (w1 : IsRow .u8 w a1 len1 cap1 z1) :
    Calls Try.prog 9 #[.string a0, .slice a1 len1 cap1] w fun e w' => e = .returned (.bool true) ∧ Below w.heap.size w w' := by
  obtain ⟨m, cs, hm0, hI, hL, hp1, hp2, hlc0⟩ := cut_min w1 60 60 rfl
  have hcl : cs.length ≤ 60 := by omega
  have HI := hide hI
  have HUX : Hid (cs ≠ [] → ∀ x ∈ Go.Proofs.Ytahhokhhgamelaa.own (.slice a1 m cap1), x < w.heap.size) := fun hne => hI.lt hne
  have HCL := hide hcl
  have SH := hide (shown_any w)
  have HN0 := hide w0
  unfold maxLen at w0
  clear w1 hI hL hcl
  go_enter Try.func9, Try.ntmps9
  go_wp2_with (go_at_call 12; refine SH.out.mono ?_; rintro e w1 ⟨rfl, b1'⟩; have B1 := hide b1'; clear b1')
  have NW := hide (Sd.new (B := w.heap.size) (w0 := w) 100 (by omega) w1 B1.out B1.out.size)
  refine NW.out.mono ?_
  rintro e w2 ⟨rfl, d2⟩
  have D2 : Hid (Sd w.heap.size w w2 (w1.heap.size + 1) [] (Sx 0)) := d2
  clear d2 NW
  obtain ⟨p, hp⟩ : ∃ p, p = w1.heap.size + 1 := ⟨_, rfl⟩
  rw [← hp] at D2 ⊢
  clear hp
  go_wp2_with (go_at_call 18; refine (n_append (by omega) a0 HN0.out D2.out (.slice a1 m cap1) cs (HI.out.below D2.out.bel) (Nat.le_trans HCL.out (by omega)) HUX.out).mono ?_; rintro e w3 ⟨rfl, d3⟩; have D3 := hide d3; clear d3)
  go_wp2_with (go_at_call 20; refine (n_writeAt (by omega) a0 HN0.out D3.out a1 m cap1).mono ?_; rintro e w4 ⟨rfl, d4⟩; have D4 := hide d4; clear d4)
  go_wp2_with (go_at_call 22; refine (n_readAt (by omega) a0 HN0.out D4.out).mono ?_; rintro e w5 ⟨rfl, d5⟩; have D5 := hide d5; clear d5)
  go_wp2_with (go_at_call 24; refine (n_size (by omega) a0 HN0.out D5.out).mono ?_; rintro e w6 ⟨rfl, d6⟩; have D6 := hide d6; clear d6)
  go_wp2_with (go_at_call 26; refine (n_sync (by omega) a0 HN0.out D6.out).mono ?_; rintro e w7 ⟨rfl, d7⟩; have D7 := hide d7; clear d7)
  go_wp2_with (go_at_call 28; refine (n_rename (by omega) a0 HN0.out D7.out _).mono ?_; rintro e w8 ⟨rfl, d8⟩; have D8 := hide d8; clear d8)
  go_wp2_with (go_at_call 30; refine (n_remove (by omega) a0 HN0.out D8.out).mono ?_; rintro e w9 ⟨rfl, d9⟩; have D9 := hide d9; clear d9)
  have hmay : mayB a0.data.toList = (decide (1 ≤ a0.size) && decide (a0.size ≤ 24)) := by simp [mayB]
  cases hmb : mayB a0.data.toList with
  | false =>
    have C := hide (n_create_no (by omega) a0 HN0.out D9.out hmb)
    rw [hmb] at hmay
    have hsz : a0.size = 0 ∨ 24 < a0.size := by
      simp at hmay
      omega
    clear hmay hmb
    rcases hsz with hsz | hsz
    · have h1 : ¬ 1 ≤ (a0.size : Int) := by omega
      go_wp2_with (go_at_call 16; refine C.out.mono ?_; rintro e w10 ⟨rfl, d10⟩; have D10 := hide d10; clear d10)
      go_ret
      exact ⟨rfl, D10.out.bel⟩
    · have h1 : 1 ≤ (a0.size : Int) := by omega
      have h2 : decide ((a0.size : Int) ≤ 24) = false := by simp; omega
      go_wp2_with (go_at_call 16; refine C.out.mono ?_; rintro e w10 ⟨rfl, d10⟩; have D10 := hide d10; clear d10)
      go_ret
      exact ⟨rfl, D10.out.bel⟩
  | true =>
    have C := hide (n_create (by omega) a0 HN0.out D9.out hmb)
    have HMB := hide hmb
    rw [hmb] at hmay
    have h1 : 1 ≤ (a0.size : Int) ∧ (a0.size : Int) ≤ 24 := by
      simp at hmay
      omega
    obtain ⟨h1, h2⟩ := h1
    clear hmay hmb
    go_wp2_with (go_at_call 16; refine C.out.mono ?_; rintro e w10 ⟨rfl, d10⟩; have D10 := hide d10; clear d10 C)
    refine (n_again (by omega) a0 HN0.out D10.out HMB.out).mono ?_
    rintro e w11 ⟨rfl, d11⟩
    have D11 := hide d11
    clear d11
    go_wp2_with (go_at_call 28; refine (n_rename_arg (by omega) a0 HN0.out D11.out).mono ?_; rintro e w12 ⟨rfl, d12⟩; have D12 := hide d12; clear d12)
    go_wp2_with (go_at_call 30; refine (n_gone (by omega) a0 HN0.out D12.out).mono ?_; rintro e w13 ⟨rfl, d13⟩; have D13 : Hid (Sd w.heap.size w w13 p [] (Sx 11)) := d13; clear d13)
    go_wp2_with (go_at_call 41; refine (n_ops D13.out).mono ?_; rintro e w14 ⟨rfl, rfl⟩)
    go_ret
    exact ⟨rfl, D13.out.bel⟩

/-! ### THE ROW's STEP: WRITTEN OUT: LEAVE IT -/
set_option maxRecDepth 100000 in
theorem lifted (os : Os) (started : os.Started) (H : Type) (enc : TypeId × Value → H) :
    ReturnsInHanded {} Try.checked os 9 .any (Rows.diskNoneSpec.pre6 enc Try.prog Try.f9 Rows.diskNoneRow.domain false) (Rows.diskNoneSpec.post enc Try.prog Try.f9 false true false false) := by
  refine returnsInHanded_of_change (C := Try.checked) own started (by kernel_rfl) Try.func9
    (ChangeSpec.witness6 (enc := enc) (C := Try.checked) false ⟨#[], #[.string ByteArray.empty, .slice none 0 0], []⟩ 8 (by kernel_rfl) (by kernel_rfl) (by kernel_rfl) (by kernel_rfl)) ?_
  intro W base args ds gs before hval0 hW hcnd _
  have hval : ∀ (j : Nat) t v, Try.f9.params[j]? = some t → args[j]? = some v → Value.okWide Try.prog W .any base t v := hval0
  have hW' := hW
  obtain ⟨p, q, hA0, hV, rfl, hfz, hnd⟩ := hW
  have hA : DataW.TrodAll enc Try.prog W 0 (fun _ => true) true Try.f9.params.toList args.toList ds p := hA0
  rw [Try.params9] at hA hval
  obtain ⟨v0, vs0, d0, ds0, p0, q0, hargs, rfl, rfl, h0, r0⟩ := trodAll_cons hA
  obtain ⟨v1, vs1, d1, ds1, p1, q1, rfl, rfl, rfl, h1, r1⟩ := trodAll_cons r0
  obtain ⟨rfl, rfl, rfl⟩ := trodAll_nil r1
  obtain rfl : args = #[v0, v1] := by cases args; simp_all
  obtain ⟨rfl, rfl⟩ := trodVars_none hV
  obtain ⟨a0, rfl, rfl, rfl, w0⟩ := open_string Try.underlying9 (hval 0 9 v0 rfl rfl) h0
  obtain ⟨a1, len1, cap1, rfl⟩ := okWide_slice Try.underlying28 (hval 1 28 v1 rfl rfl)
  have k1 := h1
  have lt1 : ∀ x ∈ p1, x.block < W.heap.size := by obtain ⟨m, hm⟩ := k1; exact DataW.trod_lt m _ _ _ hm
  obtain ⟨z1, w1⟩ : ∃ zs, IsRow .u8 W a1 len1 cap1 zs := by
    obtain ⟨fuel, hf⟩ := h1
    rcases open_ints Try.underlying28 Try.underlying5 (by kernel_rfl) hf with ⟨hcs, _⟩ | ⟨x, l, c, zs, hcs, _, hl, hm, hz, _, hcell, hwz⟩
    · simp [Value.cells] at hcs
      obtain ⟨rfl, rfl, rfl⟩ := hcs
      exact ⟨[], .inl ⟨rfl, rfl, rfl, rfl⟩⟩
    · simp [Value.cells] at hcs
      obtain ⟨rfl, rfl, rfl⟩ := hcs
      exact ⟨zs, .inr ⟨_, rfl, hl, hm, by simpa using hz, hcell, hwz⟩⟩
  clear hA0 hval0
  refine (walk a0 a1 len1 cap1 z1 W w0 w1).mono fun e W' ⟨he, bel⟩ => ?_
  subst he
  exact ⟨_, rfl, _, _, _, [], _, [], hW', trodAll_mk1 (shut_bool Try.underlying4 _), (trodAll_cons_mk (shut_string Try.underlying9 w0) (trodAll_cons_mk (Below.trod laidOut (by kernel_rfl) (of_decide_eq_true (by kernel_rfl)) k1 bel lt1) trodAll_mk0)), rfl, bel.frame _, fun h => by cases h⟩

theorem over : Rows.diskNoneRow.holds Try.pinned (OpenSpec.ofChange Rows.diskNoneSpec) :=
  OpenClaim.holds_of_wide 9 Try.f9 rfl rfl rfl rfl rfl rfl rfl ⟨rfl, rfl, rfl, rfl, rfl⟩ rfl rfl rfl rfl rfl (by kernel_rfl) Try.func9 (by kernel_rfl)
    (of_decide_eq_true (by kernel_rfl)) (by unfold Func.isWrapper; first | (rw [if_pos (by decide +kernel)]; kernel_rfl) | (rw [if_neg (by decide +kernel)]; exact ⟨rfl, rfl⟩))
    (fun os started H enc _ => lifted os started H enc)

/-- ████ THE STATEMENT ████ -/
theorem proved : Rows.DiskNoneSaid := over
#print axioms proved
end Go.Proofs.Ytahhokhhgamelaa.diskNone
