/-
  Records held against each other: Before, Less, ahead, sound. A lemma file: no statement of the seat is proved here.
-/
import Derived.Test.YtbppjbdcgcmjiaaGMem
namespace Go.Proofs.Ytbppjbdcgcmjiaa.G
open Go.RowKit

set_option maxRecDepth 100000 in
set_option maxHeartbeats 1000000 in
theorem before_any (x1 x2 x3 y1 y2 y3 : Int) (w : World) :
    Calls Try.prog 80 #[.agg #[.int .u64 x1, .int .u64 x2, .int .i64 x3], .agg #[.int .u64 y1, .int .u64 y2, .int .i64 y3]] w fun e w' => e = .returned (.bool (ltR (x1, x2, x3) (y1, y2, y3))) ∧ Below w.heap.size w w' := by
  have hb0 : Below w.heap.size w ((w.alloc (.cells #[.int .u64 x1, .int .u64 x2, .int .i64 x3] 61)).alloc (.cells #[.int .u64 y1, .int .u64 y2, .int .i64 y3] 61)) := ((Below.refl _ w).alloc (Nat.le_refl _) _).alloc (by simp) _
  have HB0 := hide hb0
  clear hb0
  go_enter Try.func80, Try.ntmps80
  by_cases h1 : x1 = y1
  · subst h1
    by_cases h2 : x2 = y2
    · subst h2
      go_wp2
      all_goals
        go_ret
        refine ⟨?_, HB0.out⟩
        simp only [Ending.returned.injEq, ltR]
        simp [*]
    · go_wp2_with fail
      refine (Go.Proofs.Ytbppjbdcgcmjiaa.before_any x1 x2 x1 y2 _).mono ?_
      rintro e w2 ⟨rfl, b2⟩
      have B2 := hide b2
      clear b2
      go_wp2
      go_ret
      refine ⟨?_, HB0.out.trans (B2.out.mono (by simp; omega))⟩
      simp only [Ending.returned.injEq, ltR, Go.Proofs.Ytbppjbdcgcmjiaa.ltR]
      simp [h2]
  · go_wp2_with fail
    refine (Go.Proofs.Ytbppjbdcgcmjiaa.before_any x1 x2 y1 y2 _).mono ?_
    rintro e w2 ⟨rfl, b2⟩
    have B2 := hide b2
    clear b2
    go_wp2
    go_ret
    refine ⟨?_, HB0.out.trans (B2.out.mono (by simp; omega))⟩
    simp only [Ending.returned.injEq, ltR, Go.Proofs.Ytbppjbdcgcmjiaa.ltR]
    simp [h1]

theorem idle_ahead (p : Addr) (w : World) :
    CallsD Try.prog 62 #[.pointer (some p)] .returning w fun e u' w' => e = .returned (.tuple #[]) ∧ u' = .returning ∧ w' = w := by
  refine callsD_of_wpS Try.func62 rfl fun c₀ cs hu => ?_
  apply wpS_seq
  apply wpS_region
  simp [wpOpsS, go_sem, recoverD, hu, Try.ntmps62, Exit.thenS]
  refine wpS_cond (t := false) (by simp [Act.eval, Array.replicate]) ?_
  simp only [Bool.false_eq_true, if_false]
  refine wpS_of_wp (wp_skip ?_)
  cases c₀
  simp_all [bodyPostS, results, Try.results62]

theorem idle_sound (p : Addr) (w : World) :
    CallsD Try.prog 55 #[.pointer (some p)] .returning w fun e u' w' => e = .returned (.tuple #[]) ∧ u' = .returning ∧ w' = w := by
  refine callsD_of_wpS Try.func55 rfl fun c₀ cs hu => ?_
  apply wpS_seq
  apply wpS_region
  simp [wpOpsS, go_sem, recoverD, hu, Try.ntmps55, Exit.thenS]
  refine wpS_cond (t := false) (by simp [Act.eval, Array.replicate]) ?_
  simp only [Bool.false_eq_true, if_false]
  refine wpS_of_wp (wp_skip ?_)
  cases c₀
  simp_all [bodyPostS, results, Try.results55]

theorem method_any (x1 x2 x3 : Int) (w : World) : (method 210 61 (.agg #[.int .u64 x1, .int .u64 x2, .int .i64 x3]) "Before").run Try.prog w = .ok (80, .agg #[.int .u64 x1, .int .u64 x2, .int .i64 x3]) w := by
  kernel_rfl

theorem ahead_any (x1 x2 x3 y1 y2 y3 : Int) (w : World) :
    Calls Try.prog 56 #[.agg #[.int .u64 x1, .int .u64 x2, .int .i64 x3], .agg #[.int .u64 y1, .int .u64 y2, .int .i64 y3]] w fun e w' => e = .returned (.bool (ltR (x1, x2, x3) (y1, y2, y3))) ∧ Below w.heap.size w w' := by
  have hmf : ∀ (fn : Fn) (first cap : Array Value) (w : World), (Instr.makeFunc fn first cap).run Try.prog w = .ok (.func fn first cap) w := fun _ _ _ _ => rfl
  have hmm := method_any
  go_enter_defers Try.func56, Try.ntmps56
  go_wp2_with fail
  refine (before_any x1 x2 x3 y1 y2 y3 _).mono ?_
  rintro e w2 ⟨rfl, b2⟩
  have e3 := heap_alloc_new ((w.alloc (.cells #[.int .u64 x1, .int .u64 x2, .int .i64 x3] 61)).alloc (.cells #[.int .u64 y1, .int .u64 y2, .int .i64 y3] 61)) (.cells #[.bool false] 4)
  rw [World.size_alloc, World.size_alloc] at e3
  have e4 := (b2.block (w.heap.size + 1 + 1) (by rw [World.size_alloc, World.size_alloc, World.size_alloc]; omega)).trans e3
  have hp : w2.cell? ⟨w.heap.size + 1 + 1, 0, none⟩ = some (.bool false) := cell_of_heap e4 0
  have hf : w2.frozen? ⟨w.heap.size + 1 + 1, 0, none⟩ = false := frozen_of_heap e4 0
  clear e3 e4
  have B2 := hide b2
  clear b2
  go_wp2
  refine leaves_cons (f := 62) (args := #[.pointer (some ⟨w.heap.size + 1 + 1, 0, none⟩)]) (by simp) (by simp [go_sem]) ?_
  refine (idle_ahead ⟨w.heap.size + 1 + 1, 0, none⟩ _).mono ?_
  rintro e u' w'' ⟨rfl, rfl, rfl⟩
  have hb : Below w.heap.size w (w2.setCell ⟨w.heap.size + 1 + 1, 0, none⟩ (.bool (ltR (x1, x2, x3) (y1, y2, y3)))) := (((((Below.refl _ w).alloc (Nat.le_refl _) _).alloc (by simp) _).alloc (by simp; omega) _).trans (B2.out.mono (by simp; omega))).setCell (by simp; omega) _
  simpa [Leaves, settle, results, Try.results56, go_sem, hp] using hb

theorem sound_any (x1 x2 x3 : Int) (w : World) :
    Calls Try.prog 40 #[.agg #[.int .u64 x1, .int .u64 x2, .int .i64 x3]] w fun e w' => e = .returned (.bool true) ∧ Below w.heap.size w w' := by
  have hmf : ∀ (fn : Fn) (first cap : Array Value) (w : World), (Instr.makeFunc fn first cap).run Try.prog w = .ok (.func fn first cap) w := fun _ _ _ _ => rfl
  have hmm := method_any
  go_enter_defers Try.func40, Try.ntmps40
  go_wp2_with fail
  refine (before_any x1 x2 x3 x1 x2 x3 _).mono ?_
  rintro e w2 ⟨rfl, b2⟩
  have hp : w2.cell? ⟨w.heap.size + 1, 0, none⟩ = some (.bool false) := (b2.cell (p := ⟨w.heap.size + 1, 0, none⟩) (by show w.heap.size + 1 < _; simp)).trans (by simp)
  have hf : w2.frozen? ⟨w.heap.size + 1, 0, none⟩ = false := (World.frozen?_of_block (b2.block (w.heap.size + 1) (by simp))).trans (by simp)
  have B2 := hide b2
  clear b2
  go_wp2
  refine leaves_cons (f := 55) (args := #[.pointer (some ⟨w.heap.size + 1, 0, none⟩)]) (by simp) (by simp [go_sem]) ?_
  refine (idle_sound ⟨w.heap.size + 1, 0, none⟩ _).mono ?_
  rintro e u' w'' ⟨rfl, rfl, rfl⟩
  have hb : Below w.heap.size w (w2.setCell ⟨w.heap.size + 1, 0, none⟩ (.bool true)) := ((((Below.refl _ w).alloc (Nat.le_refl _) _).alloc (by simp) _).trans (B2.out.mono (by simp; omega))).setCell (by simp) _
  simpa [Leaves, settle, results, Try.results40, go_sem, hp] using hb

end Go.Proofs.Ytbppjbdcgcmjiaa.G
