/- The walks of PmpRanges, PmpChecks, PmpWrites. -/
import Derived.Test.YtjkpcmhepeekmaaDoorC0
import Derived.Deep.DeepCutAuto
namespace Go.Proofs.YtjkpcmhepeekmaaDoor
open Go.ChangeShapes Go.WideShapes Go.ChangeAt Go.RowKit Go.Sort
set_option linter.unusedVariables false
set_option linter.unusedSimpArgs false
/-- The world in which a law's arrays stand. -/
def boxed (w : World) (c a : Nat → Nat) : World := (w.alloc (Obj.cells (u8s c) 22)).alloc (Obj.cells (u64s a) 24)
theorem boxed_c (w : World) (c a : Nat → Nat) : Row (boxed w c a) w.heap.size 22 (u8s c) := row_old (row_new _ _ _) _
theorem boxed_a (w : World) (c a : Nat → Nat) : Row (boxed w c a) (w.heap.size + 1) 24 (u64s a) := by
  have := row_new (w.alloc (Obj.cells (u8s c) 22)) (u64s a) 24
  rw [sz_alloc] at this; exact this
theorem boxed_below (w : World) (c a : Nat → Nat) : Below w.heap.size w (boxed w c a) := by unfold boxed; exact (by repeat (first | (with_reducible first | exact Below.refl _ _ | assumption | exact Nat.le_refl _ | refine Below.drew ?_ | refine Below.alloc ?_ ?_ _ | refine Below.setCell ?_ ?_ _ | refine le_alloc ?_ | refine le_set ?_ | refine le_drew ?_ | refine below_step (by assumption) ?_ ?_ | refine le_below (by assumption) ?_) | (dsimp only; omega)))
theorem boxed_size (w : World) (c a : Nat → Nat) : (boxed w c a).heap.size = w.heap.size + 2 := by unfold boxed; simp only [sz_alloc]
theorem boxed_g {w : World} (h : G w) (c a : Nat → Nat) : G (boxed w c a) := g_alloc (g_alloc h _) _

set_option maxRecDepth 100000 in
theorem ranges_core (c a : Nat → Nat) (n : Int) (A B : Nat) (K : Bool) (h1 : Hid (∀ v, Hid (G v) → Calls Tryd.prog 8 #[.agg (u8s c), .agg (u64s a), .int .i64 n] v (RetR A B K v)))
    (h2 : Hid (∀ v, Calls Tryd.prog 9 #[.agg (u8s c), .agg (u64s a), .int .i64 n] v (RetR A B K v))) (w : World) (hG : Hid (G w)) :
    Calls Tryd.prog 3 #[.agg (u8s c), .agg (u64s a), .int .i64 n] w (RetB true w) := by
  have RC := Lib.hid (boxed_c w c a)
  have RA := Lib.hid (boxed_a w c a)
  have HB := Lib.hid (boxed_below w c a)
  have HG := Lib.hid (boxed_g hG.out c a)
  have HS : Hid (w.heap.size + 2 ≤ (boxed w c a).heap.size) := by show _ ≤ _; rw [boxed_size]; exact Nat.le_refl _
  go_enter Tryd.func3, Tryd.ntmps3
  go_wp2_with (first
      | (refine wpList_load_row rfl 22 _ rfl w.heap.size rfl 22 (u8s c) (0, 0) _ RC.out Tryd.underlying22 rfl (info8c c) ?_)
      | (refine wpList_load_row rfl 24 _ rfl (w.heap.size + 1) rfl 24 (u64s a) (0, 0) _ RA.out Tryd.underlying24 rfl (info8a a) ?_))
  refine (h1.out _ HG).mono ?_; rintro e w1 ⟨rfl, hb⟩
  replace RC := Lib.hid (RC.out.below hb (by have := HS.out; omega))
  replace RA := Lib.hid (RA.out.below hb (by have := HS.out; omega))
  replace HB := Lib.hid (below_step hb HB.out HB.out.size)
  replace HG := Lib.hid (g_below HG.out hb HG.out.1)
  replace HS : Hid (w.heap.size + 2 ≤ w1.heap.size) := Nat.le_trans HS.out hb.size
  clear hb
  go_wp2_with (first
      | (refine wpList_load_row rfl 22 _ rfl w.heap.size rfl 22 (u8s c) (0, 0) _ RC.out Tryd.underlying22 rfl (info8c c) ?_)
      | (refine wpList_load_row rfl 24 _ rfl (w.heap.size + 1) rfl 24 (u64s a) (0, 0) _ RA.out Tryd.underlying24 rfl (info8a a) ?_))
  refine (h2.out _).mono ?_; rintro e w2 ⟨rfl, hb⟩
  replace RC := Lib.hid (RC.out.below hb (by have := HS.out; omega))
  replace RA := Lib.hid (RA.out.below hb (by have := HS.out; omega))
  replace HB := Lib.hid (below_step hb HB.out HB.out.size)
  replace HG := Lib.hid (g_below HG.out hb HG.out.1)
  replace HS : Hid (w.heap.size + 2 ≤ w2.heap.size) := Nat.le_trans HS.out hb.size
  clear hb
  go_wp2_with fail
  refine (fixed_c _ HG).mono ?_; rintro e w3 ⟨rfl, hb⟩
  replace RC := Lib.hid (RC.out.below hb (by have := HS.out; omega))
  replace RA := Lib.hid (RA.out.below hb (by have := HS.out; omega))
  replace HB := Lib.hid (below_step hb HB.out HB.out.size)
  replace HG := Lib.hid (g_below HG.out hb HG.out.1)
  replace HS : Hid (w.heap.size + 2 ≤ w3.heap.size) := Nat.le_trans HS.out hb.size
  clear hb
  go_wp2_with fail
  go_ret
  exact retB_mk rfl HB.out

set_option maxRecDepth 100000 in
theorem checks_core (c a : Nat → Nat) (mode kind : Int) (x : Nat) (size : Int) (R : Bool) (h1 : Hid (∀ v, Hid (G v) → Calls Tryd.prog 11 #[.agg (u8s c), .agg (u64s a), .int .i64 mode, .int .i64 kind, .int .u64 x, .int .i64 size] v (RetB R v)))
    (h2 : Hid (∀ v, Calls Tryd.prog 12 #[.agg (u8s c), .agg (u64s a), .int .i64 mode, .int .i64 kind, .int .u64 x, .int .i64 size] v (RetB R v))) (w : World) (hG : Hid (G w)) :
    Calls Tryd.prog 4 #[.agg (u8s c), .agg (u64s a), .int .i64 mode, .int .i64 kind, .int .u64 x, .int .i64 size] w (RetB true w) := by
  have RC := Lib.hid (boxed_c w c a)
  have RA := Lib.hid (boxed_a w c a)
  have HB := Lib.hid (boxed_below w c a)
  have HG := Lib.hid (boxed_g hG.out c a)
  have HS : Hid (w.heap.size + 2 ≤ (boxed w c a).heap.size) := by show _ ≤ _; rw [boxed_size]; exact Nat.le_refl _
  obtain ⟨W0, hW⟩ : ∃ W0, W0 = boxed w c a := ⟨_, rfl⟩
  rw [← hW] at RC RA HB HG HS
  have q0 : ∀ dd os, Calls Tryd.prog 10 #[] (grow (redrawn W0 dd) os) fun e w'' => e = .returned (.bool true) ∧ ∃ p : Regrown, w'' = grow (redrawn W0 p.d) p.os := fun dd os => q_b (fixed_c _ (g_regrown HG.out dd os))
  have q1 : ∀ dd os, Calls Tryd.prog 11 #[.agg (u8s c), .agg (u64s a), .int .i64 mode, .int .i64 kind, .int .u64 x, .int .i64 size] (grow (redrawn W0 dd) os) fun e w'' => e = .returned (.bool R) ∧ ∃ p : Regrown, w'' = grow (redrawn W0 p.d) p.os := fun dd os => q_b (h1.out _ (g_regrown HG.out dd os))
  have q2 : ∀ dd os, Calls Tryd.prog 12 #[.agg (u8s c), .agg (u64s a), .int .i64 mode, .int .i64 kind, .int .u64 x, .int .i64 size] (grow (redrawn W0 dd) os) fun e w'' => e = .returned (.bool R) ∧ ∃ p : Regrown, w'' = grow (redrawn W0 p.d) p.os := fun dd os => q_b (h2.out _)
  have HW := Lib.hid hW
  clear hW
  go_enter Tryd.func4, Tryd.ntmps4
  go_wp2_with fail
  rw [show (w.alloc (Obj.cells (u8s c) 22)).alloc (Obj.cells (u64s a) 24) = W0 from HW.out.symm]
  refine wp_region_quiet_below (by kernel_rfl) (by kernel_rfl) ?_
  repeat (first
    | go_big_quiet_skip
    | (go_big_quiet_want; first
        | (refine quiet_load_row 22 _ rfl w.heap.size rfl 22 (u8s c) _ RC.out Tryd.underlying22 rfl (info8c c) ?_; simp only [Act.put, List.setIfInBounds_toArray, List.set_cons_succ, List.set_cons_zero]; go_big_quiet_on)
        | (refine quiet_load_row 24 _ rfl (w.heap.size + 1) rfl 24 (u64s a) _ RA.out Tryd.underlying24 rfl (info8a a) ?_; simp only [Act.put, List.setIfInBounds_toArray, List.set_cons_succ, List.set_cons_zero]; go_big_quiet_on)
        | (go_big_quiet_op; first | go_big_quiet_on | go_big_quiet_call ((first | (go_at_call 10; exact q0 _ _) | (go_at_call 11; exact q1 _ _) | (go_at_call 12; exact q2 _ _))))))
  refine wpQuiet_nil ?_
  intro _ hw'
  obtain ⟨⟨dq, osq⟩, hw''⟩ := hw'
  subst hw''
  have hb := below_regrown W0 dq osq
  replace HB := Lib.hid (below_step hb HB.out HB.out.size)
  generalize grow (redrawn W0 dq) osq = w5 at hb HB ⊢
  clear q0 q1 q2 hb
  go_wp2_with fail
  go_ret
  exact retB_mk (by cases R <;> rfl) HB.out

set_option maxRecDepth 100000 in
theorem writes_core (c a f g : Nat → Nat) (n : Int) (v : Nat) (h1 : Hid (∀ u, Calls Tryd.prog 13 #[.agg (u8s c), .int .u64 v] u (RetA (u8s f) u))) (h2 : Hid (∀ u, Calls Tryd.prog 14 #[.agg (u8s c), .int .u64 v] u (RetA (u8s f) u)))
    (h3 : Hid (∀ u, Calls Tryd.prog 15 #[.agg (u8s c), .agg (u64s a), .int .i64 n, .int .u64 v] u (RetA (u64s g) u))) (h4 : Hid (∀ u, Calls Tryd.prog 16 #[.agg (u8s c), .agg (u64s a), .int .i64 n, .int .u64 v] u (RetA (u64s g) u))) (w : World) (hG : Hid (G w)) :
    Calls Tryd.prog 5 #[.agg (u8s c), .agg (u64s a), .int .i64 n, .int .u64 v] w (RetB true w) := by
  have RC := Lib.hid (boxed_c w c a)
  have RA := Lib.hid (boxed_a w c a)
  have HB := Lib.hid (boxed_below w c a)
  have HG := Lib.hid (boxed_g hG.out c a)
  have HS : Hid (w.heap.size + 2 ≤ (boxed w c a).heap.size) := by show _ ≤ _; rw [boxed_size]; exact Nat.le_refl _
  obtain ⟨W0, hW⟩ : ∃ W0, W0 = boxed w c a := ⟨_, rfl⟩
  rw [← hW] at RC RA HB HG HS
  have q0 : ∀ dd os, Calls Tryd.prog 10 #[] (grow (redrawn W0 dd) os) fun e w'' => e = .returned (.bool true) ∧ ∃ p : Regrown, w'' = grow (redrawn W0 p.d) p.os := fun dd os => q_b (fixed_c _ (g_regrown HG.out dd os))
  have q1 : ∀ dd os, Calls Tryd.prog 13 #[.agg (u8s c), .int .u64 v] (grow (redrawn W0 dd) os) fun e w'' => e = .returned (.agg (u8s f)) ∧ ∃ p : Regrown, w'' = grow (redrawn W0 p.d) p.os := fun dd os => q_a (h1.out _)
  have q2 : ∀ dd os, Calls Tryd.prog 14 #[.agg (u8s c), .int .u64 v] (grow (redrawn W0 dd) os) fun e w'' => e = .returned (.agg (u8s f)) ∧ ∃ p : Regrown, w'' = grow (redrawn W0 p.d) p.os := fun dd os => q_a (h2.out _)
  have q3 : ∀ dd os, Calls Tryd.prog 15 #[.agg (u8s c), .agg (u64s a), .int .i64 n, .int .u64 v] (grow (redrawn W0 dd) os) fun e w'' => e = .returned (.agg (u64s g)) ∧ ∃ p : Regrown, w'' = grow (redrawn W0 p.d) p.os := fun dd os => q_a (h3.out _)
  have q4 : ∀ dd os, Calls Tryd.prog 16 #[.agg (u8s c), .agg (u64s a), .int .i64 n, .int .u64 v] (grow (redrawn W0 dd) os) fun e w'' => e = .returned (.agg (u64s g)) ∧ ∃ p : Regrown, w'' = grow (redrawn W0 p.d) p.os := fun dd os => q_a (h4.out _)
  have HW := Lib.hid hW
  clear hW
  go_enter Tryd.func5, Tryd.ntmps5
  go_wp2_with fail
  rw [show (w.alloc (Obj.cells (u8s c) 22)).alloc (Obj.cells (u64s a) 24) = W0 from HW.out.symm]
  refine wp_region_quiet_below (by kernel_rfl) (by kernel_rfl) ?_
  repeat (first
    | go_big_quiet_skip
    | (go_big_quiet_want; first
        | (refine quiet_load_row 22 _ rfl w.heap.size rfl 22 (u8s c) _ RC.out Tryd.underlying22 rfl (info8c c) ?_; simp only [Act.put, List.setIfInBounds_toArray, List.set_cons_succ, List.set_cons_zero]; go_big_quiet_on)
        | (refine quiet_load_row 24 _ rfl (w.heap.size + 1) rfl 24 (u64s a) _ RA.out Tryd.underlying24 rfl (info8a a) ?_; simp only [Act.put, List.setIfInBounds_toArray, List.set_cons_succ, List.set_cons_zero]; go_big_quiet_on)
        | (refine quiet_eq_u8s _ _ _ rfl f rfl rfl ?_; simp only [Act.put, List.setIfInBounds_toArray, List.set_cons_succ, List.set_cons_zero]; go_big_quiet_on)
        | (refine quiet_eq_u64s _ _ _ rfl g rfl rfl ?_; simp only [Act.put, List.setIfInBounds_toArray, List.set_cons_succ, List.set_cons_zero]; go_big_quiet_on)
        | (go_big_quiet_op; first | go_big_quiet_on | go_big_quiet_call ((first | (go_at_call 10; exact q0 _ _) | (go_at_call 13; exact q1 _ _) | (go_at_call 14; exact q2 _ _) | (go_at_call 15; exact q3 _ _) | (go_at_call 16; exact q4 _ _))))))
  refine wpQuiet_nil ?_
  intro _ hw'
  obtain ⟨⟨dq, osq⟩, hw''⟩ := hw'
  subst hw''
  have hb := below_regrown W0 dq osq
  replace HB := Lib.hid (below_step hb HB.out HB.out.size)
  generalize grow (redrawn W0 dq) osq = w5 at hb HB ⊢
  clear q0 q1 q2 q3 q4 hb
  go_wp2_with fail
  go_ret
  exact retB_mk rfl HB.out
end Go.Proofs.YtjkpcmhepeekmaaDoor
