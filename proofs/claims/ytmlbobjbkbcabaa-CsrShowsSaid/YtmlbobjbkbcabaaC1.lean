/- The walks of CsrMay, CsrReads, CsrWrites. -/
import Derived.Test.YtmlbobjbkbcabaaF1
namespace Go.Proofs.Ytmlbobjbkbcabaa
open Go.ChangeShapes Go.WideShapes Go.ChangeAt Go.RowKit Go.Sort P
set_option linter.unusedVariables false
set_option linter.unusedSimpArgs false
set_option maxRecDepth 100000 in
theorem may_core (S : Nat → Nat) (mode n : Int) (write : Bool) (X : Bool) (h1 : Hid (∀ u, Calls Try.prog 12 #[.agg (cs S), .int .i64 mode, .int .i64 n, .bool write] u (RetB X u))) (h2 : Hid (∀ u, Calls Try.prog 13 #[.agg (cs S), .int .i64 mode, .int .i64 n, .bool write] u (RetB X u))) (w : World) :
    Calls Try.prog 3 #[.agg (cs S), .int .i64 mode, .int .i64 n, .bool write] w (RetB true w) := by
  obtain ⟨W0, hW⟩ : ∃ W0, W0 = w.alloc (Obj.cells (cs S) 26) := ⟨_, rfl⟩
  have R : Hid (Row W0 w.heap.size 26 (cs S)) := by show Row _ _ _ _; rw [hW]; exact row_new _ _ _
  have HB : Hid (Below w.heap.size w W0) := by show Below _ _ _; rw [hW]; exact (by repeat (first | (with_reducible first | exact Below.refl _ _ | assumption | exact Nat.le_refl _ | refine Below.drew ?_ | refine Below.alloc ?_ ?_ _ | refine Below.setCell ?_ ?_ _ | refine le_alloc ?_ | refine le_set ?_ | refine le_drew ?_ | refine below_step (by assumption) ?_ ?_ | refine le_below (by assumption) ?_) | (dsimp only; omega)))
  have q0 := fun dd os => q_b (w := W0) (dd := dd) (os := os) (awake_c _)
  have q1 := fun dd os => q_b (w := W0) (dd := dd) (os := os) (h1.out _)
  have q2 := fun dd os => q_b (w := W0) (dd := dd) (os := os) (h2.out _)
  have HW := Lib.hid hW
  clear hW
  go_enter Try.func3, Try.ntmps3
  go_wp2_with fail
  rw [show w.alloc (Obj.cells (cs S) 26) = W0 from HW.out.symm]
  refine wp_region_quiet_below (by kernel_rfl) (by kernel_rfl) ?_
  repeat (first
    | go_big_quiet_skip
    | (go_big_quiet_want; first
        | (refine quiet_load_row 26 _ rfl w.heap.size rfl 26 (cs S) _ R.out Try.underlying26 rfl (infoS _) ?_; simp only [Act.put, List.setIfInBounds_toArray, List.set_cons_succ, List.set_cons_zero]; go_big_quiet_on)
        | (go_big_quiet_op; first | go_big_quiet_on | go_big_quiet_call ((first | (go_at_call 11; exact q0 _ _) | (go_at_call 12; exact q1 _ _) | (go_at_call 13; exact q2 _ _))))))
  refine wpQuiet_nil ?_
  intro _ hw'
  obtain ⟨⟨dq, osq⟩, hw''⟩ := hw'
  subst hw''
  have hb := below_regrown W0 dq osq
  replace HB := Lib.hid (below_step hb HB.out HB.out.size)
  generalize grow (redrawn W0 dq) osq = w5 at hb HB ⊢
  clear hb q0 q1 q2
  go_wp2_with fail
  go_ret
  exact retB_mk (by cases X <;> rfl) HB.out
set_option maxRecDepth 100000 in
theorem reads_core (S : Nat → Nat) (n : Int) (lines now X : Nat) (h1 : Hid (∀ u, Calls Try.prog 14 #[.agg (cs S), .int .i64 n, .int .u64 lines, .int .u64 now] u (RetU X u))) (h2 : Hid (∀ u, Calls Try.prog 15 #[.agg (cs S), .int .i64 n, .int .u64 lines, .int .u64 now] u (RetU X u))) (w : World) :
    Calls Try.prog 4 #[.agg (cs S), .int .i64 n, .int .u64 lines, .int .u64 now] w (RetB true w) := by
  obtain ⟨W0, hW⟩ : ∃ W0, W0 = w.alloc (Obj.cells (cs S) 26) := ⟨_, rfl⟩
  have R : Hid (Row W0 w.heap.size 26 (cs S)) := by show Row _ _ _ _; rw [hW]; exact row_new _ _ _
  have HB : Hid (Below w.heap.size w W0) := by show Below _ _ _; rw [hW]; exact (by repeat (first | (with_reducible first | exact Below.refl _ _ | assumption | exact Nat.le_refl _ | refine Below.drew ?_ | refine Below.alloc ?_ ?_ _ | refine Below.setCell ?_ ?_ _ | refine le_alloc ?_ | refine le_set ?_ | refine le_drew ?_ | refine below_step (by assumption) ?_ ?_ | refine le_below (by assumption) ?_) | (dsimp only; omega)))
  have q0 := fun dd os => q_b (w := W0) (dd := dd) (os := os) (awake_c _)
  have q1 := fun dd os => q_u (w := W0) (dd := dd) (os := os) (h1.out _)
  have q2 := fun dd os => q_u (w := W0) (dd := dd) (os := os) (h2.out _)
  have HW := Lib.hid hW
  clear hW
  go_enter Try.func4, Try.ntmps4
  go_wp2_with fail
  rw [show w.alloc (Obj.cells (cs S) 26) = W0 from HW.out.symm]
  refine wp_region_quiet_below (by kernel_rfl) (by kernel_rfl) ?_
  repeat (first
    | go_big_quiet_skip
    | (go_big_quiet_want; first
        | (refine quiet_load_row 26 _ rfl w.heap.size rfl 26 (cs S) _ R.out Try.underlying26 rfl (infoS _) ?_; simp only [Act.put, List.setIfInBounds_toArray, List.set_cons_succ, List.set_cons_zero]; go_big_quiet_on)
        | (go_big_quiet_op; first | go_big_quiet_on | go_big_quiet_call ((first | (go_at_call 11; exact q0 _ _) | (go_at_call 14; exact q1 _ _) | (go_at_call 15; exact q2 _ _))))))
  refine wpQuiet_nil ?_
  intro _ hw'
  obtain ⟨⟨dq, osq⟩, hw''⟩ := hw'
  subst hw''
  have hb := below_regrown W0 dq osq
  replace HB := Lib.hid (below_step hb HB.out HB.out.size)
  generalize grow (redrawn W0 dq) osq = w5 at hb HB ⊢
  clear hb q0 q1 q2
  go_wp2_with fail
  go_ret
  exact retB_mk (by first | rfl | simp) HB.out
set_option maxRecDepth 100000 in
theorem writes_core (S : Nat → Nat) (n : Int) (v : Nat) (T : Nat → Nat) (h1 : Hid (∀ u, Calls Try.prog 18 #[.agg (cs S), .int .i64 n, .int .u64 v] u (RetS T u))) (h2 : Hid (∀ u, Calls Try.prog 19 #[.agg (cs S), .int .i64 n, .int .u64 v] u (RetS T u))) (w : World) :
    Calls Try.prog 5 #[.agg (cs S), .int .i64 n, .int .u64 v] w (RetB true w) := by
  obtain ⟨W0, hW⟩ : ∃ W0, W0 = w.alloc (Obj.cells (cs S) 26) := ⟨_, rfl⟩
  have R : Hid (Row W0 w.heap.size 26 (cs S)) := by show Row _ _ _ _; rw [hW]; exact row_new _ _ _
  have HB : Hid (Below w.heap.size w W0) := by show Below _ _ _; rw [hW]; exact (by repeat (first | (with_reducible first | exact Below.refl _ _ | assumption | exact Nat.le_refl _ | refine Below.drew ?_ | refine Below.alloc ?_ ?_ _ | refine Below.setCell ?_ ?_ _ | refine le_alloc ?_ | refine le_set ?_ | refine le_drew ?_ | refine below_step (by assumption) ?_ ?_ | refine le_below (by assumption) ?_) | (dsimp only; omega)))
  have q0 := fun dd os => q_b (w := W0) (dd := dd) (os := os) (awake_c _)
  have q1 := fun dd os => q_S (w := W0) (dd := dd) (os := os) (h1.out _)
  have q2 := fun dd os => q_S (w := W0) (dd := dd) (os := os) (h2.out _)
  have q3 := fun dd os => q_S (w := W0) (dd := dd) (os := os) (reset_c _)
  have q4 := fun dd os => q_S (w := W0) (dd := dd) (os := os) (resetr_c _)
  have HW := Lib.hid hW
  clear hW
  go_enter Try.func5, Try.ntmps5
  go_wp2_with fail
  rw [show w.alloc (Obj.cells (cs S) 26) = W0 from HW.out.symm]
  refine wp_region_quiet_below (by kernel_rfl) (by kernel_rfl) ?_
  repeat (first
    | go_big_quiet_skip
    | (go_big_quiet_want; first
        | (refine quiet_load_row 26 _ rfl w.heap.size rfl 26 (cs S) _ R.out Try.underlying26 rfl (infoS _) ?_; simp only [Act.put, List.setIfInBounds_toArray, List.set_cons_succ, List.set_cons_zero]; go_big_quiet_on)
        | (refine quiet_eq_cs _ _ _ rfl T rfl rfl ?_; simp only [Act.put, List.setIfInBounds_toArray, List.set_cons_succ, List.set_cons_zero]; go_big_quiet_on)
        | (refine quiet_eq_cs _ _ _ rfl rstF rfl rfl ?_; simp only [Act.put, List.setIfInBounds_toArray, List.set_cons_succ, List.set_cons_zero]; go_big_quiet_on)
        | (go_big_quiet_op; first | go_big_quiet_on | go_big_quiet_call ((first | (go_at_call 11; exact q0 _ _) | (go_at_call 18; exact q1 _ _) | (go_at_call 19; exact q2 _ _) | (go_at_call 16; exact q3 _ _) | (go_at_call 17; exact q4 _ _))))))
  refine wpQuiet_nil ?_
  intro _ hw'
  obtain ⟨⟨dq, osq⟩, hw''⟩ := hw'
  subst hw''
  have hb := below_regrown W0 dq osq
  replace HB := Lib.hid (below_step hb HB.out HB.out.size)
  generalize grow (redrawn W0 dq) osq = w5 at hb HB ⊢
  clear hb q0 q1 q2 q3 q4
  go_wp2_with fail
  go_ret
  exact retB_mk (by rfl) HB.out
end Go.Proofs.Ytmlbobjbkbcabaa
