/- The contracts of writeNames and readNames, for the rows' ways to name registers. -/
import Derived.Test.YtcfeeookjgdkmaaDoorB2
import Derived.LoopN
namespace Go.Proofs.YtcfeeookjgdkmaaDoor
open Go.ChangeShapes Go.WideShapes Go.ChangeAt Go.RowKit
set_option linter.unusedVariables false
set_option linter.unusedSimpArgs false

theorem writeNames_0 (h : Nat) (hh : Hid (h < 65536)) (w : World) (hG : Hid (G w)) : Calls Tryd.prog 37 #[.int .u8 0, .int .u16 h] w (RetU (wnF 0 h) w) := by
  have e0 : (h : Int) % 4294967296 = (h : Int) := by have := hh.out; omega
  have hx : Hid (h < 4294967296) := by have := hh.out; show _ < _; omega
  have s1 : 1 < w.heap.size := by have := hG.out.1; omega
  have s2 : ¬ 1 = w.heap.size := by omega
  have s3 : ¬ w.heap.size = 1 := by omega
  have s4 : 1 < w.heap.size + 1 := by omega
  have s5 : ¬ 1 = w.heap.size + 1 := by omega
  have s6 : ¬ w.heap.size + 1 = 1 := by omega
  go_enter Tryd.func37, Tryd.ntmps37
  go_wp2_with fail
  refine wp_loop_rounds 1 ?_
  rw [rounds_succ]
  go_wp2_with fail
  go_ret
  have hh' := hh.out
  refine retU_mk (b := wnF 0 h) ?_ (by repeat (first | (with_reducible first | exact Below.refl _ _ | assumption | exact Nat.le_refl _ | refine Below.drew ?_ | refine Below.alloc ?_ ?_ _ | refine below_drewN ?_ _ | refine Below.setCell ?_ ?_ _ | refine le_alloc ?_ | refine le_set ?_ | refine le_drew ?_ | refine le_drewN ?_ | refine below_step (by assumption) ?_ ?_ | refine le_below (by assumption) ?_) | (dsimp only; omega)))
  rw [wnF_0]
  refine IsU.left ?_
  unfold wn0
  repeat' (first | with_reducible refine isU_or ?_ ?_ | exact ⟨by omega, by omega⟩)
theorem readNames_0 (x : Nat) (hh : Hid (x < 4294967296)) (w : World) (hG : Hid (G w)) : Calls Tryd.prog 41 #[.int .u8 0, .int .u32 x] w (RetH (rnF 0 x) w) := by
  have s1 : 1 < w.heap.size := by have := hG.out.1; omega
  have s2 : ¬ 1 = w.heap.size := by omega
  have s3 : ¬ w.heap.size = 1 := by omega
  have s4 : 1 < w.heap.size + 1 := by omega
  have s5 : ¬ 1 = w.heap.size + 1 := by omega
  have s6 : ¬ w.heap.size + 1 = 1 := by omega
  go_enter Tryd.func41, Tryd.ntmps41
  go_wp2_with fail
  refine wp_loop_rounds 1 ?_
  rw [rounds_succ]
  go_wp2_with fail
  go_ret
  have hh' := hh.out
  refine retH_mk (b := rnF 0 x) ?_ (by repeat (first | (with_reducible first | exact Below.refl _ _ | assumption | exact Nat.le_refl _ | refine Below.drew ?_ | refine Below.alloc ?_ ?_ _ | refine below_drewN ?_ _ | refine Below.setCell ?_ ?_ _ | refine le_alloc ?_ | refine le_set ?_ | refine le_drew ?_ | refine le_drewN ?_ | refine below_step (by assumption) ?_ ?_ | refine le_below (by assumption) ?_) | (dsimp only; omega)))
  rw [rnF_0]
  refine IsH.left ?_
  unfold rn0
  repeat' (first | with_reducible refine isH_or ?_ ?_ | exact ⟨by omega, by omega⟩)
theorem writeNames_1 (h : Nat) (hh : Hid (h < 65536)) (w : World) (hG : Hid (G w)) : Calls Tryd.prog 37 #[.int .u8 1, .int .u16 h] w (RetU (wnF 1 h) w) := by
  have e0 : (h : Int) % 4294967296 = (h : Int) := by have := hh.out; omega
  have hx : Hid (h < 4294967296) := by have := hh.out; show _ < _; omega
  have q1 : bits .and .u8 1 0 = 0 := by decide
  have s1 : 1 < w.heap.size := by have := hG.out.1; omega
  have s2 : ¬ 1 = w.heap.size := by omega
  have s3 : ¬ w.heap.size = 1 := by omega
  have s4 : 1 < w.heap.size + 1 := by omega
  have s5 : ¬ 1 = w.heap.size + 1 := by omega
  have s6 : ¬ w.heap.size + 1 = 1 := by omega
  obtain ⟨a0, b0, c0⟩ := g_reg hG.out 0 7 5 7 (by decide) rfl rfl rfl
  go_enter Tryd.func37, Tryd.ntmps37
  go_wp2_with fail
  refine wp_loop_rounds 2 ?_
  rw [rounds_succ]
  go_wp2_with fail
  refine (tz8_1 _).mono ?_; rintro e v0 ⟨rfl, rfl⟩
  go_wp2_with fail
  refine (field_7_5 h hx _).mono ?_; rintro e u0 ⟨rfl, rfl⟩
  go_wp2_with fail
  rw [rounds_succ]
  go_wp2_with fail
  go_ret
  have hh' := hh.out
  refine retU_mk (b := wnF 1 h) ?_ (by repeat (first | (with_reducible first | exact Below.refl _ _ | assumption | exact Nat.le_refl _ | refine Below.drew ?_ | refine Below.alloc ?_ ?_ _ | refine below_drewN ?_ _ | refine Below.setCell ?_ ?_ _ | refine le_alloc ?_ | refine le_set ?_ | refine le_drew ?_ | refine le_drewN ?_ | refine below_step (by assumption) ?_ ?_ | refine le_below (by assumption) ?_) | (dsimp only; omega)))
  rw [wnF_1]
  refine IsU.left ?_
  unfold wn1
  repeat' (first | with_reducible refine isU_or ?_ ?_ | exact ⟨by omega, by omega⟩)
theorem readNames_1 (x : Nat) (hh : Hid (x < 4294967296)) (w : World) (hG : Hid (G w)) : Calls Tryd.prog 41 #[.int .u8 1, .int .u32 x] w (RetH (rnF 1 x) w) := by
  have q1 : bits .and .u8 1 0 = 0 := by decide
  have s1 : 1 < w.heap.size := by have := hG.out.1; omega
  have s2 : ¬ 1 = w.heap.size := by omega
  have s3 : ¬ w.heap.size = 1 := by omega
  have s4 : 1 < w.heap.size + 1 := by omega
  have s5 : ¬ 1 = w.heap.size + 1 := by omega
  have s6 : ¬ w.heap.size + 1 = 1 := by omega
  obtain ⟨a0, b0, c0⟩ := g_reg hG.out 0 7 5 7 (by decide) rfl rfl rfl
  go_enter Tryd.func41, Tryd.ntmps41
  go_wp2_with fail
  refine wp_loop_rounds 2 ?_
  rw [rounds_succ]
  go_wp2_with fail
  refine (tz8_1 _).mono ?_; rintro e v0 ⟨rfl, rfl⟩
  go_wp2_with fail
  go_quiet (exact Calls.quiet_of_same ((field_7_5 x hh _).mono fun _ _ h => ⟨h.1, h.2.symm⟩))
  go_wp2_with fail
  rw [rounds_succ]
  go_wp2_with fail
  go_ret
  have hh' := hh.out
  refine retH_mk (b := rnF 1 x) ?_ (by repeat (first | (with_reducible first | exact Below.refl _ _ | assumption | exact Nat.le_refl _ | refine Below.drew ?_ | refine Below.alloc ?_ ?_ _ | refine below_drewN ?_ _ | refine Below.setCell ?_ ?_ _ | refine le_alloc ?_ | refine le_set ?_ | refine le_drew ?_ | refine le_drewN ?_ | refine below_step (by assumption) ?_ ?_ | refine le_below (by assumption) ?_) | (dsimp only; omega)))
  rw [rnF_1]
  refine IsH.left ?_
  unfold rn1
  repeat' (first | with_reducible refine isH_or ?_ ?_ | exact ⟨by omega, by omega⟩)
theorem writeNames_4 (h : Nat) (hh : Hid (h < 65536)) (w : World) (hG : Hid (G w)) : Calls Tryd.prog 37 #[.int .u8 4, .int .u16 h] w (RetU (wnF 4 h) w) := by
  have e0 : (h : Int) % 4294967296 = (h : Int) := by have := hh.out; omega
  have hx : Hid (h < 4294967296) := by have := hh.out; show _ < _; omega
  have q4 : bits .and .u8 4 3 = 0 := by decide
  have s1 : 1 < w.heap.size := by have := hG.out.1; omega
  have s2 : ¬ 1 = w.heap.size := by omega
  have s3 : ¬ w.heap.size = 1 := by omega
  have s4 : 1 < w.heap.size + 1 := by omega
  have s5 : ¬ 1 = w.heap.size + 1 := by omega
  have s6 : ¬ w.heap.size + 1 = 1 := by omega
  obtain ⟨a2, b2, c2⟩ := g_reg hG.out 2 2 3 7 (by decide) rfl rfl rfl
  go_enter Tryd.func37, Tryd.ntmps37
  go_wp2_with fail
  refine wp_loop_rounds 2 ?_
  rw [rounds_succ]
  go_wp2_with fail
  refine (tz8_4 _).mono ?_; rintro e v0 ⟨rfl, rfl⟩
  go_wp2_with fail
  refine (field_2_3 h hx _).mono ?_; rintro e u0 ⟨rfl, rfl⟩
  go_wp2_with fail
  rw [rounds_succ]
  go_wp2_with fail
  go_ret
  have hh' := hh.out
  refine retU_mk (b := wnF 4 h) ?_ (by repeat (first | (with_reducible first | exact Below.refl _ _ | assumption | exact Nat.le_refl _ | refine Below.drew ?_ | refine Below.alloc ?_ ?_ _ | refine below_drewN ?_ _ | refine Below.setCell ?_ ?_ _ | refine le_alloc ?_ | refine le_set ?_ | refine le_drew ?_ | refine le_drewN ?_ | refine below_step (by assumption) ?_ ?_ | refine le_below (by assumption) ?_) | (dsimp only; omega)))
  rw [wnF_4]
  refine IsU.left ?_
  unfold wn4
  repeat' (first | with_reducible refine isU_or ?_ ?_ | exact ⟨by omega, by omega⟩)
theorem readNames_4 (x : Nat) (hh : Hid (x < 4294967296)) (w : World) (hG : Hid (G w)) : Calls Tryd.prog 41 #[.int .u8 4, .int .u32 x] w (RetH (rnF 4 x) w) := by
  have q4 : bits .and .u8 4 3 = 0 := by decide
  have s1 : 1 < w.heap.size := by have := hG.out.1; omega
  have s2 : ¬ 1 = w.heap.size := by omega
  have s3 : ¬ w.heap.size = 1 := by omega
  have s4 : 1 < w.heap.size + 1 := by omega
  have s5 : ¬ 1 = w.heap.size + 1 := by omega
  have s6 : ¬ w.heap.size + 1 = 1 := by omega
  obtain ⟨a2, b2, c2⟩ := g_reg hG.out 2 2 3 7 (by decide) rfl rfl rfl
  go_enter Tryd.func41, Tryd.ntmps41
  go_wp2_with fail
  refine wp_loop_rounds 2 ?_
  rw [rounds_succ]
  go_wp2_with fail
  refine (tz8_4 _).mono ?_; rintro e v0 ⟨rfl, rfl⟩
  go_wp2_with fail
  go_quiet (exact Calls.quiet_of_same ((field_7_3 x hh _).mono fun _ _ h => ⟨h.1, h.2.symm⟩))
  go_wp2_with fail
  rw [rounds_succ]
  go_wp2_with fail
  go_ret
  have hh' := hh.out
  refine retH_mk (b := rnF 4 x) ?_ (by repeat (first | (with_reducible first | exact Below.refl _ _ | assumption | exact Nat.le_refl _ | refine Below.drew ?_ | refine Below.alloc ?_ ?_ _ | refine below_drewN ?_ _ | refine Below.setCell ?_ ?_ _ | refine le_alloc ?_ | refine le_set ?_ | refine le_drew ?_ | refine le_drewN ?_ | refine below_step (by assumption) ?_ ?_ | refine le_below (by assumption) ?_) | (dsimp only; omega)))
  rw [rnF_4]
  refine IsH.left ?_
  unfold rn4
  repeat' (first | with_reducible refine isH_or ?_ ?_ | exact ⟨by omega, by omega⟩)
theorem writeNames_8 (h : Nat) (hh : Hid (h < 65536)) (w : World) (hG : Hid (G w)) : Calls Tryd.prog 37 #[.int .u8 8, .int .u16 h] w (RetU (wnF 8 h) w) := by
  have e0 : (h : Int) % 4294967296 = (h : Int) := by have := hh.out; omega
  have hx : Hid (h < 4294967296) := by have := hh.out; show _ < _; omega
  have q8 : bits .and .u8 8 7 = 0 := by decide
  have s1 : 1 < w.heap.size := by have := hG.out.1; omega
  have s2 : ¬ 1 = w.heap.size := by omega
  have s3 : ¬ w.heap.size = 1 := by omega
  have s4 : 1 < w.heap.size + 1 := by omega
  have s5 : ¬ 1 = w.heap.size + 1 := by omega
  have s6 : ¬ w.heap.size + 1 = 1 := by omega
  obtain ⟨a3, b3, c3⟩ := g_reg hG.out 3 7 5 15 (by decide) rfl rfl rfl
  go_enter Tryd.func37, Tryd.ntmps37
  go_wp2_with fail
  refine wp_loop_rounds 2 ?_
  rw [rounds_succ]
  go_wp2_with fail
  refine (tz8_8 _).mono ?_; rintro e v0 ⟨rfl, rfl⟩
  go_wp2_with fail
  refine (field_7_5 h hx _).mono ?_; rintro e u0 ⟨rfl, rfl⟩
  go_wp2_with fail
  rw [rounds_succ]
  go_wp2_with fail
  go_ret
  have hh' := hh.out
  refine retU_mk (b := wnF 8 h) ?_ (by repeat (first | (with_reducible first | exact Below.refl _ _ | assumption | exact Nat.le_refl _ | refine Below.drew ?_ | refine Below.alloc ?_ ?_ _ | refine below_drewN ?_ _ | refine Below.setCell ?_ ?_ _ | refine le_alloc ?_ | refine le_set ?_ | refine le_drew ?_ | refine le_drewN ?_ | refine below_step (by assumption) ?_ ?_ | refine le_below (by assumption) ?_) | (dsimp only; omega)))
  rw [wnF_8]
  refine IsU.left ?_
  unfold wn8
  repeat' (first | with_reducible refine isU_or ?_ ?_ | exact ⟨by omega, by omega⟩)
theorem readNames_8 (x : Nat) (hh : Hid (x < 4294967296)) (w : World) (hG : Hid (G w)) : Calls Tryd.prog 41 #[.int .u8 8, .int .u32 x] w (RetH (rnF 8 x) w) := by
  have q8 : bits .and .u8 8 7 = 0 := by decide
  have s1 : 1 < w.heap.size := by have := hG.out.1; omega
  have s2 : ¬ 1 = w.heap.size := by omega
  have s3 : ¬ w.heap.size = 1 := by omega
  have s4 : 1 < w.heap.size + 1 := by omega
  have s5 : ¬ 1 = w.heap.size + 1 := by omega
  have s6 : ¬ w.heap.size + 1 = 1 := by omega
  obtain ⟨a3, b3, c3⟩ := g_reg hG.out 3 7 5 15 (by decide) rfl rfl rfl
  go_enter Tryd.func41, Tryd.ntmps41
  go_wp2_with fail
  refine wp_loop_rounds 2 ?_
  rw [rounds_succ]
  go_wp2_with fail
  refine (tz8_8 _).mono ?_; rintro e v0 ⟨rfl, rfl⟩
  go_wp2_with fail
  go_quiet (exact Calls.quiet_of_same ((field_15_5 x hh _).mono fun _ _ h => ⟨h.1, h.2.symm⟩))
  go_wp2_with fail
  rw [rounds_succ]
  go_wp2_with fail
  go_ret
  have hh' := hh.out
  refine retH_mk (b := rnF 8 x) ?_ (by repeat (first | (with_reducible first | exact Below.refl _ _ | assumption | exact Nat.le_refl _ | refine Below.drew ?_ | refine Below.alloc ?_ ?_ _ | refine below_drewN ?_ _ | refine Below.setCell ?_ ?_ _ | refine le_alloc ?_ | refine le_set ?_ | refine le_drew ?_ | refine le_drewN ?_ | refine below_step (by assumption) ?_ ?_ | refine le_below (by assumption) ?_) | (dsimp only; omega)))
  rw [rnF_8]
  refine IsH.left ?_
  unfold rn8
  repeat' (first | with_reducible refine isH_or ?_ ?_ | exact ⟨by omega, by omega⟩)
theorem writeNames_9 (h : Nat) (hh : Hid (h < 65536)) (w : World) (hG : Hid (G w)) : Calls Tryd.prog 37 #[.int .u8 9, .int .u16 h] w (RetU (wnF 9 h) w) := by
  have e0 : (h : Int) % 4294967296 = (h : Int) := by have := hh.out; omega
  have hx : Hid (h < 4294967296) := by have := hh.out; show _ < _; omega
  have q9 : bits .and .u8 9 8 = 8 := by decide
  have q8 : bits .and .u8 8 7 = 0 := by decide
  have s1 : 1 < w.heap.size := by have := hG.out.1; omega
  have s2 : ¬ 1 = w.heap.size := by omega
  have s3 : ¬ w.heap.size = 1 := by omega
  have s4 : 1 < w.heap.size + 1 := by omega
  have s5 : ¬ 1 = w.heap.size + 1 := by omega
  have s6 : ¬ w.heap.size + 1 = 1 := by omega
  obtain ⟨a0, b0, c0⟩ := g_reg hG.out 0 7 5 7 (by decide) rfl rfl rfl
  obtain ⟨a3, b3, c3⟩ := g_reg hG.out 3 7 5 15 (by decide) rfl rfl rfl
  go_enter Tryd.func37, Tryd.ntmps37
  go_wp2_with fail
  refine wp_loop_rounds 3 ?_
  rw [rounds_succ]
  go_wp2_with fail
  refine (tz8_9 _).mono ?_; rintro e v0 ⟨rfl, rfl⟩
  go_wp2_with fail
  refine (field_7_5 h hx _).mono ?_; rintro e u0 ⟨rfl, rfl⟩
  go_wp2_with fail
  rw [rounds_succ]
  go_wp2_with fail
  refine (tz8_8 _).mono ?_; rintro e v1 ⟨rfl, rfl⟩
  go_wp2_with fail
  refine (field_7_5 h hx _).mono ?_; rintro e u1 ⟨rfl, rfl⟩
  go_wp2_with fail
  rw [rounds_succ]
  go_wp2_with fail
  go_ret
  have hh' := hh.out
  refine retU_mk (b := wnF 9 h) ?_ (by repeat (first | (with_reducible first | exact Below.refl _ _ | assumption | exact Nat.le_refl _ | refine Below.drew ?_ | refine Below.alloc ?_ ?_ _ | refine below_drewN ?_ _ | refine Below.setCell ?_ ?_ _ | refine le_alloc ?_ | refine le_set ?_ | refine le_drew ?_ | refine le_drewN ?_ | refine below_step (by assumption) ?_ ?_ | refine le_below (by assumption) ?_) | (dsimp only; omega)))
  rw [wnF_9]
  refine IsU.left ?_
  unfold wn9
  repeat' (first | with_reducible refine isU_or ?_ ?_ | exact ⟨by omega, by omega⟩)
theorem readNames_9 (x : Nat) (hh : Hid (x < 4294967296)) (w : World) (hG : Hid (G w)) : Calls Tryd.prog 41 #[.int .u8 9, .int .u32 x] w (RetH (rnF 9 x) w) := by
  have q9 : bits .and .u8 9 8 = 8 := by decide
  have q8 : bits .and .u8 8 7 = 0 := by decide
  have s1 : 1 < w.heap.size := by have := hG.out.1; omega
  have s2 : ¬ 1 = w.heap.size := by omega
  have s3 : ¬ w.heap.size = 1 := by omega
  have s4 : 1 < w.heap.size + 1 := by omega
  have s5 : ¬ 1 = w.heap.size + 1 := by omega
  have s6 : ¬ w.heap.size + 1 = 1 := by omega
  obtain ⟨a0, b0, c0⟩ := g_reg hG.out 0 7 5 7 (by decide) rfl rfl rfl
  obtain ⟨a3, b3, c3⟩ := g_reg hG.out 3 7 5 15 (by decide) rfl rfl rfl
  go_enter Tryd.func41, Tryd.ntmps41
  go_wp2_with fail
  refine wp_loop_rounds 3 ?_
  rw [rounds_succ]
  go_wp2_with fail
  refine (tz8_9 _).mono ?_; rintro e v0 ⟨rfl, rfl⟩
  go_wp2_with fail
  go_quiet (exact Calls.quiet_of_same ((field_7_5 x hh _).mono fun _ _ h => ⟨h.1, h.2.symm⟩))
  go_wp2_with fail
  rw [rounds_succ]
  go_wp2_with fail
  refine (tz8_8 _).mono ?_; rintro e v1 ⟨rfl, rfl⟩
  go_wp2_with fail
  go_quiet (exact Calls.quiet_of_same ((field_15_5 x hh _).mono fun _ _ h => ⟨h.1, h.2.symm⟩))
  go_wp2_with fail
  rw [rounds_succ]
  go_wp2_with fail
  go_ret
  have hh' := hh.out
  refine retH_mk (b := rnF 9 x) ?_ (by repeat (first | (with_reducible first | exact Below.refl _ _ | assumption | exact Nat.le_refl _ | refine Below.drew ?_ | refine Below.alloc ?_ ?_ _ | refine below_drewN ?_ _ | refine Below.setCell ?_ ?_ _ | refine le_alloc ?_ | refine le_set ?_ | refine le_drew ?_ | refine le_drewN ?_ | refine below_step (by assumption) ?_ ?_ | refine le_below (by assumption) ?_) | (dsimp only; omega)))
  rw [rnF_9]
  refine IsH.left ?_
  unfold rn9
  repeat' (first | with_reducible refine isH_or ?_ ?_ | exact ⟨by omega, by omega⟩)
theorem writeNames_16 (h : Nat) (hh : Hid (h < 65536)) (w : World) (hG : Hid (G w)) : Calls Tryd.prog 37 #[.int .u8 16, .int .u16 h] w (RetU (wnF 16 h) w) := by
  have e0 : (h : Int) % 4294967296 = (h : Int) := by have := hh.out; omega
  have hx : Hid (h < 4294967296) := by have := hh.out; show _ < _; omega
  have q16 : bits .and .u8 16 15 = 0 := by decide
  have s1 : 1 < w.heap.size := by have := hG.out.1; omega
  have s2 : ¬ 1 = w.heap.size := by omega
  have s3 : ¬ w.heap.size = 1 := by omega
  have s4 : 1 < w.heap.size + 1 := by omega
  have s5 : ¬ 1 = w.heap.size + 1 := by omega
  have s6 : ¬ w.heap.size + 1 = 1 := by omega
  obtain ⟨a4, b4, c4⟩ := g_reg hG.out 4 7 3 15 (by decide) rfl rfl rfl
  go_enter Tryd.func37, Tryd.ntmps37
  go_wp2_with fail
  refine wp_loop_rounds 2 ?_
  rw [rounds_succ]
  go_wp2_with fail
  refine (tz8_16 _).mono ?_; rintro e v0 ⟨rfl, rfl⟩
  go_wp2_with fail
  refine (field_7_3 h hx _).mono ?_; rintro e u0 ⟨rfl, rfl⟩
  go_wp2_with fail
  rw [rounds_succ]
  go_wp2_with fail
  go_ret
  have hh' := hh.out
  refine retU_mk (b := wnF 16 h) ?_ (by repeat (first | (with_reducible first | exact Below.refl _ _ | assumption | exact Nat.le_refl _ | refine Below.drew ?_ | refine Below.alloc ?_ ?_ _ | refine below_drewN ?_ _ | refine Below.setCell ?_ ?_ _ | refine le_alloc ?_ | refine le_set ?_ | refine le_drew ?_ | refine le_drewN ?_ | refine below_step (by assumption) ?_ ?_ | refine le_below (by assumption) ?_) | (dsimp only; omega)))
  rw [wnF_16]
  refine IsU.left ?_
  unfold wn16
  repeat' (first | with_reducible refine isU_or ?_ ?_ | exact ⟨by omega, by omega⟩)
theorem readNames_16 (x : Nat) (hh : Hid (x < 4294967296)) (w : World) (hG : Hid (G w)) : Calls Tryd.prog 41 #[.int .u8 16, .int .u32 x] w (RetH (rnF 16 x) w) := by
  have q16 : bits .and .u8 16 15 = 0 := by decide
  have s1 : 1 < w.heap.size := by have := hG.out.1; omega
  have s2 : ¬ 1 = w.heap.size := by omega
  have s3 : ¬ w.heap.size = 1 := by omega
  have s4 : 1 < w.heap.size + 1 := by omega
  have s5 : ¬ 1 = w.heap.size + 1 := by omega
  have s6 : ¬ w.heap.size + 1 = 1 := by omega
  obtain ⟨a4, b4, c4⟩ := g_reg hG.out 4 7 3 15 (by decide) rfl rfl rfl
  go_enter Tryd.func41, Tryd.ntmps41
  go_wp2_with fail
  refine wp_loop_rounds 2 ?_
  rw [rounds_succ]
  go_wp2_with fail
  refine (tz8_16 _).mono ?_; rintro e v0 ⟨rfl, rfl⟩
  go_wp2_with fail
  go_quiet (exact Calls.quiet_of_same ((field_15_3 x hh _).mono fun _ _ h => ⟨h.1, h.2.symm⟩))
  go_wp2_with fail
  rw [rounds_succ]
  go_wp2_with fail
  go_ret
  have hh' := hh.out
  refine retH_mk (b := rnF 16 x) ?_ (by repeat (first | (with_reducible first | exact Below.refl _ _ | assumption | exact Nat.le_refl _ | refine Below.drew ?_ | refine Below.alloc ?_ ?_ _ | refine below_drewN ?_ _ | refine Below.setCell ?_ ?_ _ | refine le_alloc ?_ | refine le_set ?_ | refine le_drew ?_ | refine le_drewN ?_ | refine below_step (by assumption) ?_ ?_ | refine le_below (by assumption) ?_) | (dsimp only; omega)))
  rw [rnF_16]
  refine IsH.left ?_
  unfold rn16
  repeat' (first | with_reducible refine isH_or ?_ ?_ | exact ⟨by omega, by omega⟩)
theorem writeNames_18 (h : Nat) (hh : Hid (h < 65536)) (w : World) (hG : Hid (G w)) : Calls Tryd.prog 37 #[.int .u8 18, .int .u16 h] w (RetU (wnF 18 h) w) := by
  have e0 : (h : Int) % 4294967296 = (h : Int) := by have := hh.out; omega
  have hx : Hid (h < 4294967296) := by have := hh.out; show _ < _; omega
  have q18 : bits .and .u8 18 17 = 16 := by decide
  have q16 : bits .and .u8 16 15 = 0 := by decide
  have s1 : 1 < w.heap.size := by have := hG.out.1; omega
  have s2 : ¬ 1 = w.heap.size := by omega
  have s3 : ¬ w.heap.size = 1 := by omega
  have s4 : 1 < w.heap.size + 1 := by omega
  have s5 : ¬ 1 = w.heap.size + 1 := by omega
  have s6 : ¬ w.heap.size + 1 = 1 := by omega
  obtain ⟨a1, b1, c1⟩ := g_reg hG.out 1 7 3 7 (by decide) rfl rfl rfl
  obtain ⟨a4, b4, c4⟩ := g_reg hG.out 4 7 3 15 (by decide) rfl rfl rfl
  go_enter Tryd.func37, Tryd.ntmps37
  go_wp2_with fail
  refine wp_loop_rounds 3 ?_
  rw [rounds_succ]
  go_wp2_with fail
  refine (tz8_18 _).mono ?_; rintro e v0 ⟨rfl, rfl⟩
  go_wp2_with fail
  refine (field_7_3 h hx _).mono ?_; rintro e u0 ⟨rfl, rfl⟩
  go_wp2_with fail
  rw [rounds_succ]
  go_wp2_with fail
  refine (tz8_16 _).mono ?_; rintro e v1 ⟨rfl, rfl⟩
  go_wp2_with fail
  refine (field_7_3 h hx _).mono ?_; rintro e u1 ⟨rfl, rfl⟩
  go_wp2_with fail
  rw [rounds_succ]
  go_wp2_with fail
  go_ret
  have hh' := hh.out
  refine retU_mk (b := wnF 18 h) ?_ (by repeat (first | (with_reducible first | exact Below.refl _ _ | assumption | exact Nat.le_refl _ | refine Below.drew ?_ | refine Below.alloc ?_ ?_ _ | refine below_drewN ?_ _ | refine Below.setCell ?_ ?_ _ | refine le_alloc ?_ | refine le_set ?_ | refine le_drew ?_ | refine le_drewN ?_ | refine below_step (by assumption) ?_ ?_ | refine le_below (by assumption) ?_) | (dsimp only; omega)))
  rw [wnF_18]
  refine IsU.left ?_
  unfold wn18
  repeat' (first | with_reducible refine isU_or ?_ ?_ | exact ⟨by omega, by omega⟩)
theorem readNames_18 (x : Nat) (hh : Hid (x < 4294967296)) (w : World) (hG : Hid (G w)) : Calls Tryd.prog 41 #[.int .u8 18, .int .u32 x] w (RetH (rnF 18 x) w) := by
  have q18 : bits .and .u8 18 17 = 16 := by decide
  have q16 : bits .and .u8 16 15 = 0 := by decide
  have s1 : 1 < w.heap.size := by have := hG.out.1; omega
  have s2 : ¬ 1 = w.heap.size := by omega
  have s3 : ¬ w.heap.size = 1 := by omega
  have s4 : 1 < w.heap.size + 1 := by omega
  have s5 : ¬ 1 = w.heap.size + 1 := by omega
  have s6 : ¬ w.heap.size + 1 = 1 := by omega
  obtain ⟨a1, b1, c1⟩ := g_reg hG.out 1 7 3 7 (by decide) rfl rfl rfl
  obtain ⟨a4, b4, c4⟩ := g_reg hG.out 4 7 3 15 (by decide) rfl rfl rfl
  go_enter Tryd.func41, Tryd.ntmps41
  go_wp2_with fail
  refine wp_loop_rounds 3 ?_
  rw [rounds_succ]
  go_wp2_with fail
  refine (tz8_18 _).mono ?_; rintro e v0 ⟨rfl, rfl⟩
  go_wp2_with fail
  go_quiet (exact Calls.quiet_of_same ((field_7_3 x hh _).mono fun _ _ h => ⟨h.1, h.2.symm⟩))
  go_wp2_with fail
  rw [rounds_succ]
  go_wp2_with fail
  refine (tz8_16 _).mono ?_; rintro e v1 ⟨rfl, rfl⟩
  go_wp2_with fail
  go_quiet (exact Calls.quiet_of_same ((field_15_3 x hh _).mono fun _ _ h => ⟨h.1, h.2.symm⟩))
  go_wp2_with fail
  rw [rounds_succ]
  go_wp2_with fail
  go_ret
  have hh' := hh.out
  refine retH_mk (b := rnF 18 x) ?_ (by repeat (first | (with_reducible first | exact Below.refl _ _ | assumption | exact Nat.le_refl _ | refine Below.drew ?_ | refine Below.alloc ?_ ?_ _ | refine below_drewN ?_ _ | refine Below.setCell ?_ ?_ _ | refine le_alloc ?_ | refine le_set ?_ | refine le_drew ?_ | refine le_drewN ?_ | refine below_step (by assumption) ?_ ?_ | refine le_below (by assumption) ?_) | (dsimp only; omega)))
  rw [rnF_18]
  refine IsH.left ?_
  unfold rn18
  repeat' (first | with_reducible refine isH_or ?_ ?_ | exact ⟨by omega, by omega⟩)
theorem writeNames_20 (h : Nat) (hh : Hid (h < 65536)) (w : World) (hG : Hid (G w)) : Calls Tryd.prog 37 #[.int .u8 20, .int .u16 h] w (RetU (wnF 20 h) w) := by
  have e0 : (h : Int) % 4294967296 = (h : Int) := by have := hh.out; omega
  have hx : Hid (h < 4294967296) := by have := hh.out; show _ < _; omega
  have q20 : bits .and .u8 20 19 = 16 := by decide
  have q16 : bits .and .u8 16 15 = 0 := by decide
  have s1 : 1 < w.heap.size := by have := hG.out.1; omega
  have s2 : ¬ 1 = w.heap.size := by omega
  have s3 : ¬ w.heap.size = 1 := by omega
  have s4 : 1 < w.heap.size + 1 := by omega
  have s5 : ¬ 1 = w.heap.size + 1 := by omega
  have s6 : ¬ w.heap.size + 1 = 1 := by omega
  obtain ⟨a2, b2, c2⟩ := g_reg hG.out 2 2 3 7 (by decide) rfl rfl rfl
  obtain ⟨a4, b4, c4⟩ := g_reg hG.out 4 7 3 15 (by decide) rfl rfl rfl
  go_enter Tryd.func37, Tryd.ntmps37
  go_wp2_with fail
  refine wp_loop_rounds 3 ?_
  rw [rounds_succ]
  go_wp2_with fail
  refine (tz8_20 _).mono ?_; rintro e v0 ⟨rfl, rfl⟩
  go_wp2_with fail
  refine (field_2_3 h hx _).mono ?_; rintro e u0 ⟨rfl, rfl⟩
  go_wp2_with fail
  rw [rounds_succ]
  go_wp2_with fail
  refine (tz8_16 _).mono ?_; rintro e v1 ⟨rfl, rfl⟩
  go_wp2_with fail
  refine (field_7_3 h hx _).mono ?_; rintro e u1 ⟨rfl, rfl⟩
  go_wp2_with fail
  rw [rounds_succ]
  go_wp2_with fail
  go_ret
  have hh' := hh.out
  refine retU_mk (b := wnF 20 h) ?_ (by repeat (first | (with_reducible first | exact Below.refl _ _ | assumption | exact Nat.le_refl _ | refine Below.drew ?_ | refine Below.alloc ?_ ?_ _ | refine below_drewN ?_ _ | refine Below.setCell ?_ ?_ _ | refine le_alloc ?_ | refine le_set ?_ | refine le_drew ?_ | refine le_drewN ?_ | refine below_step (by assumption) ?_ ?_ | refine le_below (by assumption) ?_) | (dsimp only; omega)))
  rw [wnF_20]
  refine IsU.left ?_
  unfold wn20
  repeat' (first | with_reducible refine isU_or ?_ ?_ | exact ⟨by omega, by omega⟩)
theorem readNames_20 (x : Nat) (hh : Hid (x < 4294967296)) (w : World) (hG : Hid (G w)) : Calls Tryd.prog 41 #[.int .u8 20, .int .u32 x] w (RetH (rnF 20 x) w) := by
  have q20 : bits .and .u8 20 19 = 16 := by decide
  have q16 : bits .and .u8 16 15 = 0 := by decide
  have s1 : 1 < w.heap.size := by have := hG.out.1; omega
  have s2 : ¬ 1 = w.heap.size := by omega
  have s3 : ¬ w.heap.size = 1 := by omega
  have s4 : 1 < w.heap.size + 1 := by omega
  have s5 : ¬ 1 = w.heap.size + 1 := by omega
  have s6 : ¬ w.heap.size + 1 = 1 := by omega
  obtain ⟨a2, b2, c2⟩ := g_reg hG.out 2 2 3 7 (by decide) rfl rfl rfl
  obtain ⟨a4, b4, c4⟩ := g_reg hG.out 4 7 3 15 (by decide) rfl rfl rfl
  go_enter Tryd.func41, Tryd.ntmps41
  go_wp2_with fail
  refine wp_loop_rounds 3 ?_
  rw [rounds_succ]
  go_wp2_with fail
  refine (tz8_20 _).mono ?_; rintro e v0 ⟨rfl, rfl⟩
  go_wp2_with fail
  go_quiet (exact Calls.quiet_of_same ((field_7_3 x hh _).mono fun _ _ h => ⟨h.1, h.2.symm⟩))
  go_wp2_with fail
  rw [rounds_succ]
  go_wp2_with fail
  refine (tz8_16 _).mono ?_; rintro e v1 ⟨rfl, rfl⟩
  go_wp2_with fail
  go_quiet (exact Calls.quiet_of_same ((field_15_3 x hh _).mono fun _ _ h => ⟨h.1, h.2.symm⟩))
  go_wp2_with fail
  rw [rounds_succ]
  go_wp2_with fail
  go_ret
  have hh' := hh.out
  refine retH_mk (b := rnF 20 x) ?_ (by repeat (first | (with_reducible first | exact Below.refl _ _ | assumption | exact Nat.le_refl _ | refine Below.drew ?_ | refine Below.alloc ?_ ?_ _ | refine below_drewN ?_ _ | refine Below.setCell ?_ ?_ _ | refine le_alloc ?_ | refine le_set ?_ | refine le_drew ?_ | refine le_drewN ?_ | refine below_step (by assumption) ?_ ?_ | refine le_below (by assumption) ?_) | (dsimp only; omega)))
  rw [rnF_20]
  refine IsH.left ?_
  unfold rn20
  repeat' (first | with_reducible refine isH_or ?_ ?_ | exact ⟨by omega, by omega⟩)
theorem writeNames_32 (h : Nat) (hh : Hid (h < 65536)) (w : World) (hG : Hid (G w)) : Calls Tryd.prog 37 #[.int .u8 32, .int .u16 h] w (RetU (wnF 32 h) w) := by
  have e0 : (h : Int) % 4294967296 = (h : Int) := by have := hh.out; omega
  have hx : Hid (h < 4294967296) := by have := hh.out; show _ < _; omega
  have q32 : bits .and .u8 32 31 = 0 := by decide
  have s1 : 1 < w.heap.size := by have := hG.out.1; omega
  have s2 : ¬ 1 = w.heap.size := by omega
  have s3 : ¬ w.heap.size = 1 := by omega
  have s4 : 1 < w.heap.size + 1 := by omega
  have s5 : ¬ 1 = w.heap.size + 1 := by omega
  have s6 : ¬ w.heap.size + 1 = 1 := by omega
  obtain ⟨a5, b5, c5⟩ := g_reg hG.out 5 2 5 20 (by decide) rfl rfl rfl
  go_enter Tryd.func37, Tryd.ntmps37
  go_wp2_with fail
  refine wp_loop_rounds 2 ?_
  rw [rounds_succ]
  go_wp2_with fail
  refine (tz8_32 _).mono ?_; rintro e v0 ⟨rfl, rfl⟩
  go_wp2_with fail
  refine (field_2_5 h hx _).mono ?_; rintro e u0 ⟨rfl, rfl⟩
  go_wp2_with fail
  rw [rounds_succ]
  go_wp2_with fail
  go_ret
  have hh' := hh.out
  refine retU_mk (b := wnF 32 h) ?_ (by repeat (first | (with_reducible first | exact Below.refl _ _ | assumption | exact Nat.le_refl _ | refine Below.drew ?_ | refine Below.alloc ?_ ?_ _ | refine below_drewN ?_ _ | refine Below.setCell ?_ ?_ _ | refine le_alloc ?_ | refine le_set ?_ | refine le_drew ?_ | refine le_drewN ?_ | refine below_step (by assumption) ?_ ?_ | refine le_below (by assumption) ?_) | (dsimp only; omega)))
  rw [wnF_32]
  refine IsU.left ?_
  unfold wn32
  repeat' (first | with_reducible refine isU_or ?_ ?_ | exact ⟨by omega, by omega⟩)
theorem readNames_32 (x : Nat) (hh : Hid (x < 4294967296)) (w : World) (hG : Hid (G w)) : Calls Tryd.prog 41 #[.int .u8 32, .int .u32 x] w (RetH (rnF 32 x) w) := by
  have q32 : bits .and .u8 32 31 = 0 := by decide
  have s1 : 1 < w.heap.size := by have := hG.out.1; omega
  have s2 : ¬ 1 = w.heap.size := by omega
  have s3 : ¬ w.heap.size = 1 := by omega
  have s4 : 1 < w.heap.size + 1 := by omega
  have s5 : ¬ 1 = w.heap.size + 1 := by omega
  have s6 : ¬ w.heap.size + 1 = 1 := by omega
  obtain ⟨a5, b5, c5⟩ := g_reg hG.out 5 2 5 20 (by decide) rfl rfl rfl
  go_enter Tryd.func41, Tryd.ntmps41
  go_wp2_with fail
  refine wp_loop_rounds 2 ?_
  rw [rounds_succ]
  go_wp2_with fail
  refine (tz8_32 _).mono ?_; rintro e v0 ⟨rfl, rfl⟩
  go_wp2_with fail
  go_quiet (exact Calls.quiet_of_same ((field_20_5 x hh _).mono fun _ _ h => ⟨h.1, h.2.symm⟩))
  go_wp2_with fail
  rw [rounds_succ]
  go_wp2_with fail
  go_ret
  have hh' := hh.out
  refine retH_mk (b := rnF 32 x) ?_ (by repeat (first | (with_reducible first | exact Below.refl _ _ | assumption | exact Nat.le_refl _ | refine Below.drew ?_ | refine Below.alloc ?_ ?_ _ | refine below_drewN ?_ _ | refine Below.setCell ?_ ?_ _ | refine le_alloc ?_ | refine le_set ?_ | refine le_drew ?_ | refine le_drewN ?_ | refine below_step (by assumption) ?_ ?_ | refine le_below (by assumption) ?_) | (dsimp only; omega)))
  rw [rnF_32]
  refine IsH.left ?_
  unfold rn32
  repeat' (first | with_reducible refine isH_or ?_ ?_ | exact ⟨by omega, by omega⟩)
theorem writeNames_33 (h : Nat) (hh : Hid (h < 65536)) (w : World) (hG : Hid (G w)) : Calls Tryd.prog 37 #[.int .u8 33, .int .u16 h] w (RetU (wnF 33 h) w) := by
  have e0 : (h : Int) % 4294967296 = (h : Int) := by have := hh.out; omega
  have hx : Hid (h < 4294967296) := by have := hh.out; show _ < _; omega
  have q33 : bits .and .u8 33 32 = 32 := by decide
  have q32 : bits .and .u8 32 31 = 0 := by decide
  have s1 : 1 < w.heap.size := by have := hG.out.1; omega
  have s2 : ¬ 1 = w.heap.size := by omega
  have s3 : ¬ w.heap.size = 1 := by omega
  have s4 : 1 < w.heap.size + 1 := by omega
  have s5 : ¬ 1 = w.heap.size + 1 := by omega
  have s6 : ¬ w.heap.size + 1 = 1 := by omega
  obtain ⟨a0, b0, c0⟩ := g_reg hG.out 0 7 5 7 (by decide) rfl rfl rfl
  obtain ⟨a5, b5, c5⟩ := g_reg hG.out 5 2 5 20 (by decide) rfl rfl rfl
  go_enter Tryd.func37, Tryd.ntmps37
  go_wp2_with fail
  refine wp_loop_rounds 3 ?_
  rw [rounds_succ]
  go_wp2_with fail
  refine (tz8_33 _).mono ?_; rintro e v0 ⟨rfl, rfl⟩
  go_wp2_with fail
  refine (field_7_5 h hx _).mono ?_; rintro e u0 ⟨rfl, rfl⟩
  go_wp2_with fail
  rw [rounds_succ]
  go_wp2_with fail
  refine (tz8_32 _).mono ?_; rintro e v1 ⟨rfl, rfl⟩
  go_wp2_with fail
  refine (field_2_5 h hx _).mono ?_; rintro e u1 ⟨rfl, rfl⟩
  go_wp2_with fail
  rw [rounds_succ]
  go_wp2_with fail
  go_ret
  have hh' := hh.out
  refine retU_mk (b := wnF 33 h) ?_ (by repeat (first | (with_reducible first | exact Below.refl _ _ | assumption | exact Nat.le_refl _ | refine Below.drew ?_ | refine Below.alloc ?_ ?_ _ | refine below_drewN ?_ _ | refine Below.setCell ?_ ?_ _ | refine le_alloc ?_ | refine le_set ?_ | refine le_drew ?_ | refine le_drewN ?_ | refine below_step (by assumption) ?_ ?_ | refine le_below (by assumption) ?_) | (dsimp only; omega)))
  rw [wnF_33]
  refine IsU.left ?_
  unfold wn33
  repeat' (first | with_reducible refine isU_or ?_ ?_ | exact ⟨by omega, by omega⟩)
theorem readNames_33 (x : Nat) (hh : Hid (x < 4294967296)) (w : World) (hG : Hid (G w)) : Calls Tryd.prog 41 #[.int .u8 33, .int .u32 x] w (RetH (rnF 33 x) w) := by
  have q33 : bits .and .u8 33 32 = 32 := by decide
  have q32 : bits .and .u8 32 31 = 0 := by decide
  have s1 : 1 < w.heap.size := by have := hG.out.1; omega
  have s2 : ¬ 1 = w.heap.size := by omega
  have s3 : ¬ w.heap.size = 1 := by omega
  have s4 : 1 < w.heap.size + 1 := by omega
  have s5 : ¬ 1 = w.heap.size + 1 := by omega
  have s6 : ¬ w.heap.size + 1 = 1 := by omega
  obtain ⟨a0, b0, c0⟩ := g_reg hG.out 0 7 5 7 (by decide) rfl rfl rfl
  obtain ⟨a5, b5, c5⟩ := g_reg hG.out 5 2 5 20 (by decide) rfl rfl rfl
  go_enter Tryd.func41, Tryd.ntmps41
  go_wp2_with fail
  refine wp_loop_rounds 3 ?_
  rw [rounds_succ]
  go_wp2_with fail
  refine (tz8_33 _).mono ?_; rintro e v0 ⟨rfl, rfl⟩
  go_wp2_with fail
  go_quiet (exact Calls.quiet_of_same ((field_7_5 x hh _).mono fun _ _ h => ⟨h.1, h.2.symm⟩))
  go_wp2_with fail
  rw [rounds_succ]
  go_wp2_with fail
  refine (tz8_32 _).mono ?_; rintro e v1 ⟨rfl, rfl⟩
  go_wp2_with fail
  go_quiet (exact Calls.quiet_of_same ((field_20_5 x hh _).mono fun _ _ h => ⟨h.1, h.2.symm⟩))
  go_wp2_with fail
  rw [rounds_succ]
  go_wp2_with fail
  go_ret
  have hh' := hh.out
  refine retH_mk (b := rnF 33 x) ?_ (by repeat (first | (with_reducible first | exact Below.refl _ _ | assumption | exact Nat.le_refl _ | refine Below.drew ?_ | refine Below.alloc ?_ ?_ _ | refine below_drewN ?_ _ | refine Below.setCell ?_ ?_ _ | refine le_alloc ?_ | refine le_set ?_ | refine le_drew ?_ | refine le_drewN ?_ | refine below_step (by assumption) ?_ ?_ | refine le_below (by assumption) ?_) | (dsimp only; omega)))
  rw [rnF_33]
  refine IsH.left ?_
  unfold rn33
  repeat' (first | with_reducible refine isH_or ?_ ?_ | exact ⟨by omega, by omega⟩)
theorem writeNames_41 (h : Nat) (hh : Hid (h < 65536)) (w : World) (hG : Hid (G w)) : Calls Tryd.prog 37 #[.int .u8 41, .int .u16 h] w (RetU (wnF 41 h) w) := by
  have e0 : (h : Int) % 4294967296 = (h : Int) := by have := hh.out; omega
  have hx : Hid (h < 4294967296) := by have := hh.out; show _ < _; omega
  have q41 : bits .and .u8 41 40 = 40 := by decide
  have q40 : bits .and .u8 40 39 = 32 := by decide
  have q32 : bits .and .u8 32 31 = 0 := by decide
  have s1 : 1 < w.heap.size := by have := hG.out.1; omega
  have s2 : ¬ 1 = w.heap.size := by omega
  have s3 : ¬ w.heap.size = 1 := by omega
  have s4 : 1 < w.heap.size + 1 := by omega
  have s5 : ¬ 1 = w.heap.size + 1 := by omega
  have s6 : ¬ w.heap.size + 1 = 1 := by omega
  obtain ⟨a0, b0, c0⟩ := g_reg hG.out 0 7 5 7 (by decide) rfl rfl rfl
  obtain ⟨a3, b3, c3⟩ := g_reg hG.out 3 7 5 15 (by decide) rfl rfl rfl
  obtain ⟨a5, b5, c5⟩ := g_reg hG.out 5 2 5 20 (by decide) rfl rfl rfl
  go_enter Tryd.func37, Tryd.ntmps37
  go_wp2_with fail
  refine wp_loop_rounds 4 ?_
  rw [rounds_succ]
  go_wp2_with fail
  refine (tz8_41 _).mono ?_; rintro e v0 ⟨rfl, rfl⟩
  go_wp2_with fail
  refine (field_7_5 h hx _).mono ?_; rintro e u0 ⟨rfl, rfl⟩
  go_wp2_with fail
  rw [rounds_succ]
  go_wp2_with fail
  refine (tz8_40 _).mono ?_; rintro e v1 ⟨rfl, rfl⟩
  go_wp2_with fail
  refine (field_7_5 h hx _).mono ?_; rintro e u1 ⟨rfl, rfl⟩
  go_wp2_with fail
  rw [rounds_succ]
  go_wp2_with fail
  refine (tz8_32 _).mono ?_; rintro e v2 ⟨rfl, rfl⟩
  go_wp2_with fail
  refine (field_2_5 h hx _).mono ?_; rintro e u2 ⟨rfl, rfl⟩
  go_wp2_with fail
  rw [rounds_succ]
  go_wp2_with fail
  go_ret
  have hh' := hh.out
  refine retU_mk (b := wnF 41 h) ?_ (by repeat (first | (with_reducible first | exact Below.refl _ _ | assumption | exact Nat.le_refl _ | refine Below.drew ?_ | refine Below.alloc ?_ ?_ _ | refine below_drewN ?_ _ | refine Below.setCell ?_ ?_ _ | refine le_alloc ?_ | refine le_set ?_ | refine le_drew ?_ | refine le_drewN ?_ | refine below_step (by assumption) ?_ ?_ | refine le_below (by assumption) ?_) | (dsimp only; omega)))
  rw [wnF_41]
  refine IsU.left ?_
  unfold wn41
  repeat' (first | with_reducible refine isU_or ?_ ?_ | exact ⟨by omega, by omega⟩)
theorem readNames_41 (x : Nat) (hh : Hid (x < 4294967296)) (w : World) (hG : Hid (G w)) : Calls Tryd.prog 41 #[.int .u8 41, .int .u32 x] w (RetH (rnF 41 x) w) := by
  have q41 : bits .and .u8 41 40 = 40 := by decide
  have q40 : bits .and .u8 40 39 = 32 := by decide
  have q32 : bits .and .u8 32 31 = 0 := by decide
  have s1 : 1 < w.heap.size := by have := hG.out.1; omega
  have s2 : ¬ 1 = w.heap.size := by omega
  have s3 : ¬ w.heap.size = 1 := by omega
  have s4 : 1 < w.heap.size + 1 := by omega
  have s5 : ¬ 1 = w.heap.size + 1 := by omega
  have s6 : ¬ w.heap.size + 1 = 1 := by omega
  obtain ⟨a0, b0, c0⟩ := g_reg hG.out 0 7 5 7 (by decide) rfl rfl rfl
  obtain ⟨a3, b3, c3⟩ := g_reg hG.out 3 7 5 15 (by decide) rfl rfl rfl
  obtain ⟨a5, b5, c5⟩ := g_reg hG.out 5 2 5 20 (by decide) rfl rfl rfl
  go_enter Tryd.func41, Tryd.ntmps41
  go_wp2_with fail
  refine wp_loop_rounds 4 ?_
  rw [rounds_succ]
  go_wp2_with fail
  refine (tz8_41 _).mono ?_; rintro e v0 ⟨rfl, rfl⟩
  go_wp2_with fail
  go_quiet (exact Calls.quiet_of_same ((field_7_5 x hh _).mono fun _ _ h => ⟨h.1, h.2.symm⟩))
  go_wp2_with fail
  rw [rounds_succ]
  go_wp2_with fail
  refine (tz8_40 _).mono ?_; rintro e v1 ⟨rfl, rfl⟩
  go_wp2_with fail
  go_quiet (exact Calls.quiet_of_same ((field_15_5 x hh _).mono fun _ _ h => ⟨h.1, h.2.symm⟩))
  go_wp2_with fail
  rw [rounds_succ]
  go_wp2_with fail
  refine (tz8_32 _).mono ?_; rintro e v2 ⟨rfl, rfl⟩
  go_wp2_with fail
  go_quiet (exact Calls.quiet_of_same ((field_20_5 x hh _).mono fun _ _ h => ⟨h.1, h.2.symm⟩))
  go_wp2_with fail
  rw [rounds_succ]
  go_wp2_with fail
  go_ret
  have hh' := hh.out
  refine retH_mk (b := rnF 41 x) ?_ (by repeat (first | (with_reducible first | exact Below.refl _ _ | assumption | exact Nat.le_refl _ | refine Below.drew ?_ | refine Below.alloc ?_ ?_ _ | refine below_drewN ?_ _ | refine Below.setCell ?_ ?_ _ | refine le_alloc ?_ | refine le_set ?_ | refine le_drew ?_ | refine le_drewN ?_ | refine below_step (by assumption) ?_ ?_ | refine le_below (by assumption) ?_) | (dsimp only; omega)))
  rw [rnF_41]
  refine IsH.left ?_
  unfold rn41
  repeat' (first | with_reducible refine isH_or ?_ ?_ | exact ⟨by omega, by omega⟩)
theorem writeNames_80 (h : Nat) (hh : Hid (h < 65536)) (w : World) (hG : Hid (G w)) : Calls Tryd.prog 37 #[.int .u8 80, .int .u16 h] w (RetU (wnF 80 h) w) := by
  have e0 : (h : Int) % 4294967296 = (h : Int) := by have := hh.out; omega
  have hx : Hid (h < 4294967296) := by have := hh.out; show _ < _; omega
  have q80 : bits .and .u8 80 79 = 64 := by decide
  have q64 : bits .and .u8 64 63 = 0 := by decide
  have s1 : 1 < w.heap.size := by have := hG.out.1; omega
  have s2 : ¬ 1 = w.heap.size := by omega
  have s3 : ¬ w.heap.size = 1 := by omega
  have s4 : 1 < w.heap.size + 1 := by omega
  have s5 : ¬ 1 = w.heap.size + 1 := by omega
  have s6 : ¬ w.heap.size + 1 = 1 := by omega
  obtain ⟨a4, b4, c4⟩ := g_reg hG.out 4 7 3 15 (by decide) rfl rfl rfl
  obtain ⟨a6, b6, c6⟩ := g_reg hG.out 6 2 3 20 (by decide) rfl rfl rfl
  go_enter Tryd.func37, Tryd.ntmps37
  go_wp2_with fail
  refine wp_loop_rounds 3 ?_
  rw [rounds_succ]
  go_wp2_with fail
  refine (tz8_80 _).mono ?_; rintro e v0 ⟨rfl, rfl⟩
  go_wp2_with fail
  refine (field_7_3 h hx _).mono ?_; rintro e u0 ⟨rfl, rfl⟩
  go_wp2_with fail
  rw [rounds_succ]
  go_wp2_with fail
  refine (tz8_64 _).mono ?_; rintro e v1 ⟨rfl, rfl⟩
  go_wp2_with fail
  refine (field_2_3 h hx _).mono ?_; rintro e u1 ⟨rfl, rfl⟩
  go_wp2_with fail
  rw [rounds_succ]
  go_wp2_with fail
  go_ret
  have hh' := hh.out
  refine retU_mk (b := wnF 80 h) ?_ (by repeat (first | (with_reducible first | exact Below.refl _ _ | assumption | exact Nat.le_refl _ | refine Below.drew ?_ | refine Below.alloc ?_ ?_ _ | refine below_drewN ?_ _ | refine Below.setCell ?_ ?_ _ | refine le_alloc ?_ | refine le_set ?_ | refine le_drew ?_ | refine le_drewN ?_ | refine below_step (by assumption) ?_ ?_ | refine le_below (by assumption) ?_) | (dsimp only; omega)))
  rw [wnF_80]
  refine IsU.left ?_
  unfold wn80
  repeat' (first | with_reducible refine isU_or ?_ ?_ | exact ⟨by omega, by omega⟩)
theorem readNames_80 (x : Nat) (hh : Hid (x < 4294967296)) (w : World) (hG : Hid (G w)) : Calls Tryd.prog 41 #[.int .u8 80, .int .u32 x] w (RetH (rnF 80 x) w) := by
  have q80 : bits .and .u8 80 79 = 64 := by decide
  have q64 : bits .and .u8 64 63 = 0 := by decide
  have s1 : 1 < w.heap.size := by have := hG.out.1; omega
  have s2 : ¬ 1 = w.heap.size := by omega
  have s3 : ¬ w.heap.size = 1 := by omega
  have s4 : 1 < w.heap.size + 1 := by omega
  have s5 : ¬ 1 = w.heap.size + 1 := by omega
  have s6 : ¬ w.heap.size + 1 = 1 := by omega
  obtain ⟨a4, b4, c4⟩ := g_reg hG.out 4 7 3 15 (by decide) rfl rfl rfl
  obtain ⟨a6, b6, c6⟩ := g_reg hG.out 6 2 3 20 (by decide) rfl rfl rfl
  go_enter Tryd.func41, Tryd.ntmps41
  go_wp2_with fail
  refine wp_loop_rounds 3 ?_
  rw [rounds_succ]
  go_wp2_with fail
  refine (tz8_80 _).mono ?_; rintro e v0 ⟨rfl, rfl⟩
  go_wp2_with fail
  go_quiet (exact Calls.quiet_of_same ((field_15_3 x hh _).mono fun _ _ h => ⟨h.1, h.2.symm⟩))
  go_wp2_with fail
  rw [rounds_succ]
  go_wp2_with fail
  refine (tz8_64 _).mono ?_; rintro e v1 ⟨rfl, rfl⟩
  go_wp2_with fail
  go_quiet (exact Calls.quiet_of_same ((field_20_3 x hh _).mono fun _ _ h => ⟨h.1, h.2.symm⟩))
  go_wp2_with fail
  rw [rounds_succ]
  go_wp2_with fail
  go_ret
  have hh' := hh.out
  refine retH_mk (b := rnF 80 x) ?_ (by repeat (first | (with_reducible first | exact Below.refl _ _ | assumption | exact Nat.le_refl _ | refine Below.drew ?_ | refine Below.alloc ?_ ?_ _ | refine below_drewN ?_ _ | refine Below.setCell ?_ ?_ _ | refine le_alloc ?_ | refine le_set ?_ | refine le_drew ?_ | refine le_drewN ?_ | refine below_step (by assumption) ?_ ?_ | refine le_below (by assumption) ?_) | (dsimp only; omega)))
  rw [rnF_80]
  refine IsH.left ?_
  unfold rn80
  repeat' (first | with_reducible refine isH_or ?_ ?_ | exact ⟨by omega, by omega⟩)
theorem writeNames_82 (h : Nat) (hh : Hid (h < 65536)) (w : World) (hG : Hid (G w)) : Calls Tryd.prog 37 #[.int .u8 82, .int .u16 h] w (RetU (wnF 82 h) w) := by
  have e0 : (h : Int) % 4294967296 = (h : Int) := by have := hh.out; omega
  have hx : Hid (h < 4294967296) := by have := hh.out; show _ < _; omega
  have q82 : bits .and .u8 82 81 = 80 := by decide
  have q80 : bits .and .u8 80 79 = 64 := by decide
  have q64 : bits .and .u8 64 63 = 0 := by decide
  have s1 : 1 < w.heap.size := by have := hG.out.1; omega
  have s2 : ¬ 1 = w.heap.size := by omega
  have s3 : ¬ w.heap.size = 1 := by omega
  have s4 : 1 < w.heap.size + 1 := by omega
  have s5 : ¬ 1 = w.heap.size + 1 := by omega
  have s6 : ¬ w.heap.size + 1 = 1 := by omega
  obtain ⟨a1, b1, c1⟩ := g_reg hG.out 1 7 3 7 (by decide) rfl rfl rfl
  obtain ⟨a4, b4, c4⟩ := g_reg hG.out 4 7 3 15 (by decide) rfl rfl rfl
  obtain ⟨a6, b6, c6⟩ := g_reg hG.out 6 2 3 20 (by decide) rfl rfl rfl
  go_enter Tryd.func37, Tryd.ntmps37
  go_wp2_with fail
  refine wp_loop_rounds 4 ?_
  rw [rounds_succ]
  go_wp2_with fail
  refine (tz8_82 _).mono ?_; rintro e v0 ⟨rfl, rfl⟩
  go_wp2_with fail
  refine (field_7_3 h hx _).mono ?_; rintro e u0 ⟨rfl, rfl⟩
  go_wp2_with fail
  rw [rounds_succ]
  go_wp2_with fail
  refine (tz8_80 _).mono ?_; rintro e v1 ⟨rfl, rfl⟩
  go_wp2_with fail
  refine (field_7_3 h hx _).mono ?_; rintro e u1 ⟨rfl, rfl⟩
  go_wp2_with fail
  rw [rounds_succ]
  go_wp2_with fail
  refine (tz8_64 _).mono ?_; rintro e v2 ⟨rfl, rfl⟩
  go_wp2_with fail
  refine (field_2_3 h hx _).mono ?_; rintro e u2 ⟨rfl, rfl⟩
  go_wp2_with fail
  rw [rounds_succ]
  go_wp2_with fail
  go_ret
  have hh' := hh.out
  refine retU_mk (b := wnF 82 h) ?_ (by repeat (first | (with_reducible first | exact Below.refl _ _ | assumption | exact Nat.le_refl _ | refine Below.drew ?_ | refine Below.alloc ?_ ?_ _ | refine below_drewN ?_ _ | refine Below.setCell ?_ ?_ _ | refine le_alloc ?_ | refine le_set ?_ | refine le_drew ?_ | refine le_drewN ?_ | refine below_step (by assumption) ?_ ?_ | refine le_below (by assumption) ?_) | (dsimp only; omega)))
  rw [wnF_82]
  refine IsU.left ?_
  unfold wn82
  repeat' (first | with_reducible refine isU_or ?_ ?_ | exact ⟨by omega, by omega⟩)
theorem readNames_82 (x : Nat) (hh : Hid (x < 4294967296)) (w : World) (hG : Hid (G w)) : Calls Tryd.prog 41 #[.int .u8 82, .int .u32 x] w (RetH (rnF 82 x) w) := by
  have q82 : bits .and .u8 82 81 = 80 := by decide
  have q80 : bits .and .u8 80 79 = 64 := by decide
  have q64 : bits .and .u8 64 63 = 0 := by decide
  have s1 : 1 < w.heap.size := by have := hG.out.1; omega
  have s2 : ¬ 1 = w.heap.size := by omega
  have s3 : ¬ w.heap.size = 1 := by omega
  have s4 : 1 < w.heap.size + 1 := by omega
  have s5 : ¬ 1 = w.heap.size + 1 := by omega
  have s6 : ¬ w.heap.size + 1 = 1 := by omega
  obtain ⟨a1, b1, c1⟩ := g_reg hG.out 1 7 3 7 (by decide) rfl rfl rfl
  obtain ⟨a4, b4, c4⟩ := g_reg hG.out 4 7 3 15 (by decide) rfl rfl rfl
  obtain ⟨a6, b6, c6⟩ := g_reg hG.out 6 2 3 20 (by decide) rfl rfl rfl
  go_enter Tryd.func41, Tryd.ntmps41
  go_wp2_with fail
  refine wp_loop_rounds 4 ?_
  rw [rounds_succ]
  go_wp2_with fail
  refine (tz8_82 _).mono ?_; rintro e v0 ⟨rfl, rfl⟩
  go_wp2_with fail
  go_quiet (exact Calls.quiet_of_same ((field_7_3 x hh _).mono fun _ _ h => ⟨h.1, h.2.symm⟩))
  go_wp2_with fail
  rw [rounds_succ]
  go_wp2_with fail
  refine (tz8_80 _).mono ?_; rintro e v1 ⟨rfl, rfl⟩
  go_wp2_with fail
  go_quiet (exact Calls.quiet_of_same ((field_15_3 x hh _).mono fun _ _ h => ⟨h.1, h.2.symm⟩))
  go_wp2_with fail
  rw [rounds_succ]
  go_wp2_with fail
  refine (tz8_64 _).mono ?_; rintro e v2 ⟨rfl, rfl⟩
  go_wp2_with fail
  go_quiet (exact Calls.quiet_of_same ((field_20_3 x hh _).mono fun _ _ h => ⟨h.1, h.2.symm⟩))
  go_wp2_with fail
  rw [rounds_succ]
  go_wp2_with fail
  go_ret
  have hh' := hh.out
  refine retH_mk (b := rnF 82 x) ?_ (by repeat (first | (with_reducible first | exact Below.refl _ _ | assumption | exact Nat.le_refl _ | refine Below.drew ?_ | refine Below.alloc ?_ ?_ _ | refine below_drewN ?_ _ | refine Below.setCell ?_ ?_ _ | refine le_alloc ?_ | refine le_set ?_ | refine le_drew ?_ | refine le_drewN ?_ | refine below_step (by assumption) ?_ ?_ | refine le_below (by assumption) ?_) | (dsimp only; omega)))
  rw [rnF_82]
  refine IsH.left ?_
  unfold rn82
  repeat' (first | with_reducible refine isH_or ?_ ?_ | exact ⟨by omega, by omega⟩)
end Go.Proofs.YtcfeeookjgdkmaaDoor
