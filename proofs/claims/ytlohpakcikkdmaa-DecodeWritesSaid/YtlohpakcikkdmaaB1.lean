/- The contracts of field, at each place that is asked for. -/
import Derived.Test.YtlohpakcikkdmaaA
import Derived.Deep.QuietTactic
import Derived.BigQuiet
import Derived.Deep.DeepCutAuto
import Derived.Deep.CutBlock
import Derived.Deep.RegionHeld3
namespace Go.Proofs.Ytlohpakcikkdmaa
open Go.ChangeShapes Go.WideShapes Go.ChangeAt Go.RowKit
set_option linter.unusedVariables false
set_option linter.unusedSimpArgs false
theorem field_7_5 (b : Nat) (hb : Hid (b < 4294967296)) (w : World) : Calls Try.prog 35 #[.int .u32 b, .int .i64 7, .int .i64 5] w (RetU (fld b 7 5) w) := by
  have e1 : (b : Int) / 128 = ((b / 128 : Nat) : Int) := by simp
  have H1 : Hid (bits .and .u32 ((b / 128 : Nat) : Int) 31 = ((fld b 7 5 : Nat) : Int)) := u32_low (b / 128) 5 (by have := hb.out; omega) (by decide)
  have E1 := Lib.hid e1
  clear e1
  go_enter Try.func35, Try.ntmps35
  go_wp2_with fail
  go_region
  all_goals go_wp2
  all_goals go_ret
  all_goals exact retU_mk (by first | exact H1.out | (rw [E1.out]; exact H1.out) | (simp only [E1.out]; exact H1.out)) (by repeat (first | (with_reducible first | exact Below.refl _ _ | assumption | exact Nat.le_refl _ | refine Below.drew ?_ | refine Below.alloc ?_ ?_ _ | refine Below.setCell ?_ ?_ _ | refine le_alloc ?_ | refine le_set ?_ | refine le_drew ?_ | refine below_step (by assumption) ?_ ?_ | refine le_below (by assumption) ?_) | (dsimp only; omega)))
theorem field_15_5 (b : Nat) (hb : Hid (b < 4294967296)) (w : World) : Calls Try.prog 35 #[.int .u32 b, .int .i64 15, .int .i64 5] w (RetU (fld b 15 5) w) := by
  have e1 : (b : Int) / 32768 = ((b / 32768 : Nat) : Int) := by simp
  have H1 : Hid (bits .and .u32 ((b / 32768 : Nat) : Int) 31 = ((fld b 15 5 : Nat) : Int)) := u32_low (b / 32768) 5 (by have := hb.out; omega) (by decide)
  have E1 := Lib.hid e1
  clear e1
  go_enter Try.func35, Try.ntmps35
  go_wp2_with fail
  go_region
  all_goals go_wp2
  all_goals go_ret
  all_goals exact retU_mk (by first | exact H1.out | (rw [E1.out]; exact H1.out) | (simp only [E1.out]; exact H1.out)) (by repeat (first | (with_reducible first | exact Below.refl _ _ | assumption | exact Nat.le_refl _ | refine Below.drew ?_ | refine Below.alloc ?_ ?_ _ | refine Below.setCell ?_ ?_ _ | refine le_alloc ?_ | refine le_set ?_ | refine le_drew ?_ | refine below_step (by assumption) ?_ ?_ | refine le_below (by assumption) ?_) | (dsimp only; omega)))
theorem field_20_5 (b : Nat) (hb : Hid (b < 4294967296)) (w : World) : Calls Try.prog 35 #[.int .u32 b, .int .i64 20, .int .i64 5] w (RetU (fld b 20 5) w) := by
  have e1 : (b : Int) / 1048576 = ((b / 1048576 : Nat) : Int) := by simp
  have H1 : Hid (bits .and .u32 ((b / 1048576 : Nat) : Int) 31 = ((fld b 20 5 : Nat) : Int)) := u32_low (b / 1048576) 5 (by have := hb.out; omega) (by decide)
  have E1 := Lib.hid e1
  clear e1
  go_enter Try.func35, Try.ntmps35
  go_wp2_with fail
  go_region
  all_goals go_wp2
  all_goals go_ret
  all_goals exact retU_mk (by first | exact H1.out | (rw [E1.out]; exact H1.out) | (simp only [E1.out]; exact H1.out)) (by repeat (first | (with_reducible first | exact Below.refl _ _ | assumption | exact Nat.le_refl _ | refine Below.drew ?_ | refine Below.alloc ?_ ?_ _ | refine Below.setCell ?_ ?_ _ | refine le_alloc ?_ | refine le_set ?_ | refine le_drew ?_ | refine below_step (by assumption) ?_ ?_ | refine le_below (by assumption) ?_) | (dsimp only; omega)))
theorem field_27_5 (b : Nat) (hb : Hid (b < 4294967296)) (w : World) : Calls Try.prog 35 #[.int .u32 b, .int .i64 27, .int .i64 5] w (RetU (fld b 27 5) w) := by
  have e1 : (b : Int) / 134217728 = ((b / 134217728 : Nat) : Int) := by simp
  have H1 : Hid (bits .and .u32 ((b / 134217728 : Nat) : Int) 31 = ((fld b 27 5 : Nat) : Int)) := u32_low (b / 134217728) 5 (by have := hb.out; omega) (by decide)
  have E1 := Lib.hid e1
  clear e1
  go_enter Try.func35, Try.ntmps35
  go_wp2_with fail
  go_region
  all_goals go_wp2
  all_goals go_ret
  all_goals exact retU_mk (by first | exact H1.out | (rw [E1.out]; exact H1.out) | (simp only [E1.out]; exact H1.out)) (by repeat (first | (with_reducible first | exact Below.refl _ _ | assumption | exact Nat.le_refl _ | refine Below.drew ?_ | refine Below.alloc ?_ ?_ _ | refine Below.setCell ?_ ?_ _ | refine le_alloc ?_ | refine le_set ?_ | refine le_drew ?_ | refine below_step (by assumption) ?_ ?_ | refine le_below (by assumption) ?_) | (dsimp only; omega)))
theorem field_12_3 (b : Nat) (hb : Hid (b < 4294967296)) (w : World) : Calls Try.prog 35 #[.int .u32 b, .int .i64 12, .int .i64 3] w (RetU (fld b 12 3) w) := by
  have e1 : (b : Int) / 4096 = ((b / 4096 : Nat) : Int) := by simp
  have H1 : Hid (bits .and .u32 ((b / 4096 : Nat) : Int) 7 = ((fld b 12 3 : Nat) : Int)) := u32_low (b / 4096) 3 (by have := hb.out; omega) (by decide)
  have E1 := Lib.hid e1
  clear e1
  go_enter Try.func35, Try.ntmps35
  go_wp2_with fail
  go_region
  all_goals go_wp2
  all_goals go_ret
  all_goals exact retU_mk (by first | exact H1.out | (rw [E1.out]; exact H1.out) | (simp only [E1.out]; exact H1.out)) (by repeat (first | (with_reducible first | exact Below.refl _ _ | assumption | exact Nat.le_refl _ | refine Below.drew ?_ | refine Below.alloc ?_ ?_ _ | refine Below.setCell ?_ ?_ _ | refine le_alloc ?_ | refine le_set ?_ | refine le_drew ?_ | refine below_step (by assumption) ?_ ?_ | refine le_below (by assumption) ?_) | (dsimp only; omega)))
theorem field_20_12 (b : Nat) (hb : Hid (b < 4294967296)) (w : World) : Calls Try.prog 35 #[.int .u32 b, .int .i64 20, .int .i64 12] w (RetU (fld b 20 12) w) := by
  have e1 : (b : Int) / 1048576 = ((b / 1048576 : Nat) : Int) := by simp
  have H1 : Hid (bits .and .u32 ((b / 1048576 : Nat) : Int) 4095 = ((fld b 20 12 : Nat) : Int)) := u32_low (b / 1048576) 12 (by have := hb.out; omega) (by decide)
  have E1 := Lib.hid e1
  clear e1
  go_enter Try.func35, Try.ntmps35
  go_wp2_with fail
  go_region
  all_goals go_wp2
  all_goals go_ret
  all_goals exact retU_mk (by first | exact H1.out | (rw [E1.out]; exact H1.out) | (simp only [E1.out]; exact H1.out)) (by repeat (first | (with_reducible first | exact Below.refl _ _ | assumption | exact Nat.le_refl _ | refine Below.drew ?_ | refine Below.alloc ?_ ?_ _ | refine Below.setCell ?_ ?_ _ | refine le_alloc ?_ | refine le_set ?_ | refine le_drew ?_ | refine below_step (by assumption) ?_ ?_ | refine le_below (by assumption) ?_) | (dsimp only; omega)))
theorem field_12_2 (b : Nat) (hb : Hid (b < 4294967296)) (w : World) : Calls Try.prog 35 #[.int .u32 b, .int .i64 12, .int .i64 2] w (RetU (fld b 12 2) w) := by
  have e1 : (b : Int) / 4096 = ((b / 4096 : Nat) : Int) := by simp
  have H1 : Hid (bits .and .u32 ((b / 4096 : Nat) : Int) 3 = ((fld b 12 2 : Nat) : Int)) := u32_low (b / 4096) 2 (by have := hb.out; omega) (by decide)
  have E1 := Lib.hid e1
  clear e1
  go_enter Try.func35, Try.ntmps35
  go_wp2_with fail
  go_region
  all_goals go_wp2
  all_goals go_ret
  all_goals exact retU_mk (by first | exact H1.out | (rw [E1.out]; exact H1.out) | (simp only [E1.out]; exact H1.out)) (by repeat (first | (with_reducible first | exact Below.refl _ _ | assumption | exact Nat.le_refl _ | refine Below.drew ?_ | refine Below.alloc ?_ ?_ _ | refine Below.setCell ?_ ?_ _ | refine le_alloc ?_ | refine le_set ?_ | refine le_drew ?_ | refine below_step (by assumption) ?_ ?_ | refine le_below (by assumption) ?_) | (dsimp only; omega)))
theorem field_25_1 (b : Nat) (hb : Hid (b < 4294967296)) (w : World) : Calls Try.prog 35 #[.int .u32 b, .int .i64 25, .int .i64 1] w (RetU (fld b 25 1) w) := by
  have e1 : (b : Int) / 33554432 = ((b / 33554432 : Nat) : Int) := by simp
  have H1 : Hid (bits .and .u32 ((b / 33554432 : Nat) : Int) 1 = ((fld b 25 1 : Nat) : Int)) := u32_low (b / 33554432) 1 (by have := hb.out; omega) (by decide)
  have E1 := Lib.hid e1
  clear e1
  go_enter Try.func35, Try.ntmps35
  go_wp2_with fail
  go_region
  all_goals go_wp2
  all_goals go_ret
  all_goals exact retU_mk (by first | exact H1.out | (rw [E1.out]; exact H1.out) | (simp only [E1.out]; exact H1.out)) (by repeat (first | (with_reducible first | exact Below.refl _ _ | assumption | exact Nat.le_refl _ | refine Below.drew ?_ | refine Below.alloc ?_ ?_ _ | refine Below.setCell ?_ ?_ _ | refine le_alloc ?_ | refine le_set ?_ | refine le_drew ?_ | refine below_step (by assumption) ?_ ?_ | refine le_below (by assumption) ?_) | (dsimp only; omega)))
theorem field_3_1 (b : Nat) (hb : Hid (b < 4294967296)) (w : World) : Calls Try.prog 35 #[.int .u32 b, .int .i64 3, .int .i64 1] w (RetU (fld b 3 1) w) := by
  have e1 : (b : Int) / 8 = ((b / 8 : Nat) : Int) := by simp
  have H1 : Hid (bits .and .u32 ((b / 8 : Nat) : Int) 1 = ((fld b 3 1 : Nat) : Int)) := u32_low (b / 8) 1 (by have := hb.out; omega) (by decide)
  have E1 := Lib.hid e1
  clear e1
  go_enter Try.func35, Try.ntmps35
  go_wp2_with fail
  go_region
  all_goals go_wp2
  all_goals go_ret
  all_goals exact retU_mk (by first | exact H1.out | (rw [E1.out]; exact H1.out) | (simp only [E1.out]; exact H1.out)) (by repeat (first | (with_reducible first | exact Below.refl _ _ | assumption | exact Nat.le_refl _ | refine Below.drew ?_ | refine Below.alloc ?_ ?_ _ | refine Below.setCell ?_ ?_ _ | refine le_alloc ?_ | refine le_set ?_ | refine le_drew ?_ | refine below_step (by assumption) ?_ ?_ | refine le_below (by assumption) ?_) | (dsimp only; omega)))
theorem field_21_1 (b : Nat) (hb : Hid (b < 4294967296)) (w : World) : Calls Try.prog 35 #[.int .u32 b, .int .i64 21, .int .i64 1] w (RetU (fld b 21 1) w) := by
  have e1 : (b : Int) / 2097152 = ((b / 2097152 : Nat) : Int) := by simp
  have H1 : Hid (bits .and .u32 ((b / 2097152 : Nat) : Int) 1 = ((fld b 21 1 : Nat) : Int)) := u32_low (b / 2097152) 1 (by have := hb.out; omega) (by decide)
  have E1 := Lib.hid e1
  clear e1
  go_enter Try.func35, Try.ntmps35
  go_wp2_with fail
  go_region
  all_goals go_wp2
  all_goals go_ret
  all_goals exact retU_mk (by first | exact H1.out | (rw [E1.out]; exact H1.out) | (simp only [E1.out]; exact H1.out)) (by repeat (first | (with_reducible first | exact Below.refl _ _ | assumption | exact Nat.le_refl _ | refine Below.drew ?_ | refine Below.alloc ?_ ?_ _ | refine Below.setCell ?_ ?_ _ | refine le_alloc ?_ | refine le_set ?_ | refine le_drew ?_ | refine below_step (by assumption) ?_ ?_ | refine le_below (by assumption) ?_) | (dsimp only; omega)))
theorem field_20_1 (b : Nat) (hb : Hid (b < 4294967296)) (w : World) : Calls Try.prog 35 #[.int .u32 b, .int .i64 20, .int .i64 1] w (RetU (fld b 20 1) w) := by
  have e1 : (b : Int) / 1048576 = ((b / 1048576 : Nat) : Int) := by simp
  have H1 : Hid (bits .and .u32 ((b / 1048576 : Nat) : Int) 1 = ((fld b 20 1 : Nat) : Int)) := u32_low (b / 1048576) 1 (by have := hb.out; omega) (by decide)
  have E1 := Lib.hid e1
  clear e1
  go_enter Try.func35, Try.ntmps35
  go_wp2_with fail
  go_region
  all_goals go_wp2
  all_goals go_ret
  all_goals exact retU_mk (by first | exact H1.out | (rw [E1.out]; exact H1.out) | (simp only [E1.out]; exact H1.out)) (by repeat (first | (with_reducible first | exact Below.refl _ _ | assumption | exact Nat.le_refl _ | refine Below.drew ?_ | refine Below.alloc ?_ ?_ _ | refine Below.setCell ?_ ?_ _ | refine le_alloc ?_ | refine le_set ?_ | refine le_drew ?_ | refine below_step (by assumption) ?_ ?_ | refine le_below (by assumption) ?_) | (dsimp only; omega)))
theorem field_7_1 (b : Nat) (hb : Hid (b < 4294967296)) (w : World) : Calls Try.prog 35 #[.int .u32 b, .int .i64 7, .int .i64 1] w (RetU (fld b 7 1) w) := by
  have e1 : (b : Int) / 128 = ((b / 128 : Nat) : Int) := by simp
  have H1 : Hid (bits .and .u32 ((b / 128 : Nat) : Int) 1 = ((fld b 7 1 : Nat) : Int)) := u32_low (b / 128) 1 (by have := hb.out; omega) (by decide)
  have E1 := Lib.hid e1
  clear e1
  go_enter Try.func35, Try.ntmps35
  go_wp2_with fail
  go_region
  all_goals go_wp2
  all_goals go_ret
  all_goals exact retU_mk (by first | exact H1.out | (rw [E1.out]; exact H1.out) | (simp only [E1.out]; exact H1.out)) (by repeat (first | (with_reducible first | exact Below.refl _ _ | assumption | exact Nat.le_refl _ | refine Below.drew ?_ | refine Below.alloc ?_ ?_ _ | refine Below.setCell ?_ ?_ _ | refine le_alloc ?_ | refine le_set ?_ | refine le_drew ?_ | refine below_step (by assumption) ?_ ?_ | refine le_below (by assumption) ?_) | (dsimp only; omega)))
theorem field_25_6 (b : Nat) (hb : Hid (b < 4294967296)) (w : World) : Calls Try.prog 35 #[.int .u32 b, .int .i64 25, .int .i64 6] w (RetU (fld b 25 6) w) := by
  have e1 : (b : Int) / 33554432 = ((b / 33554432 : Nat) : Int) := by simp
  have H1 : Hid (bits .and .u32 ((b / 33554432 : Nat) : Int) 63 = ((fld b 25 6 : Nat) : Int)) := u32_low (b / 33554432) 6 (by have := hb.out; omega) (by decide)
  have E1 := Lib.hid e1
  clear e1
  go_enter Try.func35, Try.ntmps35
  go_wp2_with fail
  go_region
  all_goals go_wp2
  all_goals go_ret
  all_goals exact retU_mk (by first | exact H1.out | (rw [E1.out]; exact H1.out) | (simp only [E1.out]; exact H1.out)) (by repeat (first | (with_reducible first | exact Below.refl _ _ | assumption | exact Nat.le_refl _ | refine Below.drew ?_ | refine Below.alloc ?_ ?_ _ | refine Below.setCell ?_ ?_ _ | refine le_alloc ?_ | refine le_set ?_ | refine le_drew ?_ | refine below_step (by assumption) ?_ ?_ | refine le_below (by assumption) ?_) | (dsimp only; omega)))
theorem field_8_4 (b : Nat) (hb : Hid (b < 4294967296)) (w : World) : Calls Try.prog 35 #[.int .u32 b, .int .i64 8, .int .i64 4] w (RetU (fld b 8 4) w) := by
  have e1 : (b : Int) / 256 = ((b / 256 : Nat) : Int) := by simp
  have H1 : Hid (bits .and .u32 ((b / 256 : Nat) : Int) 15 = ((fld b 8 4 : Nat) : Int)) := u32_low (b / 256) 4 (by have := hb.out; omega) (by decide)
  have E1 := Lib.hid e1
  clear e1
  go_enter Try.func35, Try.ntmps35
  go_wp2_with fail
  go_region
  all_goals go_wp2
  all_goals go_ret
  all_goals exact retU_mk (by first | exact H1.out | (rw [E1.out]; exact H1.out) | (simp only [E1.out]; exact H1.out)) (by repeat (first | (with_reducible first | exact Below.refl _ _ | assumption | exact Nat.le_refl _ | refine Below.drew ?_ | refine Below.alloc ?_ ?_ _ | refine Below.setCell ?_ ?_ _ | refine le_alloc ?_ | refine le_set ?_ | refine le_drew ?_ | refine below_step (by assumption) ?_ ?_ | refine le_below (by assumption) ?_) | (dsimp only; omega)))
theorem field_12_8 (b : Nat) (hb : Hid (b < 4294967296)) (w : World) : Calls Try.prog 35 #[.int .u32 b, .int .i64 12, .int .i64 8] w (RetU (fld b 12 8) w) := by
  have e1 : (b : Int) / 4096 = ((b / 4096 : Nat) : Int) := by simp
  have H1 : Hid (bits .and .u32 ((b / 4096 : Nat) : Int) 255 = ((fld b 12 8 : Nat) : Int)) := u32_low (b / 4096) 8 (by have := hb.out; omega) (by decide)
  have E1 := Lib.hid e1
  clear e1
  go_enter Try.func35, Try.ntmps35
  go_wp2_with fail
  go_region
  all_goals go_wp2
  all_goals go_ret
  all_goals exact retU_mk (by first | exact H1.out | (rw [E1.out]; exact H1.out) | (simp only [E1.out]; exact H1.out)) (by repeat (first | (with_reducible first | exact Below.refl _ _ | assumption | exact Nat.le_refl _ | refine Below.drew ?_ | refine Below.alloc ?_ ?_ _ | refine Below.setCell ?_ ?_ _ | refine le_alloc ?_ | refine le_set ?_ | refine le_drew ?_ | refine below_step (by assumption) ?_ ?_ | refine le_below (by assumption) ?_) | (dsimp only; omega)))
theorem field_21_10 (b : Nat) (hb : Hid (b < 4294967296)) (w : World) : Calls Try.prog 35 #[.int .u32 b, .int .i64 21, .int .i64 10] w (RetU (fld b 21 10) w) := by
  have e1 : (b : Int) / 2097152 = ((b / 2097152 : Nat) : Int) := by simp
  have H1 : Hid (bits .and .u32 ((b / 2097152 : Nat) : Int) 1023 = ((fld b 21 10 : Nat) : Int)) := u32_low (b / 2097152) 10 (by have := hb.out; omega) (by decide)
  have E1 := Lib.hid e1
  clear e1
  go_enter Try.func35, Try.ntmps35
  go_wp2_with fail
  go_region
  all_goals go_wp2
  all_goals go_ret
  all_goals exact retU_mk (by first | exact H1.out | (rw [E1.out]; exact H1.out) | (simp only [E1.out]; exact H1.out)) (by repeat (first | (with_reducible first | exact Below.refl _ _ | assumption | exact Nat.le_refl _ | refine Below.drew ?_ | refine Below.alloc ?_ ?_ _ | refine Below.setCell ?_ ?_ _ | refine le_alloc ?_ | refine le_set ?_ | refine le_drew ?_ | refine below_step (by assumption) ?_ ?_ | refine le_below (by assumption) ?_) | (dsimp only; omega)))
theorem field_20_6 (b : Nat) (hb : Hid (b < 4294967296)) (w : World) : Calls Try.prog 35 #[.int .u32 b, .int .i64 20, .int .i64 6] w (RetU (fld b 20 6) w) := by
  have e1 : (b : Int) / 1048576 = ((b / 1048576 : Nat) : Int) := by simp
  have H1 : Hid (bits .and .u32 ((b / 1048576 : Nat) : Int) 63 = ((fld b 20 6 : Nat) : Int)) := u32_low (b / 1048576) 6 (by have := hb.out; omega) (by decide)
  have E1 := Lib.hid e1
  clear e1
  go_enter Try.func35, Try.ntmps35
  go_wp2_with fail
  go_region
  all_goals go_wp2
  all_goals go_ret
  all_goals exact retU_mk (by first | exact H1.out | (rw [E1.out]; exact H1.out) | (simp only [E1.out]; exact H1.out)) (by repeat (first | (with_reducible first | exact Below.refl _ _ | assumption | exact Nat.le_refl _ | refine Below.drew ?_ | refine Below.alloc ?_ ?_ _ | refine Below.setCell ?_ ?_ _ | refine le_alloc ?_ | refine le_set ?_ | refine le_drew ?_ | refine below_step (by assumption) ?_ ?_ | refine le_below (by assumption) ?_) | (dsimp only; omega)))
end Go.Proofs.Ytlohpakcikkdmaa
