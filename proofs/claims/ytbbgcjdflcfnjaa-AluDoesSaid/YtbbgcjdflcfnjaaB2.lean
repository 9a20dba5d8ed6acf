/- The contracts of quotient. -/
import Derived.Test.YtbbgcjdflcfnjaaB1
namespace Go.Proofs.Ytbbgcjdflcfnjaa
open Go.ChangeShapes Go.WideShapes Go.ChangeAt Go.RowKit
set_option linter.unusedVariables false
set_option linter.unusedSimpArgs false
set_option maxRecDepth 100000 in
theorem quotient_i32_c (a b : Int) (hb : b ≠ 0) (w : World) : Calls Try.prog 33 #[.int .i32 a, .int .i32 b] w (RetV .i32 (wrap32 (a.tdiv b)) w) := by
  go_enter Try.func33, Try.ntmps33
  go_wp2
  go_ret
  exact retV_mk rfl (by repeat (first | (with_reducible first | exact Below.refl _ _ | assumption | exact Nat.le_refl _ | refine Below.drew ?_ | refine Below.alloc ?_ ?_ _ | refine below_drewN ?_ _ | refine Below.setCell ?_ ?_ _ | refine le_alloc ?_ | refine le_set ?_ | refine le_drew ?_ | refine le_drewN ?_ | refine below_step (by assumption) ?_ ?_ | refine le_below (by assumption) ?_) | (dsimp only; omega)))
set_option maxRecDepth 100000 in
theorem quotient_i32_z (a : Int) (w : World) : Calls Try.prog 33 #[.int .i32 a, .int .i32 0] w (RetV .i32 (-1) w) := by
  go_enter Try.func33, Try.ntmps33
  go_wp2
  go_ret
  exact retV_mk rfl (by repeat (first | (with_reducible first | exact Below.refl _ _ | assumption | exact Nat.le_refl _ | refine Below.drew ?_ | refine Below.alloc ?_ ?_ _ | refine below_drewN ?_ _ | refine Below.setCell ?_ ?_ _ | refine le_alloc ?_ | refine le_set ?_ | refine le_drew ?_ | refine le_drewN ?_ | refine below_step (by assumption) ?_ ?_ | refine le_below (by assumption) ?_) | (dsimp only; omega)))
set_option maxRecDepth 100000 in
theorem quotient_i64_c (a b : Int) (hb : b ≠ 0) (w : World) : Calls Try.prog 36 #[.int .i64 a, .int .i64 b] w (RetV .i64 (wrap64 (a.tdiv b)) w) := by
  go_enter Try.func36, Try.ntmps36
  go_wp2
  go_ret
  exact retV_mk rfl (by repeat (first | (with_reducible first | exact Below.refl _ _ | assumption | exact Nat.le_refl _ | refine Below.drew ?_ | refine Below.alloc ?_ ?_ _ | refine below_drewN ?_ _ | refine Below.setCell ?_ ?_ _ | refine le_alloc ?_ | refine le_set ?_ | refine le_drew ?_ | refine le_drewN ?_ | refine below_step (by assumption) ?_ ?_ | refine le_below (by assumption) ?_) | (dsimp only; omega)))
set_option maxRecDepth 100000 in
theorem quotient_i64_z (a : Int) (w : World) : Calls Try.prog 36 #[.int .i64 a, .int .i64 0] w (RetV .i64 (-1) w) := by
  go_enter Try.func36, Try.ntmps36
  go_wp2
  go_ret
  exact retV_mk rfl (by repeat (first | (with_reducible first | exact Below.refl _ _ | assumption | exact Nat.le_refl _ | refine Below.drew ?_ | refine Below.alloc ?_ ?_ _ | refine below_drewN ?_ _ | refine Below.setCell ?_ ?_ _ | refine le_alloc ?_ | refine le_set ?_ | refine le_drew ?_ | refine le_drewN ?_ | refine below_step (by assumption) ?_ ?_ | refine le_below (by assumption) ?_) | (dsimp only; omega)))
set_option maxRecDepth 100000 in
theorem quotient_u32_c (a b : Nat) (ha : Hid (a < 4294967296)) (hb : Hid (b < 4294967296)) (hz : ¬ b = 0) (w : World) : Calls Try.prog 34 #[.int .u32 a, .int .u32 b] w (RetV .u32 ((a / b : Nat) : Int) w) := by
  have hz' : ¬ (b : Int) = 0 := by omega
  go_enter Try.func34, Try.ntmps34
  go_wp2
  go_ret
  exact retV_mk (by have := ha.out; have hl := Nat.div_le_self a b; have e : ((a : Int) / (b : Int)) = ((a / b : Nat) : Int) := (by simp); rw [e]; (try rw [IntKind.wrap_u64]); generalize a / b = q at *; omega) (by repeat (first | (with_reducible first | exact Below.refl _ _ | assumption | exact Nat.le_refl _ | refine Below.drew ?_ | refine Below.alloc ?_ ?_ _ | refine below_drewN ?_ _ | refine Below.setCell ?_ ?_ _ | refine le_alloc ?_ | refine le_set ?_ | refine le_drew ?_ | refine le_drewN ?_ | refine below_step (by assumption) ?_ ?_ | refine le_below (by assumption) ?_) | (dsimp only; omega)))
set_option maxRecDepth 100000 in
theorem quotient_u32_z (a : Nat) (w : World) : Calls Try.prog 34 #[.int .u32 a, .int .u32 0] w (RetV .u32 4294967295 w) := by
  go_enter Try.func34, Try.ntmps34
  go_wp2
  go_ret
  exact retV_mk rfl (by repeat (first | (with_reducible first | exact Below.refl _ _ | assumption | exact Nat.le_refl _ | refine Below.drew ?_ | refine Below.alloc ?_ ?_ _ | refine below_drewN ?_ _ | refine Below.setCell ?_ ?_ _ | refine le_alloc ?_ | refine le_set ?_ | refine le_drew ?_ | refine le_drewN ?_ | refine below_step (by assumption) ?_ ?_ | refine le_below (by assumption) ?_) | (dsimp only; omega)))
set_option maxRecDepth 100000 in
theorem quotient_u64_c (a b : Nat) (ha : Hid (a < 18446744073709551616)) (hb : Hid (b < 18446744073709551616)) (hz : ¬ b = 0) (w : World) : Calls Try.prog 37 #[.int .u64 a, .int .u64 b] w (RetV .u64 ((a / b : Nat) : Int) w) := by
  have hz' : ¬ (b : Int) = 0 := by omega
  go_enter Try.func37, Try.ntmps37
  go_wp2
  go_ret
  exact retV_mk (by have := ha.out; have hl := Nat.div_le_self a b; have e : ((a : Int) / (b : Int)) = ((a / b : Nat) : Int) := (by simp); rw [e]; (try rw [IntKind.wrap_u64]); generalize a / b = q at *; omega) (by repeat (first | (with_reducible first | exact Below.refl _ _ | assumption | exact Nat.le_refl _ | refine Below.drew ?_ | refine Below.alloc ?_ ?_ _ | refine below_drewN ?_ _ | refine Below.setCell ?_ ?_ _ | refine le_alloc ?_ | refine le_set ?_ | refine le_drew ?_ | refine le_drewN ?_ | refine below_step (by assumption) ?_ ?_ | refine le_below (by assumption) ?_) | (dsimp only; omega)))
set_option maxRecDepth 100000 in
theorem quotient_u64_z (a : Nat) (w : World) : Calls Try.prog 37 #[.int .u64 a, .int .u64 0] w (RetV .u64 18446744073709551615 w) := by
  go_enter Try.func37, Try.ntmps37
  go_wp2
  go_ret
  exact retV_mk rfl (by repeat (first | (with_reducible first | exact Below.refl _ _ | assumption | exact Nat.le_refl _ | refine Below.drew ?_ | refine Below.alloc ?_ ?_ _ | refine below_drewN ?_ _ | refine Below.setCell ?_ ?_ _ | refine le_alloc ?_ | refine le_set ?_ | refine le_drew ?_ | refine le_drewN ?_ | refine below_step (by assumption) ?_ ?_ | refine le_below (by assumption) ?_) | (dsimp only; omega)))
end Go.Proofs.Ytbbgcjdflcfnjaa
