/- The contracts of the ranges of whole numbers: farthest, number; of whole. -/
import Derived.Test.YteinjalnkhfecaaC1
import Derived.Test.YteinjalnkhfecaaShelf
namespace Go.Proofs.Yteinjalnkhfecaa
open Go.ChangeShapes Go.WideShapes Go.ChangeAt Go.RowKit
set_option linter.unusedVariables false
set_option linter.unusedSimpArgs false
/-- The distance from 0 of an end of a range. -/
def farV (w u m : Bool) : Nat := if u && m then 0 else if u then (if w then 4294967295 else 18446744073709551615) else if m then (if w then 2147483648 else 9223372036854775808) else (if w then 2147483647 else 9223372036854775807)
set_option maxRecDepth 100000 in
theorem farthest_c (wd u m : Bool) (w : World) : Calls Try.prog 45 #[.agg #[.bool wd, .bool u], .bool m] w (RetU (farV wd u m) w) := by
  cases wd <;> cases u <;> cases m
  all_goals (
    go_enter Try.func45, Try.ntmps45
    go_wp2_with fail
    go_ret
    exact retU_mk rfl (by repeat (first | (with_reducible first | exact Below.refl _ _ | assumption | exact Nat.le_refl _ | refine Below.drew ?_ | refine Below.alloc ?_ ?_ _ | refine Below.setCell ?_ ?_ _ | refine le_alloc ?_ | refine le_set ?_ | refine le_drew ?_ | refine below_step (by assumption) ?_ ?_ | refine le_below (by assumption) ?_) | (dsimp only; omega))))
/-- 32 bits widened by their highest one. -/
def wideV (x : Nat) : Nat := if x % 4294967296 < 2147483648 then x % 4294967296 else x % 4294967296 + 18446744069414584320
def numV (wd m : Bool) (x : Nat) : Nat :=
  let y := if m then (18446744073709551616 - x) % 18446744073709551616 else x
  if wd then wideV y else y
theorem wide_form (x : Nat) : IntKind.u64.wrap (wrap64 (wrap32 (x : Int))) = ((wideV x : Nat) : Int) := by
  rw [IntKind.wrap_u64]; unfold wideV wrap64 wrap32; split <;> omega
theorem neg_form (x : Nat) (hx : x < 18446744073709551616) : IntKind.u64.wrap (-(x : Int)) = (((18446744073709551616 - x) % 18446744073709551616 : Nat) : Int) := by
  rw [IntKind.wrap_u64]; omega
set_option maxRecDepth 100000 in
theorem number_ff (u : Bool) (x : Nat) (w : World) : Calls Try.prog 46 #[.agg #[.bool false, .bool u], .bool false, .int .u64 x] w (RetU x w) := by
  go_enter Try.func46, Try.ntmps46
  go_wp2_with fail
  go_ret
  exact retU_mk rfl (by repeat (first | (with_reducible first | exact Below.refl _ _ | assumption | exact Nat.le_refl _ | refine Below.drew ?_ | refine Below.alloc ?_ ?_ _ | refine Below.setCell ?_ ?_ _ | refine le_alloc ?_ | refine le_set ?_ | refine le_drew ?_ | refine below_step (by assumption) ?_ ?_ | refine le_below (by assumption) ?_) | (dsimp only; omega)))
set_option maxRecDepth 100000 in
theorem number_tf (u : Bool) (x : Nat) (w : World) : Calls Try.prog 46 #[.agg #[.bool true, .bool u], .bool false, .int .u64 x] w (RetU (wideV x) w) := by
  have W := Lib.hid (wide_form x)
  generalize wideV x = v at *
  go_enter Try.func46, Try.ntmps46
  go_wp2_with fail
  go_ret
  exact retU_mk W.out (by repeat (first | (with_reducible first | exact Below.refl _ _ | assumption | exact Nat.le_refl _ | refine Below.drew ?_ | refine Below.alloc ?_ ?_ _ | refine Below.setCell ?_ ?_ _ | refine le_alloc ?_ | refine le_set ?_ | refine le_drew ?_ | refine below_step (by assumption) ?_ ?_ | refine le_below (by assumption) ?_) | (dsimp only; omega)))
set_option maxRecDepth 100000 in
theorem number_ft (u : Bool) (x y : Nat) (E : Hid (IntKind.u64.wrap (-(x : Int)) = (y : Int))) (w : World) : Calls Try.prog 46 #[.agg #[.bool false, .bool u], .bool true, .int .u64 x] w (RetU y w) := by
  go_enter Try.func46, Try.ntmps46
  go_wp2_with fail
  go_ret
  exact retU_mk E.out (by repeat (first | (with_reducible first | exact Below.refl _ _ | assumption | exact Nat.le_refl _ | refine Below.drew ?_ | refine Below.alloc ?_ ?_ _ | refine Below.setCell ?_ ?_ _ | refine le_alloc ?_ | refine le_set ?_ | refine le_drew ?_ | refine below_step (by assumption) ?_ ?_ | refine le_below (by assumption) ?_) | (dsimp only; omega)))
set_option maxRecDepth 100000 in
theorem number_tt (u : Bool) (x y : Nat) (E : IntKind.u64.wrap (-(x : Int)) = (y : Int)) (w : World) : Calls Try.prog 46 #[.agg #[.bool true, .bool u], .bool true, .int .u64 x] w (RetU (wideV y) w) := by
  have W := Lib.hid (wide_form y)
  generalize wideV y = v at *
  go_enter Try.func46, Try.ntmps46
  go_wp2_with fail
  go_ret
  exact retU_mk W.out (by repeat (first | (with_reducible first | exact Below.refl _ _ | assumption | exact Nat.le_refl _ | refine Below.drew ?_ | refine Below.alloc ?_ ?_ _ | refine Below.setCell ?_ ?_ _ | refine le_alloc ?_ | refine le_set ?_ | refine le_drew ?_ | refine below_step (by assumption) ?_ ?_ | refine le_below (by assumption) ?_) | (dsimp only; omega)))
theorem number_c (wd u m : Bool) (x : Nat) (hx : x < 18446744073709551616) (w : World) : Calls Try.prog 46 #[.agg #[.bool wd, .bool u], .bool m, .int .u64 x] w (RetU (numV wd m x) w) := by
  cases wd <;> cases m
  · exact number_ff u x w
  · exact number_ft u x _ (neg_form x hx) w
  · exact number_tf u x w
  · exact number_tt u x _ (neg_form x hx) w
end Go.Proofs.Yteinjalnkhfecaa
