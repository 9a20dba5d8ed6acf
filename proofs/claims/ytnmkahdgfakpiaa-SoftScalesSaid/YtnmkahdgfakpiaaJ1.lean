/- The law's func0. -/
import Derived.Test.YtnmkahdgfakpiaaI1
import Derived.Test.YtnmkahdgfakpiaaG12
namespace Go.Proofs.Ytnmkahdgfakpiaa
open Go.ChangeShapes Go.WideShapes Go.ChangeAt Go.RowKit
set_option linter.unusedVariables false
set_option linter.unusedSimpArgs false
theorem func0_4 (a : Nat) (ha : Hid (a < 18446744073709551616)) (w : World) : Calls Try.prog 32 #[.int .i64 4, .int .u64 a] w (RetB (func0B false a) w) := by
  have E : Hid (func0B false a = decide (a % 4294967296 % 2147483648 / 8388608 = 0)) := by
    show decide (a % 2147483648 / 8388608 = 0) = _
    rw [show a % 4294967296 % 2147483648 = a % 2147483648 by omega]
  have hl : Hid (a % 4294967296 < 4294967296) := Nat.mod_lt _ (by decide)
  have hm := Lib.hid (fun v => mask_4 a ha v)
  generalize a % 4294967296 = b at *
  go_enter Try.func32, Try.ntmps32
  go_wp2_with fail
  refine (hm.out _).mono ?_; rintro e w1 ⟨rfl, hb1⟩
  go_wp2_with fail
  go_ret
  exact retB_mk (by rw [E.out, Bool.eq_iff_iff]; (try simp only [IntKind.wrap_u64, beq_iff_eq, decide_eq_true_eq]); have := hl.out; omega) (by repeat (first | (with_reducible first | exact Below.refl _ _ | assumption | exact Nat.le_refl _ | refine Below.drew ?_ | refine Below.alloc ?_ ?_ _ | refine Below.setCell ?_ ?_ _ | refine le_alloc ?_ | refine le_set ?_ | refine le_drew ?_ | refine below_step (by assumption) ?_ ?_ | refine le_below (by assumption) ?_) | (dsimp only; omega)))
theorem func0_8 (a : Nat) (ha : Hid (a < 18446744073709551616)) (w : World) : Calls Try.prog 32 #[.int .i64 8, .int .u64 a] w (RetB (func0B true a) w) := by
  have E : Hid (func0B true a = decide (a % 9223372036854775808 / 4503599627370496 = 0)) := rfl
  have hm := Lib.hid (fun v => mask_8 a ha v)
  go_enter Try.func32, Try.ntmps32
  go_wp2_with fail
  refine (hm.out _).mono ?_; rintro e w1 ⟨rfl, hb1⟩
  go_wp2_with fail
  go_ret
  exact retB_mk (by rw [E.out, Bool.eq_iff_iff]; (try simp only [IntKind.wrap_u64, beq_iff_eq, decide_eq_true_eq]); have := ha.out; omega) (by repeat (first | (with_reducible first | exact Below.refl _ _ | assumption | exact Nat.le_refl _ | refine Below.drew ?_ | refine Below.alloc ?_ ?_ _ | refine Below.setCell ?_ ?_ _ | refine le_alloc ?_ | refine le_set ?_ | refine le_drew ?_ | refine below_step (by assumption) ?_ ?_ | refine le_below (by assumption) ?_) | (dsimp only; omega)))
end Go.Proofs.Ytnmkahdgfakpiaa
