/- The reference's Check of any access. -/
import Derived.Test.YtjkpcmhepeekmaaDoorR3
import Derived.Test.YtjkpcmhepeekmaaDoorR31
import Derived.Test.YtjkpcmhepeekmaaDoorR32
import Derived.Test.YtjkpcmhepeekmaaDoorR33
namespace Go.Proofs.YtjkpcmhepeekmaaDoor
open Go.ChangeShapes Go.WideShapes Go.ChangeAt Go.RowKit
set_option linter.unusedVariables false
set_option linter.unusedSimpArgs false

set_option maxRecDepth 100000 in
theorem CheckR_l (c a : Nat → Nat) (mode kind size : Int) (x : Nat) (h : kind < 0) (w : World) :
    Calls Tryd.prog 12 #[.agg (u8s c), .agg (u64s a), .int .i64 mode, .int .i64 kind, .int .u64 x, .int .i64 size] w (RetB false w) := by
  go_enter Tryd.func12, Tryd.ntmps12
  go_wp2_with fail
  go_ret
  exact retB_mk rfl (by repeat (first | (with_reducible first | exact Below.refl _ _ | assumption | exact Nat.le_refl _ | refine Below.drew ?_ | refine Below.alloc ?_ ?_ _ | refine Below.setCell ?_ ?_ _ | refine le_alloc ?_ | refine le_set ?_ | refine le_drew ?_ | refine below_step (by assumption) ?_ ?_ | refine le_below (by assumption) ?_) | (dsimp only; omega)))

set_option maxRecDepth 100000 in
theorem CheckR_g (c a : Nat → Nat) (mode kind size : Int) (x : Nat) (h0 : ¬ kind < 0) (h : kind > 3) (w : World) :
    Calls Tryd.prog 12 #[.agg (u8s c), .agg (u64s a), .int .i64 mode, .int .i64 kind, .int .u64 x, .int .i64 size] w (RetB false w) := by
  go_enter Tryd.func12, Tryd.ntmps12
  go_wp2_with fail
  go_ret
  exact retB_mk rfl (by repeat (first | (with_reducible first | exact Below.refl _ _ | assumption | exact Nat.le_refl _ | refine Below.drew ?_ | refine Below.alloc ?_ ?_ _ | refine Below.setCell ?_ ?_ _ | refine le_alloc ?_ | refine le_set ?_ | refine le_drew ?_ | refine below_step (by assumption) ?_ ?_ | refine le_below (by assumption) ?_) | (dsimp only; omega)))

set_option maxRecDepth 100000 in
theorem CheckR_s (c a : Nat → Nat) (mode kind size : Int) (x : Nat) (h0 : ¬ kind < 0) (h3 : ¬ kind > 3) (e1 : ¬ size = 1) (e2 : ¬ size = 2) (e3 : ¬ size = 4) (e4 : ¬ size = 8) (w : World) :
    Calls Tryd.prog 12 #[.agg (u8s c), .agg (u64s a), .int .i64 mode, .int .i64 kind, .int .u64 x, .int .i64 size] w (RetB false w) := by
  go_enter Tryd.func12, Tryd.ntmps12
  go_wp2_with fail
  go_ret
  exact retB_mk rfl (by repeat (first | (with_reducible first | exact Below.refl _ _ | assumption | exact Nat.le_refl _ | refine Below.drew ?_ | refine Below.alloc ?_ ?_ _ | refine Below.setCell ?_ ?_ _ | refine le_alloc ?_ | refine le_set ?_ | refine le_drew ?_ | refine below_step (by assumption) ?_ ?_ | refine le_below (by assumption) ?_) | (dsimp only; omega)))

set_option maxRecDepth 100000 in
theorem CheckR_o2 (c a : Nat → Nat) (mode kind : Int) (x : Nat) (h0 : ¬ kind < 0) (h3 : ¬ kind > 3) (x1 : decide ((18446744073709551614 : Int) < (x : Int)) = true) (w : World) :
    Calls Tryd.prog 12 #[.agg (u8s c), .agg (u64s a), .int .i64 mode, .int .i64 kind, .int .u64 x, .int .i64 2] w (RetB false w) := by
  go_enter Tryd.func12, Tryd.ntmps12
  go_wp2_with fail
  go_ret
  exact retB_mk rfl (by repeat (first | (with_reducible first | exact Below.refl _ _ | assumption | exact Nat.le_refl _ | refine Below.drew ?_ | refine Below.alloc ?_ ?_ _ | refine Below.setCell ?_ ?_ _ | refine le_alloc ?_ | refine le_set ?_ | refine le_drew ?_ | refine below_step (by assumption) ?_ ?_ | refine le_below (by assumption) ?_) | (dsimp only; omega)))

set_option maxRecDepth 100000 in
theorem CheckR_o4 (c a : Nat → Nat) (mode kind : Int) (x : Nat) (h0 : ¬ kind < 0) (h3 : ¬ kind > 3) (x1 : decide ((18446744073709551612 : Int) < (x : Int)) = true) (w : World) :
    Calls Tryd.prog 12 #[.agg (u8s c), .agg (u64s a), .int .i64 mode, .int .i64 kind, .int .u64 x, .int .i64 4] w (RetB false w) := by
  go_enter Tryd.func12, Tryd.ntmps12
  go_wp2_with fail
  go_ret
  exact retB_mk rfl (by repeat (first | (with_reducible first | exact Below.refl _ _ | assumption | exact Nat.le_refl _ | refine Below.drew ?_ | refine Below.alloc ?_ ?_ _ | refine Below.setCell ?_ ?_ _ | refine le_alloc ?_ | refine le_set ?_ | refine le_drew ?_ | refine below_step (by assumption) ?_ ?_ | refine le_below (by assumption) ?_) | (dsimp only; omega)))

set_option maxRecDepth 100000 in
theorem CheckR_o8 (c a : Nat → Nat) (mode kind : Int) (x : Nat) (h0 : ¬ kind < 0) (h3 : ¬ kind > 3) (x1 : decide ((18446744073709551608 : Int) < (x : Int)) = true) (w : World) :
    Calls Tryd.prog 12 #[.agg (u8s c), .agg (u64s a), .int .i64 mode, .int .i64 kind, .int .u64 x, .int .i64 8] w (RetB false w) := by
  go_enter Tryd.func12, Tryd.ntmps12
  go_wp2_with fail
  go_ret
  exact retB_mk rfl (by repeat (first | (with_reducible first | exact Below.refl _ _ | assumption | exact Nat.le_refl _ | refine Below.drew ?_ | refine Below.alloc ?_ ?_ _ | refine Below.setCell ?_ ?_ _ | refine le_alloc ?_ | refine le_set ?_ | refine le_drew ?_ | refine below_step (by assumption) ?_ ?_ | refine le_below (by assumption) ?_) | (dsimp only; omega)))

theorem CheckR_c (c a : Nat → Nat) (mode kind : Int) (x : Nat) (size : Int) (hc : Hid (OkC c)) (ha : Hid (OkA a)) (hx : Hid (x < 18446744073709551616)) (w : World) :
    Calls Tryd.prog 12 #[.agg (u8s c), .agg (u64s a), .int .i64 mode, .int .i64 kind, .int .u64 x, .int .i64 size] w (RetB (chkB c a mode kind x size) w) := by
  cases h : accB kind x size with
  | true =>
    obtain ⟨k, s, hk⟩ := acc_y h
    rw [chk_y hk]
    obtain ⟨rfl, h1, rfl, h2, h3⟩ := hk
    rcases h2 with rfl | rfl | rfl | rfl
    · exact CheckR_1 c a mode x k h1 h3 hc ha hx _ (mode_beq mode) w
    · exact CheckR_2 c a mode x k h1 h3 hc ha hx _ (mode_beq mode) w
    · exact CheckR_4 c a mode x k h1 h3 hc ha hx _ (mode_beq mode) w
    · exact CheckR_8 c a mode x k h1 h3 hc ha hx _ (mode_beq mode) w
  | false =>
    rw [chk_n h]
    by_cases k0 : kind < 0
    · exact CheckR_l c a mode kind size x k0 w
    · by_cases k3 : kind > 3
      · exact CheckR_g c a mode kind size x k0 k3 w
      · have hx := hx.out
        rcases acc_n h with ⟨h1, h2, h3, h4⟩ | ⟨h1, h2⟩ | ⟨h1, h2, h3⟩ | ⟨h1, h2, h3, h4⟩
        · exact CheckR_s c a mode kind size x k0 k3 h1 h2 h3 h4 w
        · omega
        · omega
        · rcases h1 with rfl | rfl | rfl | rfl
          · omega
          · exact CheckR_o2 c a mode kind x k0 k3 (by rw [decide_eq_true_eq]; omega) w
          · exact CheckR_o4 c a mode kind x k0 k3 (by rw [decide_eq_true_eq]; omega) w
          · exact CheckR_o8 c a mode kind x k0 k3 (by rw [decide_eq_true_eq]; omega) w
end Go.Proofs.YtjkpcmhepeekmaaDoor
