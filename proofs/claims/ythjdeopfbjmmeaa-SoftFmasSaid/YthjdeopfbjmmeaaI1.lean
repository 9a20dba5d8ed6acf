/- The reference's Nan, Inf, Zero. -/
import Derived.Test.YthjdeopfbjmmeaaF2
import Derived.Test.YthjdeopfbjmmeaaG9
namespace Go.Proofs.Ythjdeopfbjmmeaa
open Go.ChangeShapes Go.WideShapes Go.ChangeAt Go.RowKit
set_option linter.unusedVariables false
set_option linter.unusedSimpArgs false
theorem nanb_4 (a : Nat) (ha : Hid (a < 18446744073709551616)) (w : World) : Calls Try.prog 27 #[.int .i64 4, .int .u64 a] w (RetB (nanB false a) w) := by
  go_enter Try.func27, Try.ntmps27
  go_wp2_with fail
  refine (shape_4 _).mono ?_; rintro e w1 ⟨rfl, hb1⟩
  go_wp2_with fail
  refine (parts_4 a ha _).mono ?_; rintro e w2 ⟨rfl, hb2⟩
  have HN : Hid (nanB false a = decide (a / fracT false % expT false = 255 ∧ a % fracT false ≠ 0)) := rfl
  generalize a / fracT false % expT false = x at *
  generalize a % fracT false = m at *
  by_cases h1 : x = 255
  · have g1 : ((x : Int) == 255) = true := by rw [beq_iff_eq]; omega
    by_cases h2 : m = 0
    · have g2 : ((m : Int) != 0) = false := by rw [h2]; rfl
      have E : Hid (nanB false a = false) := by show _ = _; rw [HN.out]; exact decide_eq_false (fun h => h.2 h2)
      clear h1 h2 HN
      go_wp2_with fail
      go_ret
      exact retB_mk E.out.symm (by repeat (first | (with_reducible first | exact Below.refl _ _ | assumption | exact Nat.le_refl _ | refine Below.drew ?_ | refine Below.alloc ?_ ?_ _ | refine Below.setCell ?_ ?_ _ | refine le_alloc ?_ | refine le_set ?_ | refine le_drew ?_ | refine below_step (by assumption) ?_ ?_ | refine le_below (by assumption) ?_) | (dsimp only; omega)))
    · have g2 : ((m : Int) != 0) = true := by rw [bne_iff_ne]; omega
      have E : Hid (nanB false a = true) := by show _ = _; rw [HN.out]; exact decide_eq_true ⟨h1, h2⟩
      clear h1 h2 HN
      go_wp2_with fail
      go_ret
      exact retB_mk E.out.symm (by repeat (first | (with_reducible first | exact Below.refl _ _ | assumption | exact Nat.le_refl _ | refine Below.drew ?_ | refine Below.alloc ?_ ?_ _ | refine Below.setCell ?_ ?_ _ | refine le_alloc ?_ | refine le_set ?_ | refine le_drew ?_ | refine below_step (by assumption) ?_ ?_ | refine le_below (by assumption) ?_) | (dsimp only; omega)))
  · have g1 : ((x : Int) == 255) = false := by rw [beq_eq_false_iff_ne]; omega
    have E : Hid (nanB false a = false) := by show _ = _; rw [HN.out]; exact decide_eq_false (fun h => h1 h.1)
    clear h1 HN
    go_wp2_with fail
    go_ret
    exact retB_mk E.out.symm (by repeat (first | (with_reducible first | exact Below.refl _ _ | assumption | exact Nat.le_refl _ | refine Below.drew ?_ | refine Below.alloc ?_ ?_ _ | refine Below.setCell ?_ ?_ _ | refine le_alloc ?_ | refine le_set ?_ | refine le_drew ?_ | refine below_step (by assumption) ?_ ?_ | refine le_below (by assumption) ?_) | (dsimp only; omega)))
theorem infb_4 (a : Nat) (ha : Hid (a < 18446744073709551616)) (w : World) : Calls Try.prog 30 #[.int .i64 4, .int .u64 a] w (RetB (isInf false a) w) := by
  go_enter Try.func30, Try.ntmps30
  go_wp2_with fail
  refine (shape_4 _).mono ?_; rintro e w1 ⟨rfl, hb1⟩
  go_wp2_with fail
  refine (parts_4 a ha _).mono ?_; rintro e w2 ⟨rfl, hb2⟩
  have HN : Hid (isInf false a = decide (a / fracT false % expT false = 255 ∧ a % fracT false = 0)) := rfl
  generalize a / fracT false % expT false = x at *
  generalize a % fracT false = m at *
  by_cases h1 : x = 255
  · have g1 : ((x : Int) == 255) = true := by rw [beq_iff_eq]; omega
    by_cases h2 : m = 0
    · have g2 : ((m : Int) == 0) = true := by rw [h2]; rfl
      have E : Hid (isInf false a = true) := by show _ = _; rw [HN.out]; exact decide_eq_true ⟨h1, h2⟩
      clear h1 h2 HN
      go_wp2_with fail
      go_ret
      exact retB_mk E.out.symm (by repeat (first | (with_reducible first | exact Below.refl _ _ | assumption | exact Nat.le_refl _ | refine Below.drew ?_ | refine Below.alloc ?_ ?_ _ | refine Below.setCell ?_ ?_ _ | refine le_alloc ?_ | refine le_set ?_ | refine le_drew ?_ | refine below_step (by assumption) ?_ ?_ | refine le_below (by assumption) ?_) | (dsimp only; omega)))
    · have g2 : ((m : Int) == 0) = false := by rw [beq_eq_false_iff_ne]; omega
      have E : Hid (isInf false a = false) := by show _ = _; rw [HN.out]; exact decide_eq_false (fun h => h2 h.2)
      clear h1 h2 HN
      go_wp2_with fail
      go_ret
      exact retB_mk E.out.symm (by repeat (first | (with_reducible first | exact Below.refl _ _ | assumption | exact Nat.le_refl _ | refine Below.drew ?_ | refine Below.alloc ?_ ?_ _ | refine Below.setCell ?_ ?_ _ | refine le_alloc ?_ | refine le_set ?_ | refine le_drew ?_ | refine below_step (by assumption) ?_ ?_ | refine le_below (by assumption) ?_) | (dsimp only; omega)))
  · have g1 : ((x : Int) == 255) = false := by rw [beq_eq_false_iff_ne]; omega
    have E : Hid (isInf false a = false) := by show _ = _; rw [HN.out]; exact decide_eq_false (fun h => h1 h.1)
    clear h1 HN
    go_wp2_with fail
    go_ret
    exact retB_mk E.out.symm (by repeat (first | (with_reducible first | exact Below.refl _ _ | assumption | exact Nat.le_refl _ | refine Below.drew ?_ | refine Below.alloc ?_ ?_ _ | refine Below.setCell ?_ ?_ _ | refine le_alloc ?_ | refine le_set ?_ | refine le_drew ?_ | refine below_step (by assumption) ?_ ?_ | refine le_below (by assumption) ?_) | (dsimp only; omega)))
theorem zerob_4 (a : Nat) (ha : Hid (a < 18446744073709551616)) (w : World) : Calls Try.prog 31 #[.int .i64 4, .int .u64 a] w (RetB (isZero false a) w) := by
  go_enter Try.func31, Try.ntmps31
  go_wp2_with fail
  refine (parts_4 a ha _).mono ?_; rintro e w2 ⟨rfl, hb2⟩
  have HN : Hid (isZero false a = decide (a / fracT false % expT false = 0 ∧ a % fracT false = 0)) := rfl
  generalize a / fracT false % expT false = x at *
  generalize a % fracT false = m at *
  by_cases h1 : x = 0
  · have g1 : ((x : Int) == 0) = true := by rw [beq_iff_eq]; omega
    by_cases h2 : m = 0
    · have g2 : ((m : Int) == 0) = true := by rw [h2]; rfl
      have E : Hid (isZero false a = true) := by show _ = _; rw [HN.out]; exact decide_eq_true ⟨h1, h2⟩
      clear h1 h2 HN
      go_wp2_with fail
      go_ret
      exact retB_mk E.out.symm (by repeat (first | (with_reducible first | exact Below.refl _ _ | assumption | exact Nat.le_refl _ | refine Below.drew ?_ | refine Below.alloc ?_ ?_ _ | refine Below.setCell ?_ ?_ _ | refine le_alloc ?_ | refine le_set ?_ | refine le_drew ?_ | refine below_step (by assumption) ?_ ?_ | refine le_below (by assumption) ?_) | (dsimp only; omega)))
    · have g2 : ((m : Int) == 0) = false := by rw [beq_eq_false_iff_ne]; omega
      have E : Hid (isZero false a = false) := by show _ = _; rw [HN.out]; exact decide_eq_false (fun h => h2 h.2)
      clear h1 h2 HN
      go_wp2_with fail
      go_ret
      exact retB_mk E.out.symm (by repeat (first | (with_reducible first | exact Below.refl _ _ | assumption | exact Nat.le_refl _ | refine Below.drew ?_ | refine Below.alloc ?_ ?_ _ | refine Below.setCell ?_ ?_ _ | refine le_alloc ?_ | refine le_set ?_ | refine le_drew ?_ | refine below_step (by assumption) ?_ ?_ | refine le_below (by assumption) ?_) | (dsimp only; omega)))
  · have g1 : ((x : Int) == 0) = false := by rw [beq_eq_false_iff_ne]; omega
    have E : Hid (isZero false a = false) := by show _ = _; rw [HN.out]; exact decide_eq_false (fun h => h1 h.1)
    clear h1 HN
    go_wp2_with fail
    go_ret
    exact retB_mk E.out.symm (by repeat (first | (with_reducible first | exact Below.refl _ _ | assumption | exact Nat.le_refl _ | refine Below.drew ?_ | refine Below.alloc ?_ ?_ _ | refine Below.setCell ?_ ?_ _ | refine le_alloc ?_ | refine le_set ?_ | refine le_drew ?_ | refine below_step (by assumption) ?_ ?_ | refine le_below (by assumption) ?_) | (dsimp only; omega)))
theorem nanb_8 (a : Nat) (ha : Hid (a < 18446744073709551616)) (w : World) : Calls Try.prog 27 #[.int .i64 8, .int .u64 a] w (RetB (nanB true a) w) := by
  go_enter Try.func27, Try.ntmps27
  go_wp2_with fail
  refine (shape_8 _).mono ?_; rintro e w1 ⟨rfl, hb1⟩
  go_wp2_with fail
  refine (parts_8 a ha _).mono ?_; rintro e w2 ⟨rfl, hb2⟩
  have HN : Hid (nanB true a = decide (a / fracT true % expT true = 2047 ∧ a % fracT true ≠ 0)) := rfl
  generalize a / fracT true % expT true = x at *
  generalize a % fracT true = m at *
  by_cases h1 : x = 2047
  · have g1 : ((x : Int) == 2047) = true := by rw [beq_iff_eq]; omega
    by_cases h2 : m = 0
    · have g2 : ((m : Int) != 0) = false := by rw [h2]; rfl
      have E : Hid (nanB true a = false) := by show _ = _; rw [HN.out]; exact decide_eq_false (fun h => h.2 h2)
      clear h1 h2 HN
      go_wp2_with fail
      go_ret
      exact retB_mk E.out.symm (by repeat (first | (with_reducible first | exact Below.refl _ _ | assumption | exact Nat.le_refl _ | refine Below.drew ?_ | refine Below.alloc ?_ ?_ _ | refine Below.setCell ?_ ?_ _ | refine le_alloc ?_ | refine le_set ?_ | refine le_drew ?_ | refine below_step (by assumption) ?_ ?_ | refine le_below (by assumption) ?_) | (dsimp only; omega)))
    · have g2 : ((m : Int) != 0) = true := by rw [bne_iff_ne]; omega
      have E : Hid (nanB true a = true) := by show _ = _; rw [HN.out]; exact decide_eq_true ⟨h1, h2⟩
      clear h1 h2 HN
      go_wp2_with fail
      go_ret
      exact retB_mk E.out.symm (by repeat (first | (with_reducible first | exact Below.refl _ _ | assumption | exact Nat.le_refl _ | refine Below.drew ?_ | refine Below.alloc ?_ ?_ _ | refine Below.setCell ?_ ?_ _ | refine le_alloc ?_ | refine le_set ?_ | refine le_drew ?_ | refine below_step (by assumption) ?_ ?_ | refine le_below (by assumption) ?_) | (dsimp only; omega)))
  · have g1 : ((x : Int) == 2047) = false := by rw [beq_eq_false_iff_ne]; omega
    have E : Hid (nanB true a = false) := by show _ = _; rw [HN.out]; exact decide_eq_false (fun h => h1 h.1)
    clear h1 HN
    go_wp2_with fail
    go_ret
    exact retB_mk E.out.symm (by repeat (first | (with_reducible first | exact Below.refl _ _ | assumption | exact Nat.le_refl _ | refine Below.drew ?_ | refine Below.alloc ?_ ?_ _ | refine Below.setCell ?_ ?_ _ | refine le_alloc ?_ | refine le_set ?_ | refine le_drew ?_ | refine below_step (by assumption) ?_ ?_ | refine le_below (by assumption) ?_) | (dsimp only; omega)))
theorem infb_8 (a : Nat) (ha : Hid (a < 18446744073709551616)) (w : World) : Calls Try.prog 30 #[.int .i64 8, .int .u64 a] w (RetB (isInf true a) w) := by
  go_enter Try.func30, Try.ntmps30
  go_wp2_with fail
  refine (shape_8 _).mono ?_; rintro e w1 ⟨rfl, hb1⟩
  go_wp2_with fail
  refine (parts_8 a ha _).mono ?_; rintro e w2 ⟨rfl, hb2⟩
  have HN : Hid (isInf true a = decide (a / fracT true % expT true = 2047 ∧ a % fracT true = 0)) := rfl
  generalize a / fracT true % expT true = x at *
  generalize a % fracT true = m at *
  by_cases h1 : x = 2047
  · have g1 : ((x : Int) == 2047) = true := by rw [beq_iff_eq]; omega
    by_cases h2 : m = 0
    · have g2 : ((m : Int) == 0) = true := by rw [h2]; rfl
      have E : Hid (isInf true a = true) := by show _ = _; rw [HN.out]; exact decide_eq_true ⟨h1, h2⟩
      clear h1 h2 HN
      go_wp2_with fail
      go_ret
      exact retB_mk E.out.symm (by repeat (first | (with_reducible first | exact Below.refl _ _ | assumption | exact Nat.le_refl _ | refine Below.drew ?_ | refine Below.alloc ?_ ?_ _ | refine Below.setCell ?_ ?_ _ | refine le_alloc ?_ | refine le_set ?_ | refine le_drew ?_ | refine below_step (by assumption) ?_ ?_ | refine le_below (by assumption) ?_) | (dsimp only; omega)))
    · have g2 : ((m : Int) == 0) = false := by rw [beq_eq_false_iff_ne]; omega
      have E : Hid (isInf true a = false) := by show _ = _; rw [HN.out]; exact decide_eq_false (fun h => h2 h.2)
      clear h1 h2 HN
      go_wp2_with fail
      go_ret
      exact retB_mk E.out.symm (by repeat (first | (with_reducible first | exact Below.refl _ _ | assumption | exact Nat.le_refl _ | refine Below.drew ?_ | refine Below.alloc ?_ ?_ _ | refine Below.setCell ?_ ?_ _ | refine le_alloc ?_ | refine le_set ?_ | refine le_drew ?_ | refine below_step (by assumption) ?_ ?_ | refine le_below (by assumption) ?_) | (dsimp only; omega)))
  · have g1 : ((x : Int) == 2047) = false := by rw [beq_eq_false_iff_ne]; omega
    have E : Hid (isInf true a = false) := by show _ = _; rw [HN.out]; exact decide_eq_false (fun h => h1 h.1)
    clear h1 HN
    go_wp2_with fail
    go_ret
    exact retB_mk E.out.symm (by repeat (first | (with_reducible first | exact Below.refl _ _ | assumption | exact Nat.le_refl _ | refine Below.drew ?_ | refine Below.alloc ?_ ?_ _ | refine Below.setCell ?_ ?_ _ | refine le_alloc ?_ | refine le_set ?_ | refine le_drew ?_ | refine below_step (by assumption) ?_ ?_ | refine le_below (by assumption) ?_) | (dsimp only; omega)))
theorem zerob_8 (a : Nat) (ha : Hid (a < 18446744073709551616)) (w : World) : Calls Try.prog 31 #[.int .i64 8, .int .u64 a] w (RetB (isZero true a) w) := by
  go_enter Try.func31, Try.ntmps31
  go_wp2_with fail
  refine (parts_8 a ha _).mono ?_; rintro e w2 ⟨rfl, hb2⟩
  have HN : Hid (isZero true a = decide (a / fracT true % expT true = 0 ∧ a % fracT true = 0)) := rfl
  generalize a / fracT true % expT true = x at *
  generalize a % fracT true = m at *
  by_cases h1 : x = 0
  · have g1 : ((x : Int) == 0) = true := by rw [beq_iff_eq]; omega
    by_cases h2 : m = 0
    · have g2 : ((m : Int) == 0) = true := by rw [h2]; rfl
      have E : Hid (isZero true a = true) := by show _ = _; rw [HN.out]; exact decide_eq_true ⟨h1, h2⟩
      clear h1 h2 HN
      go_wp2_with fail
      go_ret
      exact retB_mk E.out.symm (by repeat (first | (with_reducible first | exact Below.refl _ _ | assumption | exact Nat.le_refl _ | refine Below.drew ?_ | refine Below.alloc ?_ ?_ _ | refine Below.setCell ?_ ?_ _ | refine le_alloc ?_ | refine le_set ?_ | refine le_drew ?_ | refine below_step (by assumption) ?_ ?_ | refine le_below (by assumption) ?_) | (dsimp only; omega)))
    · have g2 : ((m : Int) == 0) = false := by rw [beq_eq_false_iff_ne]; omega
      have E : Hid (isZero true a = false) := by show _ = _; rw [HN.out]; exact decide_eq_false (fun h => h2 h.2)
      clear h1 h2 HN
      go_wp2_with fail
      go_ret
      exact retB_mk E.out.symm (by repeat (first | (with_reducible first | exact Below.refl _ _ | assumption | exact Nat.le_refl _ | refine Below.drew ?_ | refine Below.alloc ?_ ?_ _ | refine Below.setCell ?_ ?_ _ | refine le_alloc ?_ | refine le_set ?_ | refine le_drew ?_ | refine below_step (by assumption) ?_ ?_ | refine le_below (by assumption) ?_) | (dsimp only; omega)))
  · have g1 : ((x : Int) == 0) = false := by rw [beq_eq_false_iff_ne]; omega
    have E : Hid (isZero true a = false) := by show _ = _; rw [HN.out]; exact decide_eq_false (fun h => h1 h.1)
    clear h1 HN
    go_wp2_with fail
    go_ret
    exact retB_mk E.out.symm (by repeat (first | (with_reducible first | exact Below.refl _ _ | assumption | exact Nat.le_refl _ | refine Below.drew ?_ | refine Below.alloc ?_ ?_ _ | refine Below.setCell ?_ ?_ _ | refine le_alloc ?_ | refine le_set ?_ | refine le_drew ?_ | refine below_step (by assumption) ?_ ?_ | refine le_below (by assumption) ?_) | (dsimp only; omega)))
end Go.Proofs.Ythjdeopfbjmmeaa
