/- The document's own answers: Branch, Extend. -/
import Derived.Test.YtbbgcjdflcfnjaaR8
namespace Go.Proofs.Ytbbgcjdflcfnjaa
open Go.ChangeShapes Go.WideShapes Go.ChangeAt Go.RowKit
set_option linter.unusedVariables false
set_option linter.unusedSimpArgs false
set_option maxRecDepth 100000 in
theorem branchR_5 (a b : Nat) (ha : Hid (a < 18446744073709551616)) (hb : Hid (b < 18446744073709551616)) (w : World) : Calls Try.prog 15 #[.int .i64 5, .int .u64 a, .int .u64 b] w (RetD (branchV 5 a b) w) := by
  have hv : Hid (branchV 5 a b = some (decide (a = b))) := rfl
  have hD : Hid (∀ w, Calls Try.prog 28 #[.int .u64 a, .int .u64 b, .int .i64 64, .bool true] w (RetB (decide (sgn H64 a < sgn H64 b)) w)) := by
    show ∀ w, _
    rw [← below_eq 64 H64 a b wd64 ha.out hb.out]; exact fun w => below_c a b 64 true ha hb (by decide) (by decide) w
  generalize decide (sgn H64 a < sgn H64 b) = l at *
  go_enter Try.func15, Try.ntmps15
  go_wp2_with fail
  refine (hD.out _).mono ?_; rintro e w1 ⟨rfl, hb1⟩
  go_wp2_with fail
  go_ret2
  exact retD_eq hv.out (by first | rfl | (by_cases h : a = b <;> simp [h] <;> omega)) (by repeat (first | (with_reducible first | exact Below.refl _ _ | assumption | exact Nat.le_refl _ | refine Below.drew ?_ | refine Below.alloc ?_ ?_ _ | refine below_drewN ?_ _ | refine Below.setCell ?_ ?_ _ | refine le_alloc ?_ | refine le_set ?_ | refine le_drew ?_ | refine le_drewN ?_ | refine below_step (by assumption) ?_ ?_ | refine le_below (by assumption) ?_) | (dsimp only; omega)))
set_option maxRecDepth 100000 in
theorem branchR_6 (a b : Nat) (ha : Hid (a < 18446744073709551616)) (hb : Hid (b < 18446744073709551616)) (w : World) : Calls Try.prog 15 #[.int .i64 6, .int .u64 a, .int .u64 b] w (RetD (branchV 6 a b) w) := by
  have hv : Hid (branchV 6 a b = some (!decide (a = b))) := rfl
  have hD : Hid (∀ w, Calls Try.prog 28 #[.int .u64 a, .int .u64 b, .int .i64 64, .bool true] w (RetB (decide (sgn H64 a < sgn H64 b)) w)) := by
    show ∀ w, _
    rw [← below_eq 64 H64 a b wd64 ha.out hb.out]; exact fun w => below_c a b 64 true ha hb (by decide) (by decide) w
  generalize decide (sgn H64 a < sgn H64 b) = l at *
  go_enter Try.func15, Try.ntmps15
  go_wp2_with fail
  refine (hD.out _).mono ?_; rintro e w1 ⟨rfl, hb1⟩
  go_wp2_with fail
  go_ret2
  exact retD_eq hv.out (by first | rfl | (by_cases h : a = b <;> simp [h] <;> omega)) (by repeat (first | (with_reducible first | exact Below.refl _ _ | assumption | exact Nat.le_refl _ | refine Below.drew ?_ | refine Below.alloc ?_ ?_ _ | refine below_drewN ?_ _ | refine Below.setCell ?_ ?_ _ | refine le_alloc ?_ | refine le_set ?_ | refine le_drew ?_ | refine le_drewN ?_ | refine below_step (by assumption) ?_ ?_ | refine le_below (by assumption) ?_) | (dsimp only; omega)))
set_option maxRecDepth 100000 in
theorem branchR_7 (a b : Nat) (ha : Hid (a < 18446744073709551616)) (hb : Hid (b < 18446744073709551616)) (w : World) : Calls Try.prog 15 #[.int .i64 7, .int .u64 a, .int .u64 b] w (RetD (branchV 7 a b) w) := by
  have hv : Hid (branchV 7 a b = some (decide (sgn H64 a < sgn H64 b))) := rfl
  have hD : Hid (∀ w, Calls Try.prog 28 #[.int .u64 a, .int .u64 b, .int .i64 64, .bool true] w (RetB (decide (sgn H64 a < sgn H64 b)) w)) := by
    show ∀ w, _
    rw [← below_eq 64 H64 a b wd64 ha.out hb.out]; exact fun w => below_c a b 64 true ha hb (by decide) (by decide) w
  generalize decide (sgn H64 a < sgn H64 b) = l at *
  go_enter Try.func15, Try.ntmps15
  go_wp2_with fail
  refine (hD.out _).mono ?_; rintro e w1 ⟨rfl, hb1⟩
  go_wp2_with fail
  go_ret2
  exact retD_eq hv.out (by first | rfl | (by_cases h : sgn H64 a < sgn H64 b <;> simp [h] <;> omega)) (by repeat (first | (with_reducible first | exact Below.refl _ _ | assumption | exact Nat.le_refl _ | refine Below.drew ?_ | refine Below.alloc ?_ ?_ _ | refine below_drewN ?_ _ | refine Below.setCell ?_ ?_ _ | refine le_alloc ?_ | refine le_set ?_ | refine le_drew ?_ | refine le_drewN ?_ | refine below_step (by assumption) ?_ ?_ | refine le_below (by assumption) ?_) | (dsimp only; omega)))
set_option maxRecDepth 100000 in
theorem branchR_8 (a b : Nat) (ha : Hid (a < 18446744073709551616)) (hb : Hid (b < 18446744073709551616)) (w : World) : Calls Try.prog 15 #[.int .i64 8, .int .u64 a, .int .u64 b] w (RetD (branchV 8 a b) w) := by
  have hv : Hid (branchV 8 a b = some (!decide (sgn H64 a < sgn H64 b))) := rfl
  have hD : Hid (∀ w, Calls Try.prog 28 #[.int .u64 a, .int .u64 b, .int .i64 64, .bool true] w (RetB (decide (sgn H64 a < sgn H64 b)) w)) := by
    show ∀ w, _
    rw [← below_eq 64 H64 a b wd64 ha.out hb.out]; exact fun w => below_c a b 64 true ha hb (by decide) (by decide) w
  generalize decide (sgn H64 a < sgn H64 b) = l at *
  go_enter Try.func15, Try.ntmps15
  go_wp2_with fail
  refine (hD.out _).mono ?_; rintro e w1 ⟨rfl, hb1⟩
  go_wp2_with fail
  go_ret2
  exact retD_eq hv.out (by first | rfl | (by_cases h : sgn H64 a < sgn H64 b <;> simp [h] <;> omega)) (by repeat (first | (with_reducible first | exact Below.refl _ _ | assumption | exact Nat.le_refl _ | refine Below.drew ?_ | refine Below.alloc ?_ ?_ _ | refine below_drewN ?_ _ | refine Below.setCell ?_ ?_ _ | refine le_alloc ?_ | refine le_set ?_ | refine le_drew ?_ | refine le_drewN ?_ | refine below_step (by assumption) ?_ ?_ | refine le_below (by assumption) ?_) | (dsimp only; omega)))
set_option maxRecDepth 100000 in
theorem branchR_9 (a b : Nat) (ha : Hid (a < 18446744073709551616)) (hb : Hid (b < 18446744073709551616)) (w : World) : Calls Try.prog 15 #[.int .i64 9, .int .u64 a, .int .u64 b] w (RetD (branchV 9 a b) w) := by
  have hv : Hid (branchV 9 a b = some (decide (a < b))) := rfl
  have hD : Hid (∀ w, Calls Try.prog 28 #[.int .u64 a, .int .u64 b, .int .i64 64, .bool true] w (RetB (decide (sgn H64 a < sgn H64 b)) w)) := by
    show ∀ w, _
    rw [← below_eq 64 H64 a b wd64 ha.out hb.out]; exact fun w => below_c a b 64 true ha hb (by decide) (by decide) w
  generalize decide (sgn H64 a < sgn H64 b) = l at *
  go_enter Try.func15, Try.ntmps15
  go_wp2_with fail
  refine (hD.out _).mono ?_; rintro e w1 ⟨rfl, hb1⟩
  go_wp2_with fail
  go_ret2
  exact retD_eq hv.out (by first | rfl | (by_cases h : a < b <;> simp [h] <;> omega)) (by repeat (first | (with_reducible first | exact Below.refl _ _ | assumption | exact Nat.le_refl _ | refine Below.drew ?_ | refine Below.alloc ?_ ?_ _ | refine below_drewN ?_ _ | refine Below.setCell ?_ ?_ _ | refine le_alloc ?_ | refine le_set ?_ | refine le_drew ?_ | refine le_drewN ?_ | refine below_step (by assumption) ?_ ?_ | refine le_below (by assumption) ?_) | (dsimp only; omega)))
set_option maxRecDepth 100000 in
theorem branchR_10 (a b : Nat) (ha : Hid (a < 18446744073709551616)) (hb : Hid (b < 18446744073709551616)) (w : World) : Calls Try.prog 15 #[.int .i64 10, .int .u64 a, .int .u64 b] w (RetD (branchV 10 a b) w) := by
  have hv : Hid (branchV 10 a b = some (!decide (a < b))) := rfl
  have hD : Hid (∀ w, Calls Try.prog 28 #[.int .u64 a, .int .u64 b, .int .i64 64, .bool true] w (RetB (decide (sgn H64 a < sgn H64 b)) w)) := by
    show ∀ w, _
    rw [← below_eq 64 H64 a b wd64 ha.out hb.out]; exact fun w => below_c a b 64 true ha hb (by decide) (by decide) w
  generalize decide (sgn H64 a < sgn H64 b) = l at *
  go_enter Try.func15, Try.ntmps15
  go_wp2_with fail
  refine (hD.out _).mono ?_; rintro e w1 ⟨rfl, hb1⟩
  go_wp2_with fail
  go_ret2
  exact retD_eq hv.out (by first | rfl | (by_cases h : a < b <;> simp [h] <;> omega)) (by repeat (first | (with_reducible first | exact Below.refl _ _ | assumption | exact Nat.le_refl _ | refine Below.drew ?_ | refine Below.alloc ?_ ?_ _ | refine below_drewN ?_ _ | refine Below.setCell ?_ ?_ _ | refine le_alloc ?_ | refine le_set ?_ | refine le_drew ?_ | refine le_drewN ?_ | refine below_step (by assumption) ?_ ?_ | refine le_below (by assumption) ?_) | (dsimp only; omega)))
set_option maxRecDepth 100000 in
theorem branchR_no (k : Int) (a b : Nat) (ha : Hid (a < 18446744073709551616)) (hb : Hid (b < 18446744073709551616)) (h5 : ¬ k = 5) (h6 : ¬ k = 6) (h7 : ¬ k = 7) (h8 : ¬ k = 8) (h9 : ¬ k = 9) (h10 : ¬ k = 10) (w : World) : Calls Try.prog 15 #[.int .i64 k, .int .u64 a, .int .u64 b] w (RetD (branchV k a b) w) := by
  have hv : Hid (branchV k a b = none) := by show _ = _; unfold branchV; rw [if_neg h6, if_neg h5, if_neg h8, if_neg h7, if_neg h10, if_neg h9]
  have hD : Hid (∀ w, Calls Try.prog 28 #[.int .u64 a, .int .u64 b, .int .i64 64, .bool true] w (RetB (decide (sgn H64 a < sgn H64 b)) w)) := by
    show ∀ w, _
    rw [← below_eq 64 H64 a b wd64 ha.out hb.out]; exact fun w => below_c a b 64 true ha hb (by decide) (by decide) w
  generalize decide (sgn H64 a < sgn H64 b) = l at *
  go_enter Try.func15, Try.ntmps15
  go_wp2_with fail
  refine (hD.out _).mono ?_; rintro e w1 ⟨rfl, hb1⟩
  go_wp2_with fail
  go_ret2
  exact retD_no hv.out rfl rfl (by repeat (first | (with_reducible first | exact Below.refl _ _ | assumption | exact Nat.le_refl _ | refine Below.drew ?_ | refine Below.alloc ?_ ?_ _ | refine below_drewN ?_ _ | refine Below.setCell ?_ ?_ _ | refine le_alloc ?_ | refine le_set ?_ | refine le_drew ?_ | refine le_drewN ?_ | refine below_step (by assumption) ?_ ?_ | refine le_below (by assumption) ?_) | (dsimp only; omega)))
theorem branchR_c (k : Int) (a b : Nat) (ha : Hid (a < 18446744073709551616)) (hb : Hid (b < 18446744073709551616)) (w : World) : Calls Try.prog 15 #[.int .i64 k, .int .u64 a, .int .u64 b] w (RetD (branchV k a b) w) := by
  by_cases h5 : k = 5
  · subst h5; exact branchR_5 a b ha hb w
  by_cases h6 : k = 6
  · subst h6; exact branchR_6 a b ha hb w
  by_cases h7 : k = 7
  · subst h7; exact branchR_7 a b ha hb w
  by_cases h8 : k = 8
  · subst h8; exact branchR_8 a b ha hb w
  by_cases h9 : k = 9
  · subst h9; exact branchR_9 a b ha hb w
  by_cases h10 : k = 10
  · subst h10; exact branchR_10 a b ha hb w
  exact branchR_no k a b ha hb h5 h6 h7 h8 h9 h10 w
set_option maxRecDepth 100000 in
theorem extendR_1_true (v : Nat) (ha : Hid (v < 18446744073709551616)) (w : World) : Calls Try.prog 19 #[.int .u64 v, .int .i64 1, .bool true] w (RetO .u64 (extV v 1 true) w) := by
  have hD : Hid (∀ w, Calls Try.prog 25 #[.int .u64 v, .int .i64 8] w (RetV .u64 ((extS 128 v true : Nat) : Int) w)) := fun w => low_c v 8 ha (by decide) w
  have hv : Hid (extV v 1 true = some (extS 128 v true)) := rfl
  generalize extS 128 v true = x at *
  go_enter Try.func19, Try.ntmps19
  go_wp2_with fail
  refine (hD.out _).mono ?_; rintro e w1 ⟨rfl, hb1⟩
  go_wp2_with fail
  go_ret2
  exact retO_mk _ hv.out rfl rfl (by repeat (first | (with_reducible first | exact Below.refl _ _ | assumption | exact Nat.le_refl _ | refine Below.drew ?_ | refine Below.alloc ?_ ?_ _ | refine below_drewN ?_ _ | refine Below.setCell ?_ ?_ _ | refine le_alloc ?_ | refine le_set ?_ | refine le_drew ?_ | refine le_drewN ?_ | refine below_step (by assumption) ?_ ?_ | refine le_below (by assumption) ?_) | (dsimp only; omega)))
set_option maxRecDepth 100000 in
theorem extendR_1_false (v : Nat) (ha : Hid (v < 18446744073709551616)) (w : World) : Calls Try.prog 19 #[.int .u64 v, .int .i64 1, .bool false] w (RetO .u64 (extV v 1 false) w) := by
  have hD : Hid (∀ w, Calls Try.prog 26 #[.int .u64 v, .int .i64 8] w (RetV .u64 ((extS 128 v false : Nat) : Int) w)) := by
    show ∀ w, _
    have e : wideV 8 v = extS 128 v false := by
      have h := wide_eq 8 128 (v % (2 * 128)) ⟨by decide, by decide, by decide, by decide, by decide⟩ (Nat.mod_lt _ (by decide))
      show wideV 8 v = uns H64 (sgn 128 (v % (2 * 128)))
      rw [← h]; unfold wideV; rw [show 2 * 128 = 2 ^ 8 by decide, Nat.mod_mod]
    rw [← e]; exact fun w => wide_c v 8 ha (by decide) (by decide) w
  have hv : Hid (extV v 1 false = some (extS 128 v false)) := rfl
  generalize extS 128 v false = x at *
  go_enter Try.func19, Try.ntmps19
  go_wp2_with fail
  refine (hD.out _).mono ?_; rintro e w1 ⟨rfl, hb1⟩
  go_wp2_with fail
  go_ret2
  exact retO_mk _ hv.out rfl rfl (by repeat (first | (with_reducible first | exact Below.refl _ _ | assumption | exact Nat.le_refl _ | refine Below.drew ?_ | refine Below.alloc ?_ ?_ _ | refine below_drewN ?_ _ | refine Below.setCell ?_ ?_ _ | refine le_alloc ?_ | refine le_set ?_ | refine le_drew ?_ | refine le_drewN ?_ | refine below_step (by assumption) ?_ ?_ | refine le_below (by assumption) ?_) | (dsimp only; omega)))
set_option maxRecDepth 100000 in
theorem extendR_2_true (v : Nat) (ha : Hid (v < 18446744073709551616)) (w : World) : Calls Try.prog 19 #[.int .u64 v, .int .i64 2, .bool true] w (RetO .u64 (extV v 2 true) w) := by
  have hD : Hid (∀ w, Calls Try.prog 25 #[.int .u64 v, .int .i64 16] w (RetV .u64 ((extS 32768 v true : Nat) : Int) w)) := fun w => low_c v 16 ha (by decide) w
  have hv : Hid (extV v 2 true = some (extS 32768 v true)) := rfl
  generalize extS 32768 v true = x at *
  go_enter Try.func19, Try.ntmps19
  go_wp2_with fail
  refine (hD.out _).mono ?_; rintro e w1 ⟨rfl, hb1⟩
  go_wp2_with fail
  go_ret2
  exact retO_mk _ hv.out rfl rfl (by repeat (first | (with_reducible first | exact Below.refl _ _ | assumption | exact Nat.le_refl _ | refine Below.drew ?_ | refine Below.alloc ?_ ?_ _ | refine below_drewN ?_ _ | refine Below.setCell ?_ ?_ _ | refine le_alloc ?_ | refine le_set ?_ | refine le_drew ?_ | refine le_drewN ?_ | refine below_step (by assumption) ?_ ?_ | refine le_below (by assumption) ?_) | (dsimp only; omega)))
set_option maxRecDepth 100000 in
theorem extendR_2_false (v : Nat) (ha : Hid (v < 18446744073709551616)) (w : World) : Calls Try.prog 19 #[.int .u64 v, .int .i64 2, .bool false] w (RetO .u64 (extV v 2 false) w) := by
  have hD : Hid (∀ w, Calls Try.prog 26 #[.int .u64 v, .int .i64 16] w (RetV .u64 ((extS 32768 v false : Nat) : Int) w)) := by
    show ∀ w, _
    have e : wideV 16 v = extS 32768 v false := by
      have h := wide_eq 16 32768 (v % (2 * 32768)) ⟨by decide, by decide, by decide, by decide, by decide⟩ (Nat.mod_lt _ (by decide))
      show wideV 16 v = uns H64 (sgn 32768 (v % (2 * 32768)))
      rw [← h]; unfold wideV; rw [show 2 * 32768 = 2 ^ 16 by decide, Nat.mod_mod]
    rw [← e]; exact fun w => wide_c v 16 ha (by decide) (by decide) w
  have hv : Hid (extV v 2 false = some (extS 32768 v false)) := rfl
  generalize extS 32768 v false = x at *
  go_enter Try.func19, Try.ntmps19
  go_wp2_with fail
  refine (hD.out _).mono ?_; rintro e w1 ⟨rfl, hb1⟩
  go_wp2_with fail
  go_ret2
  exact retO_mk _ hv.out rfl rfl (by repeat (first | (with_reducible first | exact Below.refl _ _ | assumption | exact Nat.le_refl _ | refine Below.drew ?_ | refine Below.alloc ?_ ?_ _ | refine below_drewN ?_ _ | refine Below.setCell ?_ ?_ _ | refine le_alloc ?_ | refine le_set ?_ | refine le_drew ?_ | refine le_drewN ?_ | refine below_step (by assumption) ?_ ?_ | refine le_below (by assumption) ?_) | (dsimp only; omega)))
set_option maxRecDepth 100000 in
theorem extendR_4_true (v : Nat) (ha : Hid (v < 18446744073709551616)) (w : World) : Calls Try.prog 19 #[.int .u64 v, .int .i64 4, .bool true] w (RetO .u64 (extV v 4 true) w) := by
  have hD : Hid (∀ w, Calls Try.prog 25 #[.int .u64 v, .int .i64 32] w (RetV .u64 ((extS H32 v true : Nat) : Int) w)) := fun w => low_c v 32 ha (by decide) w
  have hv : Hid (extV v 4 true = some (extS H32 v true)) := rfl
  generalize extS H32 v true = x at *
  go_enter Try.func19, Try.ntmps19
  go_wp2_with fail
  refine (hD.out _).mono ?_; rintro e w1 ⟨rfl, hb1⟩
  go_wp2_with fail
  go_ret2
  exact retO_mk _ hv.out rfl rfl (by repeat (first | (with_reducible first | exact Below.refl _ _ | assumption | exact Nat.le_refl _ | refine Below.drew ?_ | refine Below.alloc ?_ ?_ _ | refine below_drewN ?_ _ | refine Below.setCell ?_ ?_ _ | refine le_alloc ?_ | refine le_set ?_ | refine le_drew ?_ | refine le_drewN ?_ | refine below_step (by assumption) ?_ ?_ | refine le_below (by assumption) ?_) | (dsimp only; omega)))
set_option maxRecDepth 100000 in
theorem extendR_4_false (v : Nat) (ha : Hid (v < 18446744073709551616)) (w : World) : Calls Try.prog 19 #[.int .u64 v, .int .i64 4, .bool false] w (RetO .u64 (extV v 4 false) w) := by
  have hD : Hid (∀ w, Calls Try.prog 26 #[.int .u64 v, .int .i64 32] w (RetV .u64 ((extS H32 v false : Nat) : Int) w)) := by
    show ∀ w, _
    have e : wideV 32 v = extS H32 v false := by
      have h := wide_eq 32 H32 (v % (2 * H32)) ⟨by decide, by decide, by decide, by decide, by decide⟩ (Nat.mod_lt _ (by decide))
      show wideV 32 v = uns H64 (sgn H32 (v % (2 * H32)))
      rw [← h]; unfold wideV; rw [show 2 * H32 = 2 ^ 32 by decide, Nat.mod_mod]
    rw [← e]; exact fun w => wide_c v 32 ha (by decide) (by decide) w
  have hv : Hid (extV v 4 false = some (extS H32 v false)) := rfl
  generalize extS H32 v false = x at *
  go_enter Try.func19, Try.ntmps19
  go_wp2_with fail
  refine (hD.out _).mono ?_; rintro e w1 ⟨rfl, hb1⟩
  go_wp2_with fail
  go_ret2
  exact retO_mk _ hv.out rfl rfl (by repeat (first | (with_reducible first | exact Below.refl _ _ | assumption | exact Nat.le_refl _ | refine Below.drew ?_ | refine Below.alloc ?_ ?_ _ | refine below_drewN ?_ _ | refine Below.setCell ?_ ?_ _ | refine le_alloc ?_ | refine le_set ?_ | refine le_drew ?_ | refine le_drewN ?_ | refine below_step (by assumption) ?_ ?_ | refine le_below (by assumption) ?_) | (dsimp only; omega)))
set_option maxRecDepth 100000 in
theorem extendR_8_true (v : Nat) (ha : Hid (v < 18446744073709551616)) (w : World) : Calls Try.prog 19 #[.int .u64 v, .int .i64 8, .bool true] w (RetO .u64 (extV v 8 true) w) := by
  have hD : Hid (∀ w, Calls Try.prog 25 #[.int .u64 v, .int .i64 64] w (RetV .u64 ((extS H64 v true : Nat) : Int) w)) := fun w => low_c v 64 ha (by decide) w
  have hv : Hid (extV v 8 true = some (extS H64 v true)) := rfl
  generalize extS H64 v true = x at *
  go_enter Try.func19, Try.ntmps19
  go_wp2_with fail
  refine (hD.out _).mono ?_; rintro e w1 ⟨rfl, hb1⟩
  go_wp2_with fail
  go_ret2
  exact retO_mk _ hv.out rfl rfl (by repeat (first | (with_reducible first | exact Below.refl _ _ | assumption | exact Nat.le_refl _ | refine Below.drew ?_ | refine Below.alloc ?_ ?_ _ | refine below_drewN ?_ _ | refine Below.setCell ?_ ?_ _ | refine le_alloc ?_ | refine le_set ?_ | refine le_drew ?_ | refine le_drewN ?_ | refine below_step (by assumption) ?_ ?_ | refine le_below (by assumption) ?_) | (dsimp only; omega)))
set_option maxRecDepth 100000 in
theorem extendR_8_false (v : Nat) (ha : Hid (v < 18446744073709551616)) (w : World) : Calls Try.prog 19 #[.int .u64 v, .int .i64 8, .bool false] w (RetO .u64 (extV v 8 false) w) := by
  have hD : Hid (∀ w, Calls Try.prog 26 #[.int .u64 v, .int .i64 64] w (RetV .u64 ((extS H64 v false : Nat) : Int) w)) := by
    show ∀ w, _
    have e : wideV 64 v = extS H64 v false := by
      have h := wide_eq 64 H64 (v % (2 * H64)) ⟨by decide, by decide, by decide, by decide, by decide⟩ (Nat.mod_lt _ (by decide))
      show wideV 64 v = uns H64 (sgn H64 (v % (2 * H64)))
      rw [← h]; unfold wideV; rw [show 2 * H64 = 2 ^ 64 by decide, Nat.mod_mod]
    rw [← e]; exact fun w => wide_c v 64 ha (by decide) (by decide) w
  have hv : Hid (extV v 8 false = some (extS H64 v false)) := rfl
  generalize extS H64 v false = x at *
  go_enter Try.func19, Try.ntmps19
  go_wp2_with fail
  refine (hD.out _).mono ?_; rintro e w1 ⟨rfl, hb1⟩
  go_wp2_with fail
  go_ret2
  exact retO_mk _ hv.out rfl rfl (by repeat (first | (with_reducible first | exact Below.refl _ _ | assumption | exact Nat.le_refl _ | refine Below.drew ?_ | refine Below.alloc ?_ ?_ _ | refine below_drewN ?_ _ | refine Below.setCell ?_ ?_ _ | refine le_alloc ?_ | refine le_set ?_ | refine le_drew ?_ | refine le_drewN ?_ | refine below_step (by assumption) ?_ ?_ | refine le_below (by assumption) ?_) | (dsimp only; omega)))
set_option maxRecDepth 100000 in
theorem extendR_no (v : Nat) (s : Int) (u : Bool) (h1 : ¬ s = 1) (h2 : ¬ s = 2) (h4 : ¬ s = 4) (h8 : ¬ s = 8) (w : World) : Calls Try.prog 19 #[.int .u64 v, .int .i64 s, .bool u] w (RetO .u64 (extV v s u) w) := by
  have hv : Hid (extV v s u = none) := by show _ = _; unfold extV; rw [if_neg h1, if_neg h2, if_neg h4, if_neg h8]
  have b1 : (s != 1) = true := by simp [h1]
  have b2 : (s != 2) = true := by simp [h2]
  have b4 : (s != 4) = true := by simp [h4]
  have b8 : (s != 8) = true := by simp [h8]
  clear h1 h2 h4 h8
  go_enter Try.func19, Try.ntmps19
  go_wp2_with fail
  go_ret2
  exact retO_no hv.out rfl rfl (by repeat (first | (with_reducible first | exact Below.refl _ _ | assumption | exact Nat.le_refl _ | refine Below.drew ?_ | refine Below.alloc ?_ ?_ _ | refine below_drewN ?_ _ | refine Below.setCell ?_ ?_ _ | refine le_alloc ?_ | refine le_set ?_ | refine le_drew ?_ | refine le_drewN ?_ | refine below_step (by assumption) ?_ ?_ | refine le_below (by assumption) ?_) | (dsimp only; omega)))
theorem extendR_c (v : Nat) (s : Int) (u : Bool) (ha : Hid (v < 18446744073709551616)) (w : World) : Calls Try.prog 19 #[.int .u64 v, .int .i64 s, .bool u] w (RetO .u64 (extV v s u) w) := by
  by_cases h1 : s = 1
  · subst h1; cases u
    · exact extendR_1_false v ha w
    · exact extendR_1_true v ha w
  by_cases h2 : s = 2
  · subst h2; cases u
    · exact extendR_2_false v ha w
    · exact extendR_2_true v ha w
  by_cases h4 : s = 4
  · subst h4; cases u
    · exact extendR_4_false v ha w
    · exact extendR_4_true v ha w
  by_cases h8 : s = 8
  · subst h8; cases u
    · exact extendR_8_false v ha w
    · exact extendR_8_true v ha w
  exact extendR_no v s u h1 h2 h4 h8 w
end Go.Proofs.Ytbbgcjdflcfnjaa
