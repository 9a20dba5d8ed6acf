/- Taken from other texts: what is needed of them. -/
import Derived.Test.YteinjalnkhfecaaQM
import Derived.Test.YteinjalnkhfecaaQA
import Derived.Test.YteinjalnkhfecaaQB
import Derived.Test.YteinjalnkhfecaaRows
import Derived.Deep.DeepCutAuto
import Derived.Deep.CutBlock
import Derived.Deep.QuietTactic
import Derived.BigQuiet
import Derived.ProofKit
import Derived.OpenShut
import Derived.ChangeSame
namespace Go.Proofs.Yteinjalnkhfecaa.Q
open Go.ChangeShapes Go.WideShapes Go.ChangeAt Go.RowKit
set_option linter.unusedVariables false
set_option linter.unusedSimpArgs false
theorem mask32 (x : Nat) (hx : x < 18446744073709551616) : bits .and .u64 (x : Int) 4294967295 = ((x % 4294967296 : Nat) : Int) := by
  rw [show (4294967295 : Int) = ((2 ^ 32 - 1 : Nat) : Int) by decide, u64_and_nat _ _ hx (by decide), Nat.and_two_pow_sub_one_eq_mod]
def RetT (b : Bool) (x m : Nat) (W : World) (e : Ending) (w' : World) : Prop := e = .returned (.tuple #[.bool b, .int .i64 x, .int .u64 m]) ∧ Below W.heap.size W w'
theorem retT_mk {b b' : Bool} {x m : Nat} {y n : Int} {W w' : World} (hb : b' = b) (hx : y = x) (hm : n = m) (h : Below W.heap.size W w') : RetT b x m W (.returned (.tuple #[.bool b', .int .i64 y, .int .u64 n])) w' := ⟨by rw [hb, hx, hm], h⟩
theorem shape_4 (w : World) : Calls Try.prog 72 #[.int .i64 4] w (fun e w' => e = .returned (.tuple #[.int .i64 23, .int .i64 8]) ∧ Below w.heap.size w w') := by
  go_enter Try.func72, Try.ntmps72
  go_wp2
  go_ret2
  exact ⟨rfl, (by repeat (first | (with_reducible first | exact Below.refl _ _ | assumption | exact Nat.le_refl _ | refine Below.drew ?_ | refine Below.alloc ?_ ?_ _ | refine Below.setCell ?_ ?_ _ | refine le_alloc ?_ | refine le_set ?_ | refine le_drew ?_ | refine below_step (by assumption) ?_ ?_ | refine le_below (by assumption) ?_) | (dsimp only; omega)))⟩
theorem mask_4 (a : Nat) (ha : Hid (a < 18446744073709551616)) (w : World) : Calls Try.prog 33 #[.int .i64 4, .int .u64 a] w (RetU (a % 4294967296) w) := by
  have e0 : bits .and .u64 (a : Int) 4294967295 = ((a % 4294967296 : Nat) : Int) := mask32 a ha.out
  go_enter Try.func33, Try.ntmps33
  go_wp2
  go_ret
  exact retU_mk (by omega) (by repeat (first | (with_reducible first | exact Below.refl _ _ | assumption | exact Nat.le_refl _ | refine Below.drew ?_ | refine Below.alloc ?_ ?_ _ | refine Below.setCell ?_ ?_ _ | refine le_alloc ?_ | refine le_set ?_ | refine le_drew ?_ | refine below_step (by assumption) ?_ ?_ | refine le_below (by assumption) ?_) | (dsimp only; omega)))
theorem parts_4 (a : Nat) (ha : Hid (a < 18446744073709551616)) (w : World) : Calls Try.prog 73 #[.int .i64 4, .int .u64 a] w (RetT (decide (a / signB false % 2 = 1)) (a / fracT false % expT false) (a % fracT false) w) := by
  go_enter Try.func73, Try.ntmps73
  go_wp2_with fail
  refine (shape_4 _).mono ?_; rintro e w1 ⟨rfl, hb1⟩
  go_wp2_with fail
  refine (mask_4 a ha _).mono ?_; rintro e w2 ⟨rfl, hb2⟩
  have HA : Hid (∃ x, x = a % 4294967296 ∧ x < 4294967296 ∧ a / signB false % 2 = x / 2147483648 ∧ a / fracT false % expT false = x / 8388608 % 256 ∧ a % fracT false = x % 8388608) := by
    have h1 := ha.out
    refine ⟨_, rfl, ?_, ?_, ?_, ?_⟩
    · omega
    · show a / 2147483648 % 2 = _; omega
    · show a / 8388608 % 256 = _; omega
    · show a % 8388608 = _; omega
  obtain ⟨x, hx, hlt, h1, h2, h3⟩ := HA.out
  rw [← hx]
  have H1 := Lib.hid h1; have H2 := Lib.hid h2; have H3 := Lib.hid h3
  have HX : Hid (x < 4294967296) := hlt
  clear hx h1 h2 h3 HA hlt
  have e1 : bits .and .u64 ((x : Int) / 8388608) 255 = ((x / 8388608 % 256 : Nat) : Int) := by
    rw [show (x : Int) / 8388608 = ((x / 8388608 : Nat) : Int) by omega]
    exact and_mask (x / 8388608) 8 (by have := HX.out; omega) (by decide)
  have e2 : bits .and .u64 (x : Int) 8388607 = ((x % 8388608 : Nat) : Int) := and_mask x 23 (by have := HX.out; omega) (by decide)
  have e3 : wrap64 ((x / 8388608 % 256 : Nat) : Int) = ((x / 8388608 % 256 : Nat) : Int) := wrap64_nat _ (by omega)
  go_wp2_with fail
  go_region
  all_goals go_wp2_with fail
  all_goals refine bodyPost_ret (v := .tuple #[_, _, _]) (by simp [results, Try.results73, go_sem] <;> (first | rfl | (repeat' (first | rfl | apply And.intro)))) rfl (retT_mk ?_ ?_ ?_ (by repeat (first | (with_reducible first | exact Below.refl _ _ | assumption | exact Nat.le_refl _ | refine Below.drew ?_ | refine Below.alloc ?_ ?_ _ | refine Below.setCell ?_ ?_ _ | refine le_alloc ?_ | refine le_set ?_ | refine le_drew ?_ | refine below_step (by assumption) ?_ ?_ | refine le_below (by assumption) ?_) | (dsimp only; omega))))
  all_goals (first | (rw [H1.out, Bool.eq_iff_iff]; simp only [beq_iff_eq, decide_eq_true_eq]; omega) | (rw [H2.out]; omega) | (rw [H3.out]; omega))
theorem shape_8 (w : World) : Calls Try.prog 72 #[.int .i64 8] w (fun e w' => e = .returned (.tuple #[.int .i64 52, .int .i64 11]) ∧ Below w.heap.size w w') := by
  go_enter Try.func72, Try.ntmps72
  go_wp2
  go_ret2
  exact ⟨rfl, (by repeat (first | (with_reducible first | exact Below.refl _ _ | assumption | exact Nat.le_refl _ | refine Below.drew ?_ | refine Below.alloc ?_ ?_ _ | refine Below.setCell ?_ ?_ _ | refine le_alloc ?_ | refine le_set ?_ | refine le_drew ?_ | refine below_step (by assumption) ?_ ?_ | refine le_below (by assumption) ?_) | (dsimp only; omega)))⟩
theorem mask_8 (a : Nat) (ha : Hid (a < 18446744073709551616)) (w : World) : Calls Try.prog 33 #[.int .i64 8, .int .u64 a] w (RetU a w) := by
  skip
  go_enter Try.func33, Try.ntmps33
  go_wp2
  go_ret
  exact retU_mk (by omega) (by repeat (first | (with_reducible first | exact Below.refl _ _ | assumption | exact Nat.le_refl _ | refine Below.drew ?_ | refine Below.alloc ?_ ?_ _ | refine Below.setCell ?_ ?_ _ | refine le_alloc ?_ | refine le_set ?_ | refine le_drew ?_ | refine below_step (by assumption) ?_ ?_ | refine le_below (by assumption) ?_) | (dsimp only; omega)))
theorem parts_8 (a : Nat) (ha : Hid (a < 18446744073709551616)) (w : World) : Calls Try.prog 73 #[.int .i64 8, .int .u64 a] w (RetT (decide (a / signB true % 2 = 1)) (a / fracT true % expT true) (a % fracT true) w) := by
  go_enter Try.func73, Try.ntmps73
  go_wp2_with fail
  refine (shape_8 _).mono ?_; rintro e w1 ⟨rfl, hb1⟩
  go_wp2_with fail
  refine (mask_8 a ha _).mono ?_; rintro e w2 ⟨rfl, hb2⟩
  have HA : Hid (∃ x, x = a ∧ x < 18446744073709551616 ∧ a / signB true % 2 = x / 9223372036854775808 ∧ a / fracT true % expT true = x / 4503599627370496 % 2048 ∧ a % fracT true = x % 4503599627370496) := by
    have h1 := ha.out
    refine ⟨_, rfl, ?_, ?_, ?_, ?_⟩
    · omega
    · show a / 9223372036854775808 % 2 = _; omega
    · show a / 4503599627370496 % 2048 = _; omega
    · show a % 4503599627370496 = _; omega
  obtain ⟨x, hx, hlt, h1, h2, h3⟩ := HA.out
  rw [← hx]
  have H1 := Lib.hid h1; have H2 := Lib.hid h2; have H3 := Lib.hid h3
  have HX : Hid (x < 18446744073709551616) := hlt
  clear hx h1 h2 h3 HA hlt
  have e1 : bits .and .u64 ((x : Int) / 4503599627370496) 2047 = ((x / 4503599627370496 % 2048 : Nat) : Int) := by
    rw [show (x : Int) / 4503599627370496 = ((x / 4503599627370496 : Nat) : Int) by omega]
    exact and_mask (x / 4503599627370496) 11 (by have := HX.out; omega) (by decide)
  have e2 : bits .and .u64 (x : Int) 4503599627370495 = ((x % 4503599627370496 : Nat) : Int) := and_mask x 52 (by have := HX.out; omega) (by decide)
  have e3 : wrap64 ((x / 4503599627370496 % 2048 : Nat) : Int) = ((x / 4503599627370496 % 2048 : Nat) : Int) := wrap64_nat _ (by omega)
  go_wp2_with fail
  go_region
  all_goals go_wp2_with fail
  all_goals refine bodyPost_ret (v := .tuple #[_, _, _]) (by simp [results, Try.results73, go_sem] <;> (first | rfl | (repeat' (first | rfl | apply And.intro)))) rfl (retT_mk ?_ ?_ ?_ (by repeat (first | (with_reducible first | exact Below.refl _ _ | assumption | exact Nat.le_refl _ | refine Below.drew ?_ | refine Below.alloc ?_ ?_ _ | refine Below.setCell ?_ ?_ _ | refine le_alloc ?_ | refine le_set ?_ | refine le_drew ?_ | refine below_step (by assumption) ?_ ?_ | refine le_below (by assumption) ?_) | (dsimp only; omega))))
  all_goals (first | (rw [H1.out, Bool.eq_iff_iff]; simp only [beq_iff_eq, decide_eq_true_eq]; omega) | (rw [H2.out]; omega) | (rw [H3.out]; omega))
end Go.Proofs.Yteinjalnkhfecaa.Q
