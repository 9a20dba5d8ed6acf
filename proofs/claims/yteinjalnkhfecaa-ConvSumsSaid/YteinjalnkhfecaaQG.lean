/- Taken from other texts: what is needed of them. -/
import Derived.Test.YteinjalnkhfecaaQM
import Derived.Test.YteinjalnkhfecaaQB
import Derived.Test.YteinjalnkhfecaaQC
namespace Go.Proofs.Yteinjalnkhfecaa.Q
open Go.ChangeShapes Go.WideShapes Go.ChangeAt Go.RowKit
set_option linter.unusedVariables false
set_option linter.unusedSimpArgs false
theorem blen_mul_pow (n k : Nat) (h : n ≠ 0) : blen (n * 2 ^ k) = blen n + k := by
  obtain ⟨a, b, c⟩ := blen_bounds n h
  obtain ⟨j, hj⟩ : ∃ j, blen n = j + 1 := ⟨blen n - 1, by omega⟩
  rw [hj] at b c ⊢
  rw [Nat.add_sub_cancel] at b
  have hp : 0 < 2 ^ k := Nat.two_pow_pos k
  rw [blen_of (n * 2 ^ k) (j + k) (Nat.mul_ne_zero h (by omega)) (by rw [Nat.pow_add]; exact Nat.mul_le_mul_right _ b)
    (by rw [show j + k + 1 = (j + 1) + k by omega, Nat.pow_add]; exact Nat.mul_lt_mul_of_pos_right c hp)]
  omega
theorem away_exact (rm : Int) (m : Bool) (k : Nat) : awayV rm m k 0 = false := by
  unfold awayV
  (repeat' split) <;> simp
theorem rest_zero {x n : Nat} (h : x % 2 ^ n = 0) : restV x n = 0 := if_pos h
theorem rest_ne {x n : Nat} (h : restV x n = 0) : x % 2 ^ n = 0 := by
  by_cases h1 : x % 2 ^ n = 0
  · exact h1
  · exfalso; unfold restV at h; rw [if_neg h1] at h; (repeat' split at h) <;> omega
theorem lay_facts (d : Bool) : fracB d = fb d ∧ fracT d = 2 ^ fb d ∧ 2 ^ (fracB d + 1) = 2 * fracT d ∧ fb d ≤ 52 ∧ 1 ≤ fb d ∧ 127 ≤ bias d ∧ bias d ≤ 1023 ∧ (infB d : Int) = (2 * bias d + 1) * fracT d := by cases d <;> decide
end Go.Proofs.Yteinjalnkhfecaa.Q
