/- Entries with a bit less, or with another page. -/
import Derived.Test.YthhlcchofilimaaDoorM3
namespace Go.Proofs.YthhlcchofilimaaDoor
open Go.ChangeShapes Go.WideShapes Go.ChangeAt Go.RowKit Y
set_option linter.unusedVariables false
set_option linter.unusedSimpArgs false
theorem not_one (v i : Nat) (b : Nat) (hb : b < 18446744073709551616) (hi : i < 64) : (v &&& (18446744073709551615 - b)).testBit i = (v.testBit i && !b.testBit i) := by
  rw [Nat.testBit_and, show 18446744073709551615 - b = 2 ^ 64 - (b + 1) by omega, Nat.testBit_two_pow_sub_succ (by show _ < _; omega)]
  simp [hi]
theorem gone_broken (v : Nat) : brokenB (v &&& (18446744073709551615 - 1)) = true := by
  unfold brokenB
  rw [not_one v 0 1 (by decide) (by decide)]
  simp
theorem old_bits (v i : Nat) (hi : i < 64) (h6 : i ≠ 6) : (v &&& (18446744073709551615 - 64)).testBit i = v.testBit i := by
  rw [not_one v i 64 (by decide) hi, show (64 : Nat) = 2 ^ 6 from rfl, Nat.testBit_two_pow]
  have : decide (6 = i) = false := by simp; omega
  rw [this]; simp
theorem old_six (v : Nat) : (v &&& (18446744073709551615 - 64)).testBit 6 = false := by
  rw [not_one v 6 64 (by decide) (by decide)]; simp; intro _; decide
theorem old_broken (v : Nat) (h : brokenB v = false) : brokenB (v &&& (18446744073709551615 - 64)) = false := by
  unfold brokenB at h ⊢
  rw [old_bits v 0 (by decide) (by decide), old_bits v 1 (by decide) (by decide), old_bits v 2 (by decide) (by decide)]
  have hle : v &&& (18446744073709551615 - 64) ≤ v := Nat.and_le_left
  simp only [Bool.or_eq_false_iff, Bool.not_eq_false', beq_iff_eq] at h ⊢
  refine ⟨h.1, ?_⟩
  have h2 := h.2
  have : (v &&& (18446744073709551615 - 64)) / 2 ^ 54 ≤ v / 2 ^ 54 := Nat.div_le_div_right hle
  omega
theorem old_leaf (v : Nat) (h : leafB v = true) : leafB (v &&& (18446744073709551615 - 64)) = true := by
  unfold leafB at h ⊢
  rw [old_bits v 1 (by decide) (by decide), old_bits v 3 (by decide) (by decide)]; exact h
theorem old_perm (S : Nat → Nat) (m k : Int) (v : Nat) : permB S m k (v &&& (18446744073709551615 - 64)) = false := by
  unfold permB allowG
  rw [old_six]; simp
theorem new_bits (N v i : Nat) (hi : i < 10) : (N * 1024 + v % 1024).testBit i = v.testBit i := by
  rw [show N * 1024 + v % 1024 = 2 ^ 10 * N + v % 2 ^ 10 by omega, Nat.testBit_two_pow_mul_add _ (Nat.mod_lt _ (by decide)), if_pos hi, Nat.testBit_mod_two_pow]
  simp [hi]
theorem new_broken (N v : Nat) (hN : N < 2 ^ 44) (h : brokenB v = false) : brokenB (N * 1024 + v % 1024) = false := by
  unfold brokenB at h ⊢
  rw [new_bits N v 0 (by decide), new_bits N v 1 (by decide), new_bits N v 2 (by decide)]
  simp only [Bool.or_eq_false_iff, Bool.not_eq_false', beq_iff_eq] at h ⊢
  refine ⟨h.1, ?_⟩
  omega
theorem new_leaf (N v : Nat) (h : leafB v = true) : leafB (N * 1024 + v % 1024) = true := by
  unfold leafB at h ⊢
  rw [new_bits N v 1 (by decide), new_bits N v 3 (by decide)]; exact h
theorem new_perm (S : Nat → Nat) (m k : Int) (N v : Nat) : permB S m k (N * 1024 + v % 1024) = permB S m k v := by
  unfold permB
  rw [new_bits N v 1 (by decide), new_bits N v 2 (by decide), new_bits N v 3 (by decide), new_bits N v 4 (by decide), new_bits N v 6 (by decide), new_bits N v 7 (by decide)]
theorem new_next (N v : Nat) (hN : N < 2 ^ 44) : nextN (N * 1024 + v % 1024) = N := by
  unfold nextN; omega
theorem leaf_page (e A L : Nat) (ha : 4096 * nextN e % 2 ^ (12 + 9 * L) = 0) : (4096 * nextN e + A % 2 ^ (12 + 9 * L)) / 4096 / 2 ^ (9 * L) = nextN e / 2 ^ (9 * L) := by
  have e1 : (2 : Nat) ^ (12 + 9 * L) = 4096 * 2 ^ (9 * L) := by rw [Nat.pow_add]
  have hp : 0 < 2 ^ (9 * L) := Nat.two_pow_pos _
  rw [Nat.div_div_eq_div_mul, ← e1]
  have h1 : (4096 * nextN e + A % 2 ^ (12 + 9 * L)) / 2 ^ (12 + 9 * L) = 4096 * nextN e / 2 ^ (12 + 9 * L) := by
    obtain ⟨c, hc⟩ := Nat.dvd_of_mod_eq_zero ha
    rw [hc, Nat.mul_comm, Nat.add_comm, Nat.add_mul_div_right _ _ (Nat.two_pow_pos _), Nat.div_eq_of_lt (Nat.mod_lt _ (Nat.two_pow_pos _)), Nat.zero_add, Nat.mul_div_cancel _ (Nat.two_pow_pos _)]
  rw [h1, e1, Nat.mul_div_mul_left _ _ (by decide)]
end Go.Proofs.YthhlcchofilimaaDoor
