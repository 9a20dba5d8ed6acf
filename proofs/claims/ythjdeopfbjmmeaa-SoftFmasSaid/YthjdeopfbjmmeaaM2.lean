/- The plain mathematics of a division of two words by one, digit by digit of 32 bits (Knuth's D at two digits). No Go text is named here. -/
import Derived.Test.YthjdeopfbjmmeaaM0
namespace Go.Proofs.Ythjdeopfbjmmeaa
set_option linter.unusedVariables false
set_option linter.unusedSimpArgs false
/-- What holds of a guessed digit q and its rest r. -/
def KInv (u d y1 y0 q r : Nat) : Prop := q * y1 + r = u ∧ (u * 4294967296 + d) / (y1 * 4294967296 + y0) ≤ q ∧ q ≤ 4294967297 ∧ r < 4294967296
def KEnv (u d y1 y0 : Nat) : Prop := u < y1 * 4294967296 + y0 ∧ 2147483648 ≤ y1 ∧ y1 < 4294967296 ∧ y0 < 4294967296 ∧ d < 4294967296

theorem knuth_start {u d y1 y0 : Nat} (h : KEnv u d y1 y0) : KInv u d y1 y0 (u / y1) (u - u / y1 * y1) := by
  obtain ⟨h1, h2, h3, h4, h5⟩ := h
  have e := Nat.div_add_mod u y1
  have m := Nat.mod_lt u (by omega : 0 < y1)
  rw [Nat.mul_comm] at e
  have hq : u / y1 ≤ 4294967297 := by
    have : u / y1 < 4294967298 := by rw [Nat.div_lt_iff_lt_mul (by omega)]; omega
    omega
  have hQ : (u * 4294967296 + d) / (y1 * 4294967296 + y0) ≤ u / y1 := by
    apply Nat.le_of_lt_succ
    rw [Nat.div_lt_iff_lt_mul (by omega), Nat.succ_eq_add_one]
    generalize u / y1 = q at *
    have a : (q + 1) * y1 = q * y1 + y1 := by rw [Nat.add_mul]; omega
    have b : (q + 1) * (y1 * 4294967296 + y0) = (q + 1) * y1 * 4294967296 + (q + 1) * y0 := by rw [Nat.mul_add, Nat.mul_assoc]
    rw [b, a]
    generalize q * y1 = p at *
    generalize (q + 1) * y0 = z
    omega
  generalize u / y1 = q at *
  generalize hp : q * y1 = p at *
  exact ⟨by omega, hQ, hq, by omega⟩
theorem knuth_exit {u d y1 y0 q r : Nat} (h : KEnv u d y1 y0) (k : KInv u d y1 y0 q r) (t : q * y0 ≤ 4294967296 * r + d) : q = (u * 4294967296 + d) / (y1 * 4294967296 + y0) := by
  obtain ⟨h1, h2, h3, h4, h5⟩ := h
  obtain ⟨k1, k2, k3, k4⟩ := k
  apply Nat.le_antisymm _ k2
  rw [Nat.le_div_iff_mul_le (by omega), Nat.mul_add, ← Nat.mul_assoc]
  generalize q * y1 = p at *
  generalize q * y0 = z at *
  omega
theorem knuth_step {u d y1 y0 q r : Nat} (h : KEnv u d y1 y0) (k : KInv u d y1 y0 q r) (t : 4294967296 ≤ q ∨ 4294967296 * r + d < q * y0) :
    1 ≤ q ∧ (q - 1) * y1 + (r + y1) = u ∧ (u * 4294967296 + d) / (y1 * 4294967296 + y0) ≤ q - 1 ∧ (4294967296 ≤ r + y1 → q - 1 = (u * 4294967296 + d) / (y1 * 4294967296 + y0)) ∧ (r + y1 < 4294967296 → KInv u d y1 y0 (q - 1) (r + y1)) := by
  obtain ⟨h1, h2, h3, h4, h5⟩ := h
  obtain ⟨k1, k2, k3, k4⟩ := k
  have hq : 1 ≤ q := by
    rcases t with t | t
    · omega
    · apply Nat.pos_of_ne_zero; intro e; subst e; omega
  obtain ⟨q, rfl⟩ : ∃ p, q = p + 1 := ⟨q - 1, by omega⟩
  have e1 : (q + 1) * y1 = q * y1 + y1 := by rw [Nat.add_mul]; omega
  have e2 : (q + 1) * y0 = q * y0 + y0 := by rw [Nat.add_mul]; omega
  rw [e1] at k1
  rw [e2] at t
  simp only [Nat.add_sub_cancel]
  have hQ : (u * 4294967296 + d) / (y1 * 4294967296 + y0) ≤ q := by
    apply Nat.le_of_lt_succ
    rw [Nat.div_lt_iff_lt_mul (by omega), Nat.succ_eq_add_one]
    rcases t with t | t
    · have : 4294967296 * (y1 * 4294967296 + y0) ≤ (q + 1) * (y1 * 4294967296 + y0) := Nat.mul_le_mul_right _ t
      omega
    · rw [Nat.mul_add, ← Nat.mul_assoc, e1, e2]
      generalize q * y1 = p at *
      generalize q * y0 = z at *
      omega
  have hk : q * y1 + (r + y1) = u := by omega
  refine ⟨by omega, hk, hQ, fun hb => ?_, fun hb => ⟨hk, hQ, by omega, hb⟩⟩
  apply Nat.le_antisymm _ hQ
  rw [Nat.le_div_iff_mul_le (by omega), Nat.mul_add, ← Nat.mul_assoc]
  have : q * y0 ≤ 4294967296 * 4294967295 := Nat.mul_le_mul (by omega) (by omega)
  generalize q * y1 = p at *
  generalize q * y0 = z at *
  omega
/-- What one digit leaves: the rest, worked out within 64 bits. -/
theorem knuth_rest {u d y Q : Nat} (hQ : Q = (u * 4294967296 + d) / y) (hy : y < 18446744073709551616) (hy0 : 0 < y) :
    IntKind.u64.wrap (IntKind.u64.wrap (IntKind.u64.wrap ((u : Int) * 4294967296) + (d : Int)) - IntKind.u64.wrap ((Q : Int) * (y : Int))) = (((u * 4294967296 + d) % y : Nat) : Int) := by
  have e := Nat.div_add_mod (u * 4294967296 + d) y
  have m := Nat.mod_lt (u * 4294967296 + d) hy0
  rw [← hQ, Nat.mul_comm] at e
  rw [show (Q : Int) * (y : Int) = ((Q * y : Nat) : Int) by simp]
  simp only [IntKind.wrap_u64]
  generalize (u * 4294967296 + d) % y = R at *
  generalize Q * y = p at *
  omega
theorem knuth_all {h l y : Nat} (hy : 0 < y) (hl : l < 18446744073709551616) (Q1 R1 Q0 R0 : Nat) (h1 : Q1 = (h * 4294967296 + l / 4294967296) / y) (h2 : R1 = (h * 4294967296 + l / 4294967296) % y)
    (h3 : Q0 = (R1 * 4294967296 + l % 4294967296) / y) (h4 : R0 = (R1 * 4294967296 + l % 4294967296) % y) :
    (h * 18446744073709551616 + l) / y = Q1 * 4294967296 + Q0 ∧ (h * 18446744073709551616 + l) % y = R0 ∧ (h < y → Q1 < 4294967296) ∧ Q0 < 4294967296 := by
  have e1 := Nat.div_add_mod (h * 4294967296 + l / 4294967296) y
  have e2 := Nat.div_add_mod (R1 * 4294967296 + l % 4294967296) y
  have m1 := Nat.mod_lt (h * 4294967296 + l / 4294967296) hy
  have m2 := Nat.mod_lt (R1 * 4294967296 + l % 4294967296) hy
  rw [← h2] at m1
  have b0 : Q0 < 4294967296 := by
    rw [h3, Nat.div_lt_iff_lt_mul hy]; omega
  have b1 : h < y → Q1 < 4294967296 := fun hh => by
    rw [h1, Nat.div_lt_iff_lt_mul hy]; omega
  rw [← h1, ← h2] at e1
  rw [← h3, ← h4] at e2
  rw [← h4] at m2
  have key : h * 18446744073709551616 + l = y * (Q1 * 4294967296 + Q0) + R0 := by
    rw [Nat.mul_add, ← Nat.mul_assoc]
    generalize y * Q1 = p at *
    generalize y * Q0 = z at *
    omega
  refine ⟨?_, ?_, b1, b0⟩
  · refine (congrArg (· / y) key).trans ((Nat.mul_add_div hy (Q1 * 4294967296 + Q0) R0).trans ?_)
    rw [Nat.div_eq_of_lt m2, Nat.add_zero]
  · exact (congrArg (· % y) key).trans ((Nat.mul_add_mod y (Q1 * 4294967296 + Q0) R0).trans (Nat.mod_eq_of_lt m2))
end Go.Proofs.Ythjdeopfbjmmeaa
