/- The plain mathematics of a whole square root, bit by bit. No Go text is named here. -/
import Derived.Test.YthjdeopfbjmmeaaM0
namespace Go.Proofs.Ythjdeopfbjmmeaa
set_option linter.unusedVariables false
set_option linter.unusedSimpArgs false
/-- The root, from a bit on. -/
def isqAux (w : Nat) : Nat → Nat → Nat
  | 0, r => r
  | j + 1, r => isqAux w j (if (r + 2 ^ j) * (r + 2 ^ j) ≤ w then r + 2 ^ j else r)
/-- The greatest number whose square is not above a number of 128 bits. -/
def isq (w : Nat) : Nat := isqAux w 64 0
theorem isqAux_spec (w : Nat) : ∀ (j r : Nat), r * r ≤ w → w < (r + 2 ^ j) * (r + 2 ^ j) →
    isqAux w j r * isqAux w j r ≤ w ∧ w < (isqAux w j r + 1) * (isqAux w j r + 1)
  | 0, r, h1, h2 => ⟨h1, h2⟩
  | j + 1, r, h1, h2 => by
    have e : 2 ^ (j + 1) = 2 ^ j + 2 ^ j := by rw [Nat.pow_succ]; omega
    rw [e, ← Nat.add_assoc] at h2
    unfold isqAux
    by_cases h : (r + 2 ^ j) * (r + 2 ^ j) ≤ w
    · rw [if_pos h]; exact isqAux_spec w j _ h h2
    · rw [if_neg h]; exact isqAux_spec w j r h1 (by omega)
theorem isq_spec (w : Nat) (h : w < 2 ^ 128) : isq w * isq w ≤ w ∧ w < (isq w + 1) * (isq w + 1) :=
  isqAux_spec w 64 0 (by omega) (by rw [Nat.zero_add, ← Nat.pow_add]; exact h)
theorem isq_lt (w : Nat) (h : w < 2 ^ 128) : isq w < 18446744073709551616 := by
  apply Nat.lt_of_not_le; intro h1
  have h2 := Nat.mul_le_mul h1 h1
  have := (isq_spec w h).1
  have e : (2 : Nat) ^ 128 = 18446744073709551616 * 18446744073709551616 := by decide
  omega
theorem isq_ne (w : Nat) (h : w < 2 ^ 128) (h0 : w ≠ 0) : isq w ≠ 0 := by
  intro e
  have := (isq_spec w h).2
  rw [e] at this; omega
/-- What holds at the head of the root's loop, j bits to go. -/
def RInv (w j r : Nat) : Prop := j ≤ 64 ∧ isqAux w j r = isq w ∧ r % 2 ^ j = 0 ∧ r + 2 ^ j ≤ 18446744073709551616
def bitV (j : Nat) : Nat := 2 ^ j / 2
theorem bitV_succ (j : Nat) : bitV (j + 1) = 2 ^ j := by unfold bitV; rw [Nat.pow_succ]; omega
theorem bitV_half (j : Nat) : bitV (j + 1) / 2 = bitV j := by rw [bitV_succ]; rfl
theorem rinv_start (w : Nat) : RInv w 64 0 := ⟨by decide, rfl, by decide, by decide⟩
theorem rinv_or {w j r : Nat} (h : RInv w (j + 1) r) : r ||| 2 ^ j = r + 2 ^ j ∧ r + 2 ^ j < 18446744073709551616 ∧ r < 18446744073709551616 := by
  obtain ⟨h1, h2, h3, h4⟩ := h
  have hp : 0 < 2 ^ j := Nat.two_pow_pos j
  have e : 2 ^ (j + 1) = 2 ^ j + 2 ^ j := by rw [Nat.pow_succ]; omega
  refine ⟨or_disj (j + 1) r (2 ^ j) h3 (by omega), by omega, by omega⟩
theorem rinv_step {w j r : Nat} (h : RInv w (j + 1) r) : ((r + 2 ^ j) * (r + 2 ^ j) ≤ w → RInv w j (r + 2 ^ j)) ∧ (w < (r + 2 ^ j) * (r + 2 ^ j) → RInv w j r) := by
  obtain ⟨h1, h2, h3, h4⟩ := h
  have hp : 0 < 2 ^ j := Nat.two_pow_pos j
  have e : 2 ^ (j + 1) = 2 ^ j + 2 ^ j := by rw [Nat.pow_succ]; omega
  have hm : r % 2 ^ j = 0 := by
    have : r % 2 ^ (j + 1) % 2 ^ j = r % 2 ^ j := Nat.mod_mod_of_dvd r (Nat.pow_dvd_pow 2 (by omega))
    rw [← this, h3]; simp
  unfold isqAux at h2
  refine ⟨fun h => ⟨by omega, ?_, ?_, by omega⟩, fun h => ⟨by omega, ?_, hm, by omega⟩⟩
  · rw [if_pos h] at h2; exact h2
  · rw [Nat.add_mod_right]; exact hm
  · rw [if_neg (by omega)] at h2; exact h2
theorem rinv_end {w r : Nat} (h : RInv w 0 r) : r = isq w := h.2.1
theorem bitV_pos {j : Nat} (h : bitV j ≠ 0) : ∃ i, j = i + 1 := by
  cases j with
  | zero => exact absurd rfl h
  | succ i => exact ⟨i, rfl⟩
end Go.Proofs.Ythjdeopfbjmmeaa
