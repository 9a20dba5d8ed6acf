/- Bits of what registers hold. -/
import Derived.Test.YtmlbobjbkbcabaaD1
namespace Go.Proofs.Ytmlbobjbkbcabaa
open Go.ChangeShapes Go.WideShapes Go.ChangeAt Go.RowKit P
set_option linter.unusedVariables false
set_option linter.unusedSimpArgs false
theorem shr_and (x k m : Nat) : x / 2 ^ k &&& m = (x &&& (m * 2 ^ k)) / 2 ^ k := by
  rw [← Nat.shiftRight_eq_div_pow, ← Nat.shiftRight_eq_div_pow, Nat.shiftRight_and_distrib, Nat.shiftRight_eq_div_pow (m * 2 ^ k), Nat.mul_div_cancel _ (Nat.two_pow_pos k)]
theorem stl_cases (y : Nat) : (stlN y = fldN y ||| 9223372036854775808 ∧ fldN y &&& 24576 = 24576) ∨ (stlN y = fldN y ∧ ¬ fldN y &&& 24576 = 24576) := by
  unfold stlN
  cases h : fldN y &&& 24576 == 24576
  · exact .inr ⟨rfl, fun e => by rw [e] at h; exact absurd h (by decide)⟩
  · exact .inl ⟨rfl, by simpa using h⟩
theorem fld_bits (y : Nat) : (fldN y &&& 64424509440 = 42949672960 ∧ (fldN y ||| 9223372036854775808) &&& 64424509440 = 42949672960) ∧ (fldN y &&& 9223371993896814165 = 0 ∧ (fldN y ||| 9223372036854775808) &&& 9223371993896814165 = 0) ∧
    (fldN y &&& 9223372036854775808 = 0 ∧ (fldN y ||| 9223372036854775808) &&& 9223372036854775808 = 9223372036854775808) ∧ (fldN y ||| 9223372036854775808) &&& 24576 = fldN y &&& 24576 := by
  refine ⟨⟨?_, ?_⟩, ⟨?_, ?_⟩, ⟨?_, ?_⟩, ?_⟩
  all_goals
    refine ext64 (and_lt2 _ _ (by decide)) (by first | decide | exact and_lt2 _ _ (by decide)) (fun i hi => ?_)
    simp only [fldN, Nat.testBit_and, Nat.testBit_or]
    obtain ⟨j, rfl⟩ : ∃ j : Fin 64, j.val = i := ⟨⟨i, hi⟩, rfl⟩
    generalize y.testBit j.val = a
    clear hi y
    revert j a
    decide +kernel
theorem stl_facts {x : Nat} (h : stlN x = x) : x &&& 64424509440 = 42949672960 ∧ x &&& 9223371993896814165 = 0 ∧ ((x &&& 9223372036854775808 = 9223372036854775808 ∧ x &&& 24576 = 24576) ∨ (x &&& 9223372036854775808 = 0 ∧ ¬ x &&& 24576 = 24576)) := by
  obtain ⟨⟨a1, a2⟩, ⟨b1, b2⟩, ⟨c1, c2⟩, d⟩ := fld_bits x
  rcases stl_cases x with ⟨e, f⟩ | ⟨e, f⟩
  · rw [h] at e
    have e' := e.symm
    rw [e'] at a2 b2 c2 d
    exact ⟨a2, b2, .inl ⟨c2, by rw [d]; exact f⟩⟩
  · rw [h] at e
    have e' := e.symm
    rw [e'] at a1 b1 c1 f
    exact ⟨a1, b1, .inr ⟨c1, f⟩⟩
/-- Mstatus: the modes, the widths, the sum, the bits that stay 0. -/
theorem leg_status {S : Nat → Nat} (h : Leg S) : (¬ S 0 / 2048 &&& 3 = 2) ∧ S 0 / 4294967296 &&& 15 = 10 ∧ (S 0 / 9223372036854775808 = 1 ∧ S 0 / 8192 &&& 3 = 3 ∨ ¬ S 0 / 9223372036854775808 = 1 ∧ ¬ S 0 / 8192 &&& 3 = 3) ∧ S 0 &&& 9223371993896814165 = 0 := by
  obtain ⟨a, b, c⟩ := stl_facts h.m0
  have hx := h.ok.u 0 (by decide)
  refine ⟨?_, ?_, ?_, b⟩
  · have e := shr_and (S 0) 11 3
    rw [show (2 : Nat) ^ 11 = 2048 by decide, show 3 * 2048 = 6144 by decide] at e
    rw [e]
    intro q
    have m1 := h.m1
    have e2 : S 0 &&& 6144 = 2048 * (S 0 / 2048 &&& 3) := by
      have := shr_and (S 0) 11 3
      rw [show (2 : Nat) ^ 11 = 2048 by decide, show 3 * 2048 = 6144 by decide] at this
      have k : ∀ z : Nat, (z &&& 6144) % 2048 = 0 := fun z => by
        rw [show (2048 : Nat) = 2 ^ 11 by decide, ← Nat.and_two_pow_sub_one_eq_mod, Nat.and_assoc]; exact Nat.and_zero _
      have := k (S 0)
      omega
    rw [e, q] at e2
    rw [e2] at m1
    exact absurd m1 (by decide)
  · have e := shr_and (S 0) 32 15
    rw [show (2 : Nat) ^ 32 = 4294967296 by decide, show 15 * 4294967296 = 64424509440 by decide, a] at e
    exact e
  · have e := shr_and (S 0) 13 3
    rw [show (2 : Nat) ^ 13 = 8192 by decide, show 3 * 8192 = 24576 by decide] at e
    have f := shr_and (S 0) 63 1
    rw [show (2 : Nat) ^ 63 = 9223372036854775808 by decide, Nat.one_mul, Nat.and_one_is_mod] at f
    have k : (S 0 &&& 24576) % 8192 = 0 := by
      rw [show (8192 : Nat) = 2 ^ 13 by decide, ← Nat.and_two_pow_sub_one_eq_mod, Nat.and_assoc]; exact Nat.and_zero _
    rcases c with ⟨c1, c2⟩ | ⟨c1, c2⟩
    · rw [c1] at f; rw [c2] at e
      exact .inl ⟨by omega, e⟩
    · rw [c1] at f
      exact .inr ⟨by omega, by omega⟩
theorem low_of {S : Nat → Nat} (h : Leg S) (k m : Nat) (hk : k < 22) (hm : mskC k &&& m = 0) : S k &&& m = 0 := by
  rw [← h.pl k hk, Nat.and_assoc, hm]; exact Nat.and_zero _
theorem le_of {S : Nat → Nat} (h : Leg S) (k : Nat) (hk : k < 22) : S k ≤ mskC k := by
  rw [← h.pl k hk]; exact Nat.and_le_right
theorem cfg_bits {c : Nat} (h : cleanF c = c ∧ oddB c = false) (hc : c < 256) : bits .and .u8 (c : Int) 96 = 0 ∧ ¬ bits .and .u8 (c : Int) 3 = 2 := by
  have q : ∀ c : Fin 256, cleanF c.val = c.val ∧ oddB c.val = false → bits .and .u8 (c.val : Int) 96 = 0 ∧ ¬ bits .and .u8 (c.val : Int) 3 = 2 := by decide +kernel
  exact q ⟨c, hc⟩ h
end Go.Proofs.Ytmlbobjbkbcabaa
