/- Mathematics of TlbPages: one entry that is kept. -/
import Derived.Test.YtdplcdgdndeopaaM0
import Derived.Laws.Bits64
namespace Go.Proofs.Ytdplcdgdndeopaa
open Go.ChangeShapes Go.WideShapes Go.ChangeAt Go.RowKit Go.Sort
set_option linter.unusedVariables false
set_option linter.unusedSimpArgs false
/-- One entry alone. -/
def oneS (x : En) (sd : Nat) : St := ⟨setF (fun _ => E0) 0 x, setF (fun _ => false) 0 true, sd⟩
theorem put_one (x : En) (sd : Nat) (h : okP x = true) : putS (S0 sd) x = oneS x sd := by
  have h1 : fst (fun n => (S0 sd).is n && sameB ((S0 sd).e n) x) 0 8 = none := fst_no (fun i _ _ => rfl)
  have h2 : fst (fun n => !(S0 sd).is n) 0 8 = some 0 := rfl
  have hp : placeN (S0 sd) x = (0, sd) := by
    unfold placeN
    rw [h1, h2]; rfl
  unfold putS
  rw [if_pos h, hp]; rfl
theorem one_find (x : En) (sd s a : Nat) : findE (oneS x sd) s a = (if (hasB x a && meantB x s) = true then x else E0) ∧ findB (oneS x sd) s a = (hasB x a && meantB x s) := by
  unfold findE findB
  cases h : (hasB x a && meantB x s) with
  | true =>
    have hp : findP (oneS x sd) s a 0 = true := h
    have hn : findN (oneS x sd) s a = some 0 := fst_eq (Nat.le_refl _) (by decide) hp (fun i h1 h2 => by omega)
    rw [hn]; exact ⟨rfl, rfl⟩
  | false =>
    have hn : findN (oneS x sd) s a = none := fst_no (fun i h1 h2 => by
      by_cases e : i = 0
      · subst e; exact h
      · show ((setF (fun _ => false) 0 true i) && _ && _) = false
        unfold setF; rw [if_neg e]; rfl)
    rw [hn]; exact ⟨rfl, rfl⟩
theorem one_all (x : En) (sd : Nat) : allS (oneS x sd) = [x] := rfl
theorem pg_0 (ad0 sp0 lf aw sp2 a2 : Nat) (gl : Bool) (h1 : ad0 < 18446744073709551616) (h4 : a2 < 18446744073709551616) :
    okP ⟨ad0 / 4096 * 4096, 0, sp0 % 65536, gl, lf⟩ = true ∧ hasB ⟨ad0 / 4096 * 4096, 0, sp0 % 65536, gl, lf⟩ (ad0 / 4096 * 4096 + aw % 4096) = true ∧
    hasB ⟨ad0 / 4096 * 4096, 0, sp0 % 65536, gl, lf⟩ a2 = (a2 / 4096 * 4096 == ad0 / 4096 * 4096) ∧
    hasB ⟨ad0 / 4096 * 4096, 0, sp0 % 65536, gl, lf⟩ ((ad0 / 4096 * 4096 + 4096) % 18446744073709551616) = false ∧
    hasB ⟨ad0 / 4096 * 4096, 0, sp0 % 65536, gl, lf⟩ ((ad0 / 4096 * 4096 + 18446744073709551615) % 18446744073709551616) = false := by
  have hz : szN 0 = 4096 := rfl
  unfold okP hasB
  simp only [hz]
  refine ⟨?_, ?_, Bool.eq_iff_iff.2 ?_, ?_, ?_⟩
  · have e1 : decide (65535 < sp0 % 65536) = false := decide_eq_false (by omega)
    have e2 : (ad0 / 4096 * 4096 % 4096 == 0) = true := by simp
    rw [e1, e2]; rfl
  · simp only [beq_iff_eq]; omega
  · simp only [beq_iff_eq]; omega
  · simp only [beq_eq_false_iff_ne, ne_eq]; omega
  · simp only [beq_eq_false_iff_ne, ne_eq]; omega
theorem pg_1 (ad0 sp0 lf aw sp2 a2 : Nat) (gl : Bool) (h1 : ad0 < 18446744073709551616) (h4 : a2 < 18446744073709551616) :
    okP ⟨ad0 / 2097152 * 2097152, 1, sp0 % 65536, gl, lf⟩ = true ∧ hasB ⟨ad0 / 2097152 * 2097152, 1, sp0 % 65536, gl, lf⟩ (ad0 / 2097152 * 2097152 + aw % 2097152) = true ∧
    hasB ⟨ad0 / 2097152 * 2097152, 1, sp0 % 65536, gl, lf⟩ a2 = (a2 / 2097152 * 2097152 == ad0 / 2097152 * 2097152) ∧
    hasB ⟨ad0 / 2097152 * 2097152, 1, sp0 % 65536, gl, lf⟩ ((ad0 / 2097152 * 2097152 + 2097152) % 18446744073709551616) = false ∧
    hasB ⟨ad0 / 2097152 * 2097152, 1, sp0 % 65536, gl, lf⟩ ((ad0 / 2097152 * 2097152 + 18446744073709551615) % 18446744073709551616) = false := by
  have hz : szN 1 = 2097152 := rfl
  unfold okP hasB
  simp only [hz]
  refine ⟨?_, ?_, Bool.eq_iff_iff.2 ?_, ?_, ?_⟩
  · have e1 : decide (65535 < sp0 % 65536) = false := decide_eq_false (by omega)
    have e2 : (ad0 / 2097152 * 2097152 % 2097152 == 0) = true := by simp
    rw [e1, e2]; rfl
  · simp only [beq_iff_eq]; omega
  · simp only [beq_iff_eq]; omega
  · simp only [beq_eq_false_iff_ne, ne_eq]; omega
  · simp only [beq_eq_false_iff_ne, ne_eq]; omega
theorem pg_2 (ad0 sp0 lf aw sp2 a2 : Nat) (gl : Bool) (h1 : ad0 < 18446744073709551616) (h4 : a2 < 18446744073709551616) :
    okP ⟨ad0 / 1073741824 * 1073741824, 2, sp0 % 65536, gl, lf⟩ = true ∧ hasB ⟨ad0 / 1073741824 * 1073741824, 2, sp0 % 65536, gl, lf⟩ (ad0 / 1073741824 * 1073741824 + aw % 1073741824) = true ∧
    hasB ⟨ad0 / 1073741824 * 1073741824, 2, sp0 % 65536, gl, lf⟩ a2 = (a2 / 1073741824 * 1073741824 == ad0 / 1073741824 * 1073741824) ∧
    hasB ⟨ad0 / 1073741824 * 1073741824, 2, sp0 % 65536, gl, lf⟩ ((ad0 / 1073741824 * 1073741824 + 1073741824) % 18446744073709551616) = false ∧
    hasB ⟨ad0 / 1073741824 * 1073741824, 2, sp0 % 65536, gl, lf⟩ ((ad0 / 1073741824 * 1073741824 + 18446744073709551615) % 18446744073709551616) = false := by
  have hz : szN 2 = 1073741824 := rfl
  unfold okP hasB
  simp only [hz]
  refine ⟨?_, ?_, Bool.eq_iff_iff.2 ?_, ?_, ?_⟩
  · have e1 : decide (65535 < sp0 % 65536) = false := decide_eq_false (by omega)
    have e2 : (ad0 / 1073741824 * 1073741824 % 1073741824 == 0) = true := by simp
    rw [e1, e2]; rfl
  · simp only [beq_iff_eq]; omega
  · simp only [beq_iff_eq]; omega
  · simp only [beq_eq_false_iff_ne, ne_eq]; omega
  · simp only [beq_eq_false_iff_ne, ne_eq]; omega
theorem e64 {x y : Nat} (hx : x < 18446744073709551616) (hy : y < 18446744073709551616) (h : ∀ i, i < 64 → x.testBit i = y.testBit i) : x = y := by
  apply Nat.eq_of_testBit_eq
  intro i
  by_cases hi : i < 64
  · exact h i hi
  · have hp : 2 ^ 64 ≤ 2 ^ i := Nat.pow_le_pow_right (by decide) (by omega)
    rw [Nat.testBit_lt_two_pow (Nat.lt_of_lt_of_le hx hp), Nat.testBit_lt_two_pow (Nat.lt_of_lt_of_le hy hp)]
theorem low_and (A s : Nat) (hA : A < 18446744073709551616) (hs : s < 64) : bits .and .u64 (A : Int) ((2 ^ s - 1 : Nat) : Int) = ((A % 2 ^ s : Nat) : Int) := by
  have hp : 2 ^ s < 18446744073709551616 := Nat.pow_lt_pow_right (a := 2) (by decide) hs
  rw [bits_and_u64_nat A (2 ^ s - 1) hA (by omega), Nat.and_two_pow_sub_one_eq_mod]
theorem low_not (A s : Nat) (hA : A < 18446744073709551616) (hs : s < 64) : bits .andNot .u64 (A : Int) ((2 ^ s - 1 : Nat) : Int) = ((A / 2 ^ s * 2 ^ s : Nat) : Int) := by
  have hp : 2 ^ s < 18446744073709551616 := Nat.pow_lt_pow_right (a := 2) (by decide) hs
  have hp0 : 0 < 2 ^ s := Nat.two_pow_pos s
  rw [u64_andNot_nat A (2 ^ s - 1) hA (by omega)]
  congr 1
  refine e64 (Nat.lt_of_le_of_lt Nat.and_le_left hA) (Nat.lt_of_le_of_lt (Nat.div_mul_le_self _ _) hA) (fun i hi => ?_)
  rw [Nat.testBit_and, show 18446744073709551615 - (2 ^ s - 1) = 2 ^ 64 - ((2 ^ s - 1) + 1) by omega, Nat.testBit_two_pow_sub_succ (by show _ < _; omega), Nat.testBit_two_pow_sub_one,
    show A / 2 ^ s * 2 ^ s = (A / 2 ^ s) <<< s by rw [Nat.shiftLeft_eq], Nat.testBit_shiftLeft, Nat.testBit_div_two_pow]
  by_cases h : s ≤ i
  · rw [show i - s + s = i by omega]; simp [h, hi]
  · simp [h]; intro _; omega
theorem low_or (N a s : Nat) (hN : N % 2 ^ s = 0) (ha : a < 2 ^ s) (hl : N + a < 18446744073709551616) : bits .or .u64 (N : Int) (a : Int) = ((N + a : Nat) : Int) := by
  rw [bits_or_u64_nat N a (by omega) (by omega)]
  have e : N = 2 ^ s * (N / 2 ^ s) := by have := Nat.div_add_mod N (2 ^ s); omega
  have := Nat.two_pow_add_eq_or_of_lt ha (N / 2 ^ s)
  rw [← e] at this
  rw [this]
end Go.Proofs.Ytdplcdgdndeopaa
