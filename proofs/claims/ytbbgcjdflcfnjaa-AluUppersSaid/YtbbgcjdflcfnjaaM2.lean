/- What operations, branches, atomic operations and extensions make of numbers: the plain words. -/
import Derived.Test.YtbbgcjdflcfnjaaM1
namespace Go.Proofs.Ytbbgcjdflcfnjaa
open Go.RowKit
set_option linter.unusedVariables false
set_option linter.unusedSimpArgs false
def lessU (a b : Nat) : Nat := if a < 9223372036854775808 then 0 else b
def upperV (k : Int) (a b : Nat) : Option Nat :=
  if k = 24 then some ((a * b / 18446744073709551616 + (36893488147419103232 - (lessU b a + lessU a b))) % 18446744073709551616)
  else if k = 25 then some ((a * b / 18446744073709551616 + (18446744073709551616 - lessU a b)) % 18446744073709551616)
  else if k = 26 then some (a * b / 18446744073709551616)
  else none
def wholeV (k : Int) (a b : Nat) : Option Nat :=
  if k = 16 then some (if sgn H64 a < sgn H64 b then 1 else 0)
  else if k = 17 then some (if a < b then 1 else 0)
  else if k = 18 then some (a ^^^ b)
  else if k = 21 then some (a ||| b)
  else if k = 22 then some (a &&& b)
  else upperV k a b
/-- 32 bits widened. -/
def wide32 (n : Nat) : Nat := uns H64 (sgn H32 n)
def doV (k : Int) (word : Bool) (a b : Nat) : Option Nat :=
  if word then (bothV 32 H32 k (a % 4294967296) (b % 4294967296)).map wide32
  else (bothV 64 H64 k a b).or (wholeV k a b)
def branchV (k : Int) (a b : Nat) : Option Bool :=
  if k = 6 then some (!decide (a = b)) else if k = 5 then some (decide (a = b))
  else if k = 8 then some (!decide (sgn H64 a < sgn H64 b)) else if k = 7 then some (decide (sgn H64 a < sgn H64 b))
  else if k = 10 then some (!decide (a < b)) else if k = 9 then some (decide (a < b))
  else none
def swapV (half : Nat) (k : Int) (a b : Nat) : Option Nat :=
  if k = 40 then some b else if k = 41 then some ((a + b) % (2 * half))
  else if k = 42 then some (a ^^^ b) else if k = 43 then some (a &&& b) else if k = 44 then some (a ||| b)
  else if k = 45 then some (if sgn half a < sgn half b then a else b)
  else if k = 46 then some (if sgn half a < sgn half b then b else a)
  else if k = 47 then some (if a < b then a else b)
  else if k = 48 then some (if a < b then b else a)
  else none
def atomV (k size : Int) (a b : Nat) : Option Nat :=
  if size = 4 then swapV H32 k (a % 4294967296) (b % 4294967296) else if size = 8 then swapV H64 k a b else none
def extS (half v : Nat) (u : Bool) : Nat := if u then v % (2 * half) else uns H64 (sgn half (v % (2 * half)))
def extV (v : Nat) (size : Int) (u : Bool) : Option Nat :=
  if size = 1 then some (extS 128 v u) else if size = 2 then some (extS 32768 v u) else if size = 4 then some (extS H32 v u) else if size = 8 then some (extS H64 v u) else none

theorem top_xor (a : Nat) (ha : a < 18446744073709551616) : a ^^^ 9223372036854775808 = if a < 9223372036854775808 then a + 9223372036854775808 else a - 9223372036854775808 := by
  have h1 : (a ^^^ 9223372036854775808) / 2 ^ 63 = a / 2 ^ 63 ^^^ 1 := by rw [Nat.xor_div_two_pow]
  have h2 : (a ^^^ 9223372036854775808) % 2 ^ 63 = a % 2 ^ 63 := by rw [Nat.xor_mod_two_pow]; simp
  rw [show (2 : Nat) ^ 63 = 9223372036854775808 by decide] at h1 h2
  have h3 : a / 9223372036854775808 = 0 ∨ a / 9223372036854775808 = 1 := by omega
  split
  · rw [show a / 9223372036854775808 = 0 by omega] at h1; simp at h1; omega
  · rw [show a / 9223372036854775808 = 1 by omega] at h1; simp at h1; omega
theorem turned_lt (a b : Nat) (ha : a < 18446744073709551616) (hb : b < 18446744073709551616) : (a ^^^ 9223372036854775808) < (b ^^^ 9223372036854775808) ↔ sgn H64 a < sgn H64 b := by
  rw [top_xor a ha, top_xor b hb]; unfold sgn H64; split <;> split <;> omega
theorem xor_lt64 (a b : Nat) (ha : a < 18446744073709551616) (hb : b < 18446744073709551616) : (a ^^^ b) < 18446744073709551616 := Nat.xor_lt_two_pow (n := 64) ha hb
theorem and_sign (a b : Nat) (ha : a < 18446744073709551616) : a &&& signV b = lessU b a := by
  unfold signV lessU; split
  · simp
  · rw [show (18446744073709551615 : Nat) = 2 ^ 64 - 1 by decide, Nat.and_two_pow_sub_one_eq_mod]; exact Nat.mod_eq_of_lt ha
theorem lessU_le (a b : Nat) : lessU a b ≤ b := by unfold lessU; split <;> omega
theorem hi_lt (a b : Nat) (ha : a < 18446744073709551616) (hb : b < 18446744073709551616) : a * b / 18446744073709551616 < 18446744073709551616 := by
  rw [Nat.div_lt_iff_lt_mul (by decide)]; exact Nat.mul_lt_mul'' ha hb
def LtO (N : Nat) (o : Option Nat) : Prop := ∀ n, o = some n → n < N
theorem lt_none (N : Nat) : LtO N none := fun n h => nomatch h
theorem lt_ite {N : Nat} {c : Prop} [Decidable c] {x : Nat} {o : Option Nat} (hx : x < N) (ho : LtO N o) : LtO N (if c then some x else o) := by
  intro n h
  by_cases hc : c
  · rw [if_pos hc] at h; injection h with h; rw [← h]; exact hx
  · rw [if_neg hc] at h; exact ho n h
theorem ite_nat_lt {N : Nat} {c : Prop} [Decidable c] {x y : Nat} (hx : x < N) (hy : y < N) : (if c then x else y) < N := by split <;> assumption
theorem bothV_lt {wd half : Nat} (hh : 0 < half) {k : Int} {a b n : Nat} (ha : a < 2 * half) (h : bothV wd half k a b = some n) : n < 2 * half := by
  have hm := fun x => Nat.mod_lt x (show 0 < 2 * half by omega)
  have hd := fun x => Nat.lt_of_le_of_lt (Nat.div_le_self a x) ha
  have hu := fun x => uns_lt hh x
  have hb : LtO (2 * half) (bothV wd half k a b) := by
    unfold bothV quoS remS quoU remU sraV
    exact lt_ite (hm _) (lt_ite (hm _) (lt_ite (hm _) (lt_ite (hm _) (lt_ite (hd _) (lt_ite (hu _) (lt_ite (ite_nat_lt (by omega) (hu _)) (lt_ite (ite_nat_lt (by omega) (hd _))
      (lt_ite (ite_nat_lt ha (hu _)) (lt_ite (ite_nat_lt ha (Nat.lt_of_le_of_lt (Nat.mod_le _ _) ha)) (lt_none _))))))))))
  exact hb n h
theorem swapV_lt {half : Nat} {j : Nat} (hj : 2 * half = 2 ^ j) {k : Int} {a b n : Nat} (ha : a < 2 * half) (hb : b < 2 * half) (h : swapV half k a b = some n) : n < 2 * half := by
  have ha' := ha; have hb' := hb
  rw [hj] at ha' hb'
  have hm := Nat.mod_lt (a + b) (show 0 < 2 * half by omega)
  have hx : a ^^^ b < 2 * half := by rw [hj]; exact Nat.xor_lt_two_pow ha' hb'
  have hn : a &&& b < 2 * half := Nat.lt_of_le_of_lt Nat.and_le_left ha
  have ho : a ||| b < 2 * half := by rw [hj]; exact Nat.or_lt_two_pow ha' hb'
  have hl : LtO (2 * half) (swapV half k a b) := by
    unfold swapV
    exact lt_ite hb (lt_ite hm (lt_ite hx (lt_ite hn (lt_ite ho (lt_ite (ite_nat_lt ha hb) (lt_ite (ite_nat_lt hb ha) (lt_ite (ite_nat_lt ha hb) (lt_ite (ite_nat_lt hb ha) (lt_none _)))))))))
  exact hl n h
theorem wide_conv (n : Nat) (hn : n < 4294967296) : wrap32 (n : Int) % 18446744073709551616 = ((wide32 n : Nat) : Int) := by
  unfold wide32; rw [uns_cast (by decide), sw32 n hn]; rfl
theorem low_conv (a : Nat) : (a : Int) % 4294967296 = ((a % 4294967296 : Nat) : Int) := by simp
end Go.Proofs.Ytbbgcjdflcfnjaa
