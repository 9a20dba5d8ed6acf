/- Plain words of layer alu: numbers of 32 and 64 bits, taken with a sign and without. No Go text is named here. -/
import Derived.WalkKit
import Derived.Laws.BitsAllLaws
import Derived.Laws.Bits64
import Derived.Laws.Bits64b
namespace Go.Proofs.Ytbbgcjdflcfnjaa
set_option linter.unusedVariables false
set_option linter.unusedSimpArgs false

/-- Taken with a sign: half is 2^31 or 2^63. -/
def sgn (half a : Nat) : Int := if a < half then (a : Int) else (a : Int) - 2 * half
/-- Brought round. -/
def uns (half : Nat) (x : Int) : Nat := (x % (2 * half : Nat)).toNat

def H32 : Nat := 2147483648
def H64 : Nat := 9223372036854775808

/-- Quotient and rest with a sign, of two words. -/
def quoS (half a b : Nat) : Nat := if b = 0 then 2 * half - 1 else uns half ((sgn half a).tdiv (sgn half b))
def remS (half a b : Nat) : Nat := if b = 0 then a else uns half ((sgn half a).tmod (sgn half b))
def quoU (half a b : Nat) : Nat := if b = 0 then 2 * half - 1 else a / b
def remU (half a b : Nat) : Nat := if b = 0 then a else a % b
def sraV (half a s : Nat) : Nat := uns half (sgn half a / 2 ^ s)

/-- What there is for both widths: wd places. -/
def bothV (wd half : Nat) (k : Int) (a b : Nat) : Option Nat :=
  if k = 14 then some ((a + (2 * half - b)) % (2 * half))
  else if k = 13 then some ((a + b) % (2 * half))
  else if k = 23 then some (a * b % (2 * half))
  else if k = 15 then some (a * 2 ^ (b % wd) % (2 * half))
  else if k = 19 then some (a / 2 ^ (b % wd))
  else if k = 20 then some (sraV half a (b % wd))
  else if k = 27 then some (quoS half a b)
  else if k = 28 then some (quoU half a b)
  else if k = 29 then some (remS half a b)
  else if k = 30 then some (remU half a b)
  else none

theorem uns_lt {half : Nat} (h : 0 < half) (x : Int) : uns half x < 2 * half := by
  unfold uns
  have h1 := Int.emod_nonneg x (b := ((2 * half : Nat) : Int)) (by omega)
  have h2 := Int.emod_lt_of_pos x (b := ((2 * half : Nat) : Int)) (by omega)
  omega
theorem uns_cast {half : Nat} (h : 0 < half) (x : Int) : ((uns half x : Nat) : Int) = x % (2 * half : Nat) := by
  unfold uns
  have h1 := Int.emod_nonneg x (b := ((2 * half : Nat) : Int)) (by omega)
  omega
theorem uwrap32 (x : Int) : IntKind.u32.wrap x = ((uns H32 x : Nat) : Int) := by
  rw [uns_cast (by decide), IntKind.wrap_u32]; rfl
theorem uwrap64 (x : Int) : IntKind.u64.wrap x = ((uns H64 x : Nat) : Int) := by
  rw [uns_cast (by decide), IntKind.wrap_u64]; rfl
theorem swrap32 (a : Nat) (h : a < 4294967296) : IntKind.i32.wrap (a : Int) = sgn H32 a := by
  unfold sgn H32; rw [IntKind.wrap_i32]; split <;> omega
theorem swrap64 (a : Nat) (h : a < 18446744073709551616) : IntKind.i64.wrap (a : Int) = sgn H64 a := by
  unfold sgn H64; rw [IntKind.wrap_i64]; split <;> omega
theorem sgn_range {half a : Nat} (h : a < 2 * half) : - (half : Int) ≤ sgn half a ∧ sgn half a < half := by
  unfold sgn; split <;> omega
theorem uns_sgn {half a : Nat} (h : a < 2 * half) : uns half (sgn half a) = a := by
  have := @Int.emod_eq_of_lt (a : Int) ((2 * half : Nat) : Int) (by omega) (by omega)
  unfold uns sgn; split
  · rw [this]; omega
  · rw [show ((a : Int) - 2 * half) = (a : Int) - ((2 * half : Nat) : Int) by omega, Int.sub_emod_right, this]; omega
theorem uns_nat (half n : Nat) : uns half (n : Int) = n % (2 * half) := by unfold uns; omega
theorem sgn_zero {half a : Nat} (hh : 0 < half) (h : a < 2 * half) : sgn half a = 0 ↔ a = 0 := by unfold sgn; split <;> omega
end Go.Proofs.Ytbbgcjdflcfnjaa
