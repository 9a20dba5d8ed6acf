/- Taken from other texts: what is needed of them. -/
import Derived.WalkKit
import Derived.Laws.BitsAllLaws
import Derived.Laws.Bits64
import Derived.Laws.Bits64b
import Derived.Lib.ItoaNum
namespace Go.Proofs.Yteinjalnkhfecaa.Q
set_option linter.unusedVariables false
set_option linter.unusedSimpArgs false
/-- Two words are a number of 128 bits. -/
def IsW (h l n : Nat) : Prop := h < 18446744073709551616 ∧ l < 18446744073709551616 ∧ h * 18446744073709551616 + l = n
def fb (d : Bool) : Nat := if d then 52 else 23
/-- The exponent of the greatest finite float. -/
def bias (d : Bool) : Int := if d then 1023 else 127
def signB (d : Bool) : Nat := if d then 9223372036854775808 else 2147483648
def infB (d : Bool) : Nat := if d then 9218868437227405312 else 2139095040
def noughtV (d m : Bool) : Nat := if m then signB d else 0
def infV (d m : Bool) : Nat := noughtV d m + infB d
def fracT (d : Bool) : Nat := if d then 4503599627370496 else 8388608
def expT (d : Bool) : Nat := if d then 2048 else 256
theorem wrapN (n : Nat) : IntKind.u64.wrap (n : Int) = ((n % 18446744073709551616 : Nat) : Int) := by
  rw [IntKind.wrap_u64]; omega
theorem wrap_shl (a n : Nat) : IntKind.u64.wrap ((a : Int) * 2 ^ n) = ((a * 2 ^ n % 18446744073709551616 : Nat) : Int) := by
  rw [show (a : Int) * 2 ^ n = ((a * 2 ^ n : Nat) : Int) by simp, wrapN]
theorem div_shr (a n : Nat) : (a : Int) / 2 ^ n = ((a / 2 ^ n : Nat) : Int) := by simp
theorem or_disj (i x y : Nat) (hx : x % 2 ^ i = 0) (hy : y < 2 ^ i) : x ||| y = x + y := nat_join i x y hx hy
/-- How many bits a number has. -/
def blen (n : Nat) : Nat := if n = 0 then 0 else n.log2 + 1
theorem blen_of (n k : Nat) (h0 : n ≠ 0) (h1 : 2 ^ k ≤ n) (h2 : n < 2 ^ (k + 1)) : blen n = k + 1 := by
  unfold blen; rw [if_neg h0, (Nat.log2_eq_iff h0).2 ⟨h1, h2⟩]
theorem blen_bounds (n : Nat) (h0 : n ≠ 0) : 1 ≤ blen n ∧ 2 ^ (blen n - 1) ≤ n ∧ n < 2 ^ blen n := by
  unfold blen; rw [if_neg h0]
  exact ⟨by omega, by rw [Nat.add_sub_cancel]; exact Nat.log2_self_le h0, Nat.lt_log2_self⟩
theorem blen_le (n k : Nat) (h : n < 2 ^ k) : blen n ≤ k := by
  by_cases h0 : n = 0
  · subst h0; simp [blen]
  · obtain ⟨_, a, _⟩ := blen_bounds n h0
    apply Nat.le_of_not_lt; intro hk
    exact Nat.lt_irrefl _ (Nat.lt_of_lt_of_le h (Nat.le_trans (Nat.pow_le_pow_right (by decide) (by omega)) a))
theorem IsW.lt {h l x h' l' x' : Nat} (H : IsW h l x) (H' : IsW h' l' x') : x < x' ↔ (h < h' ∨ h = h' ∧ l < l') := by
  obtain ⟨a, b, rfl⟩ := H; obtain ⟨c, d, rfl⟩ := H'; omega
end Go.Proofs.Yteinjalnkhfecaa.Q
