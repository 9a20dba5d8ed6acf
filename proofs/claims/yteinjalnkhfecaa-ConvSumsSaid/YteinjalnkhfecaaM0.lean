/- Words of the plain mathematics of layer soft: numbers of 128 bits as two words, and how bits are joined. No Go text is named here. -/
import Derived.WalkKit
import Derived.Laws.BitsAllLaws
import Derived.Laws.Bits64
import Derived.Laws.Bits64b
import Derived.Lib.ItoaNum
namespace Go.Proofs.Yteinjalnkhfecaa
set_option linter.unusedVariables false
set_option linter.unusedSimpArgs false

/-- Two words are a number of 128 bits. -/
def IsW (h l n : Nat) : Prop := h < 18446744073709551616 ∧ l < 18446744073709551616 ∧ h * 18446744073709551616 + l = n

/-- A float taken apart, as the code has it. -/
structure Num where
  cls : Nat
  minus : Bool
  exp : Int
  mag : Nat

def IsN (c : Int) (m : Bool) (x : Int) (h l : Nat) (N : Num) : Prop := c = N.cls ∧ m = N.minus ∧ x = N.exp ∧ IsW h l N.mag

/-- Shifted to the left, within 128 bits. -/
def shl (x n : Nat) : Nat := x * 2 ^ n % 2 ^ 128

def Fits (x : Nat) : Prop := x < 2 ^ 128

def eb (d : Bool) : Nat := if d then 11 else 8
def fb (d : Bool) : Nat := if d then 52 else 23

/-- How the floats of a size are laid out: bits of exponent, of fraction. -/
def Lay (d : Bool) (E F : Int) : Prop := (d = false ∧ E = 8 ∧ F = 23) ∨ (d = true ∧ E = 11 ∧ F = 52)
/-- The exponent of the greatest finite float. -/
def bias (d : Bool) : Int := if d then 1023 else 127
def signB (d : Bool) : Nat := if d then 9223372036854775808 else 2147483648
def infB (d : Bool) : Nat := if d then 9218868437227405312 else 2139095040
def quietB (d : Bool) : Nat := if d then 9221120237041090560 else 2143289344
def noughtV (d m : Bool) : Nat := if m then signB d else 0
def infV (d m : Bool) : Nat := noughtV d m + infB d
def fracT (d : Bool) : Nat := if d then 4503599627370496 else 8388608
def expT (d : Bool) : Nat := if d then 2048 else 256
def classV (d : Bool) (fr : Nat) : Int := if fr = 0 then 2 else if fr / (fracT d / 2) = 0 then 4 else 3
/-- A float taken apart. -/
def readN (d : Bool) (a : Nat) : Num :=
  let field := a / fracT d % expT d
  let fr := a % fracT d
  let m := decide (a / signB d % 2 = 1)
  if field = expT d - 1 then ⟨(classV d fr).toNat, m, 0, 0⟩
  else if field ≠ 0 then ⟨1, m, (field : Int) - bias d - fb d, fr + fracT d⟩
  else if fr ≠ 0 then ⟨1, m, 1 - bias d - fb d, fr⟩
  else ⟨0, m, 0, 0⟩

theorem pow64 : (18446744073709551616 : Nat) = 2 ^ 64 := by decide
theorem wrapN (n : Nat) : IntKind.u64.wrap (n : Int) = ((n % 18446744073709551616 : Nat) : Int) := by
  rw [IntKind.wrap_u64]; omega
theorem wrap_shl (a n : Nat) : IntKind.u64.wrap ((a : Int) * 2 ^ n) = ((a * 2 ^ n % 18446744073709551616 : Nat) : Int) := by
  rw [show (a : Int) * 2 ^ n = ((a * 2 ^ n : Nat) : Int) by simp, wrapN]
theorem div_shr (a n : Nat) : (a : Int) / 2 ^ n = ((a / 2 ^ n : Nat) : Int) := by simp

theorem div_shr_min (a n : Nat) (h : a < 18446744073709551616) : (a : Int) / 2 ^ min n 64 = ((a / 2 ^ n : Nat) : Int) := by
  by_cases hn : n ≤ 64
  · rw [Nat.min_eq_left hn]; simp
  · rw [Nat.min_eq_right (by omega), div_shr]
    have e1 : a / 2 ^ 64 = 0 := Nat.div_eq_of_lt h
    have e2 : a / 2 ^ n = 0 := Nat.div_eq_of_lt (Nat.lt_of_lt_of_le h (Nat.pow_le_pow_right (n := 2) (by decide) (by omega : 64 ≤ n)))
    rw [e1, e2]

theorem wrap_shl_min (a n : Nat) : IntKind.u64.wrap ((a : Int) * 2 ^ min n 64) = ((a * 2 ^ n % 18446744073709551616 : Nat) : Int) := by
  rw [wrap_shl]
  by_cases hn : n ≤ 64
  · rw [Nat.min_eq_left hn]
  · rw [Nat.min_eq_right (by omega)]
    have e : 2 ^ n = 2 ^ 64 * 2 ^ (n - 64) := by rw [← Nat.pow_add]; congr 1; omega
    rw [e, ← Nat.mul_assoc, Nat.mul_comm a, pow64, Nat.mul_assoc]; simp
theorem or_disj (i x y : Nat) (hx : x % 2 ^ i = 0) (hy : y < 2 ^ i) : x ||| y = x + y := nat_join i x y hx hy

theorem pow128 : (340282366920938463463374607431768211456 : Nat) = 2 ^ 128 := by decide

/-- A shift to the left of less than a word, word by word. -/
theorem Yq.left_low (h l n : Nat) (hn : n < 64) (hh : h < 18446744073709551616) (hl : l < 18446744073709551616) :
    IsW ((h * 2 ^ n % 18446744073709551616) ||| (l / 2 ^ (64 - n))) (l * 2 ^ n % 18446744073709551616) (shl (h * 18446744073709551616 + l) n) := by
  unfold shl
  have hp : (2 : Nat) ^ 64 = 2 ^ n * 2 ^ (64 - n) := by rw [← Nat.pow_add]; congr 1; omega
  have hpn : 0 < 2 ^ n := Nat.two_pow_pos n
  have hq : 0 < 2 ^ (64 - n) := Nat.two_pow_pos _
  have hlq : l / 2 ^ (64 - n) < 2 ^ n := by
    rw [Nat.div_lt_iff_lt_mul hq, ← hp, ← pow64]; exact hl
  have hhm : h * 2 ^ n % 18446744073709551616 % 2 ^ n = 0 := by
    rw [pow64, hp, Nat.mul_comm h, Nat.mul_mod_mul_left]; simp
  rw [or_disj n _ _ hhm hlq]
  have e1 : h * 2 ^ n % 18446744073709551616 = 2 ^ n * (h % 2 ^ (64 - n)) := by rw [pow64, hp, Nat.mul_comm h, Nat.mul_mod_mul_left]
  have e2 : l * 2 ^ n % 18446744073709551616 = 2 ^ n * (l % 2 ^ (64 - n)) := by rw [pow64, hp, Nat.mul_comm l, Nat.mul_mod_mul_left]
  have e3 := Nat.div_add_mod l (2 ^ (64 - n))
  have e4 := Nat.div_add_mod h (2 ^ (64 - n))
  have hm : h % 2 ^ (64 - n) < 2 ^ (64 - n) := Nat.mod_lt _ hq
  have lm : l % 2 ^ (64 - n) < 2 ^ (64 - n) := Nat.mod_lt _ hq
  rw [e1, e2]
  generalize h % 2 ^ (64 - n) = hr at *
  generalize h / 2 ^ (64 - n) = hd at *
  generalize l % 2 ^ (64 - n) = lr at *
  generalize l / 2 ^ (64 - n) = ld at *
  generalize 2 ^ (64 - n) = q at *
  have p64 : (18446744073709551616 : Nat) = 2 ^ n * q := by rw [← hp]
  generalize 2 ^ n = p at *
  refine ⟨?_, ?_, ?_⟩
  · rw [p64]
    have : p * (hr + 1) ≤ p * q := Nat.mul_le_mul_left p hm
    rw [Nat.mul_add] at this; omega
  · rw [p64]; exact Nat.mul_lt_mul_of_pos_left lm hpn
  · have hpq : (2 : Nat) ^ 128 = (p * q) * (p * q) := by rw [← p64]
    rw [hpq, p64, ← e3, ← e4]
    have : (( (q * hd + hr) * (p * q) + (q * ld + lr)) * p) = (p * q) * (p * q) * hd + ((p * hr + ld) * (p * q) + p * lr) := by
      simp only [Nat.add_mul, Nat.mul_add]; ac_rfl
    rw [this, Nat.mul_add_mod, Nat.mod_eq_of_lt]
    have a1 : p * hr + ld + 1 ≤ p * q := by
      have : p * (hr + 1) ≤ p * q := Nat.mul_le_mul_left p hm
      rw [Nat.mul_add] at this; omega
    have a2 : p * lr < p * q := Nat.mul_lt_mul_of_pos_left lm hpn
    have a3 := Nat.mul_le_mul_right (p * q) a1
    rw [Nat.add_mul] at a3; omega

theorem Yq.left_high (h l n : Nat) (hn : 64 ≤ n) (hh : h < 18446744073709551616) (hl : l < 18446744073709551616) :
    IsW (l * 2 ^ (n - 64) % 18446744073709551616) 0 (shl (h * 18446744073709551616 + l) n) := by
  unfold shl
  refine ⟨Nat.mod_lt _ (by decide), by decide, ?_⟩
  have e : (2 : Nat) ^ n = 18446744073709551616 * 2 ^ (n - 64) := by
    rw [show (18446744073709551616 : Nat) = 2 ^ 64 by decide, ← Nat.pow_add]; congr 1; omega
  rw [e]
  generalize 2 ^ (n - 64) = p
  have : (h * 18446744073709551616 + l) * (18446744073709551616 * p) = 2 ^ 128 * (h * p) + 18446744073709551616 * (l * p) := by
    rw [show (2 : Nat) ^ 128 = 18446744073709551616 * 18446744073709551616 by decide]
    simp only [Nat.add_mul, Nat.mul_add]; ac_rfl
  rw [this, Nat.mul_add_mod, show (2 : Nat) ^ 128 = 18446744073709551616 * 18446744073709551616 by decide, Nat.mul_mod_mul_left]
  omega

theorem Yq.right_low (h l n : Nat) (hn : n < 64) (hh : h < 18446744073709551616) (hl : l < 18446744073709551616) :
    IsW (h / 2 ^ n) ((l / 2 ^ n) ||| (h * 2 ^ (64 - n) % 18446744073709551616)) ((h * 18446744073709551616 + l) / 2 ^ n) := by
  have hp : (2 : Nat) ^ 64 = 2 ^ n * 2 ^ (64 - n) := by rw [← Nat.pow_add]; congr 1; omega
  have hpn : 0 < 2 ^ n := Nat.two_pow_pos n
  have hq : 0 < 2 ^ (64 - n) := Nat.two_pow_pos _
  have hlq : l / 2 ^ n < 2 ^ (64 - n) := by
    rw [Nat.div_lt_iff_lt_mul hpn, Nat.mul_comm, ← hp, ← pow64]; exact hl
  have e1 : h * 2 ^ (64 - n) % 18446744073709551616 = 2 ^ (64 - n) * (h % 2 ^ n) := by rw [pow64, hp, Nat.mul_comm h, Nat.mul_comm (2 ^ n), Nat.mul_mod_mul_left]
  have hhm : h * 2 ^ (64 - n) % 18446744073709551616 % 2 ^ (64 - n) = 0 := by rw [e1]; simp
  rw [Nat.or_comm, or_disj (64 - n) _ _ hhm hlq, e1]
  have e3 := Nat.div_add_mod l (2 ^ n)
  have e4 := Nat.div_add_mod h (2 ^ n)
  have hm : h % 2 ^ n < 2 ^ n := Nat.mod_lt _ hpn
  have lm : l % 2 ^ n < 2 ^ n := Nat.mod_lt _ hpn
  have hle := Nat.div_le_self h (2 ^ n)
  generalize h % 2 ^ n = hr at *
  generalize h / 2 ^ n = hd at *
  generalize l % 2 ^ n = lr at *
  generalize l / 2 ^ n = ld at *
  generalize 2 ^ (64 - n) = q at *
  have p64 : (18446744073709551616 : Nat) = 2 ^ n * q := by rw [← hp]
  generalize 2 ^ n = p at *
  refine ⟨by omega, ?_, ?_⟩
  · rw [p64]
    have : q * (hr + 1) ≤ q * p := Nat.mul_le_mul_left q hm
    rw [Nat.mul_add, Nat.mul_comm q p] at this; omega
  · rw [← e3, ← e4, p64]
    have : ((p * hd + hr) * (p * q) + (p * ld + lr)) = p * (hd * (p * q) + (q * hr + ld)) + lr := by
      simp only [Nat.add_mul, Nat.mul_add]; ac_rfl
    rw [this, Nat.mul_add_div hpn, Nat.div_eq_of_lt lm]
    omega

theorem Yq.right_high (h l n : Nat) (hn : 64 ≤ n) (hh : h < 18446744073709551616) (hl : l < 18446744073709551616) :
    IsW 0 (h / 2 ^ (n - 64)) ((h * 18446744073709551616 + l) / 2 ^ n) := by
  have e : (2 : Nat) ^ n = 18446744073709551616 * 2 ^ (n - 64) := by
    rw [show (18446744073709551616 : Nat) = 2 ^ 64 by decide, ← Nat.pow_add]; congr 1; omega
  refine ⟨by decide, Nat.lt_of_le_of_lt (Nat.div_le_self _ _) hh, ?_⟩
  rw [e, ← Nat.div_div_eq_div_mul, Nat.mul_comm h, Nat.mul_add_div (by decide), Nat.div_eq_of_lt hl, Nat.add_zero]
  omega

theorem IsW.left_low {h l x n : Nat} (H : IsW h l x) (hn : n < 64) : IsW ((h * 2 ^ n % 18446744073709551616) ||| (l / 2 ^ (64 - n))) (l * 2 ^ n % 18446744073709551616) (shl x n) := by
  obtain ⟨a, b, rfl⟩ := H; exact Yq.left_low h l n hn a b
theorem IsW.left_high {h l x n : Nat} (H : IsW h l x) (hn : 64 ≤ n) : IsW (l * 2 ^ (n - 64) % 18446744073709551616) 0 (shl x n) := by
  obtain ⟨a, b, rfl⟩ := H; exact Yq.left_high h l n hn a b
theorem IsW.right_low {h l x n : Nat} (H : IsW h l x) (hn : n < 64) : IsW (h / 2 ^ n) ((l / 2 ^ n) ||| (h * 2 ^ (64 - n) % 18446744073709551616)) (x / 2 ^ n) := by
  obtain ⟨a, b, rfl⟩ := H; exact Yq.right_low h l n hn a b
theorem IsW.right_high {h l x n : Nat} (H : IsW h l x) (hn : 64 ≤ n) : IsW 0 (h / 2 ^ (n - 64)) (x / 2 ^ n) := by
  obtain ⟨a, b, rfl⟩ := H; exact Yq.right_high h l n hn a b

/-- How many bits a number has. -/
def blen (n : Nat) : Nat := if n = 0 then 0 else n.log2 + 1

theorem blen_of (n k : Nat) (h0 : n ≠ 0) (h1 : 2 ^ k ≤ n) (h2 : n < 2 ^ (k + 1)) : blen n = k + 1 := by
  unfold blen; rw [if_neg h0, (Nat.log2_eq_iff h0).2 ⟨h1, h2⟩]
theorem blen_bounds (n : Nat) (h0 : n ≠ 0) : 1 ≤ blen n ∧ 2 ^ (blen n - 1) ≤ n ∧ n < 2 ^ blen n := by
  unfold blen; rw [if_neg h0]
  exact ⟨by omega, by rw [Nat.add_sub_cancel]; exact Nat.log2_self_le h0, Nat.lt_log2_self⟩
theorem blen_le (n k : Nat) (h : n < 2 ^ k) : blen n ≤ k := by
  by_cases h0 : n = 0
  · subst h0; simp [blen]
  · obtain ⟨_, a, _⟩ := blen_bounds n h0
    apply Nat.le_of_not_lt; intro hk
    exact Nat.lt_irrefl _ (Nat.lt_of_lt_of_le h (Nat.le_trans (Nat.pow_le_pow_right (by decide) (by omega)) a))
theorem bitLen_eq (n : Nat) (h : n < 18446744073709551616) : Lib.bitLen n = blen n := by
  by_cases h0 : n = 0
  · subst h0; decide
  · obtain ⟨a, b, c⟩ := Lib.bitLenAux_bounds 64 n (by rw [← pow64]; exact h) h0
    unfold Lib.bitLen
    generalize Lib.bitLenAux 64 n = k at *
    obtain ⟨k, rfl⟩ : ∃ j, k = j + 1 := ⟨k - 1, by omega⟩
    exact (blen_of n k h0 b c).symm
theorem blen_wide {h l x : Nat} (H : IsW h l x) : blen x = if h = 0 then blen l else 64 + blen h := by
  obtain ⟨a, b, rfl⟩ := H
  by_cases h0 : h = 0
  · subst h0; simp
  · rw [if_neg h0]
    obtain ⟨c, d, e⟩ := blen_bounds h h0
    obtain ⟨k, hk⟩ : ∃ j, blen h = j + 1 := ⟨blen h - 1, by omega⟩
    rw [hk] at d e ⊢
    rw [Nat.add_sub_cancel] at d
    have := blen_of (h * 18446744073709551616 + l) (64 + k) (by omega)
      (by rw [Nat.pow_add, Nat.mul_comm]; show 2 ^ k * 2 ^ 64 ≤ _; rw [← pow64]; omega)
      (by rw [Nat.add_assoc, Nat.pow_add, ← pow64]; omega)
    rw [this]; omega

theorem IsW.lt {h l x h' l' x' : Nat} (H : IsW h l x) (H' : IsW h' l' x') : x < x' ↔ (h < h' ∨ h = h' ∧ l < l') := by
  obtain ⟨a, b, rfl⟩ := H; obtain ⟨c, d, rfl⟩ := H'; omega
theorem IsW.eq {h l x h' l' x' : Nat} (H : IsW h l x) (H' : IsW h' l' x') : x = x' ↔ (h = h' ∧ l = l') := by
  obtain ⟨a, b, rfl⟩ := H; obtain ⟨c, d, rfl⟩ := H'; omega
theorem IsW.lt128 {h l x : Nat} (H : IsW h l x) : x < 2 ^ 128 := by
  obtain ⟨a, b, rfl⟩ := H; omega
theorem IsW.sticky {h l x : Nat} (H : IsW h l x) : IsW h (l / 2 * 2 + 1) (x / 2 * 2 + 1) := by
  obtain ⟨a, b, rfl⟩ := H; exact ⟨a, by omega, by omega⟩
theorem or_one (l : Nat) (h : l < 18446744073709551616) : bits .or .u64 (l : Int) 1 = ((l / 2 * 2 + 1 : Nat) : Int) := by
  rw [show (1 : Int) = ((1 : Nat) : Int) from rfl, bits_or_u64_nat _ _ h (by decide)]
  congr 1
  have e : l = l / 2 * 2 + l % 2 := by omega
  have : l ||| 1 = (l / 2 * 2) ||| (l % 2 ||| 1) := by
    rw [← Nat.or_assoc]; congr 1
    rw [or_disj 1 (l / 2 * 2) (l % 2) (by omega) (by omega)]; exact e
  rw [this]
  have h2 : l % 2 ||| 1 = 1 := by
    have : l % 2 = 0 ∨ l % 2 = 1 := by omega
    rcases this with h | h <;> rw [h] <;> decide
  rw [h2, or_disj 1 _ _ (by omega) (by omega)]

theorem and1 (k : Nat) (h : k < 18446744073709551616) : bits .and .u64 (k : Int) 1 = ((k % 2 : Nat) : Int) := by
  rw [show (1 : Int) = ((1 : Nat) : Int) from rfl, u64_and_nat _ _ h (by decide), nat_mask1]
theorem and1' (k : Nat) (h : k < 18446744073709551616) : (bits .and .u64 (k : Int) 1 != 0) = decide (k % 2 = 1) := by
  rw [and1 k h, Bool.eq_iff_iff]; simp only [bne_iff_ne, ne_eq, decide_eq_true_eq]; omega

theorem IsW.plus {h l x h' l' x' : Nat} (H : IsW h l x) (H' : IsW h' l' x') (hs : x + x' < 2 ^ 128) :
    IsW ((h + h' + (l + l' + 0) / 18446744073709551616) % 18446744073709551616) ((l + l' + 0) % 18446744073709551616) (x + x') := by
  obtain ⟨a, b, rfl⟩ := H; obtain ⟨c, d, rfl⟩ := H'
  refine ⟨by omega, by omega, ?_⟩; omega
theorem IsW.minus {h l x h' l' x' : Nat} (H : IsW h l x) (H' : IsW h' l' x') (hs : x' ≤ x) :
    IsW ((h + 18446744073709551616 - h' - (if l < l' + 0 then 1 else 0)) % 18446744073709551616) ((l + 18446744073709551616 - l' - 0) % 18446744073709551616) (x - x') := by
  obtain ⟨a, b, rfl⟩ := H; obtain ⟨c, d, rfl⟩ := H'
  refine ⟨by omega, by omega, ?_⟩; split <;> omega
theorem IsW.times (a b : Nat) (ha : a < 18446744073709551616) (hb : b < 18446744073709551616) :
    IsW (a * b / 18446744073709551616) (a * b % 18446744073709551616) (a * b) := by
  refine ⟨?_, Nat.mod_lt _ (by decide), by omega⟩
  rw [Nat.div_lt_iff_lt_mul (by decide)]
  exact Nat.mul_lt_mul'' ha hb
end Go.Proofs.Yteinjalnkhfecaa
