/- Taken from other texts: what is needed of them besides. -/
import Derived.Test.YteinjalnkhfecaaQY
import Derived.WalkKit
import Derived.Laws.BitsAllLaws
import Derived.Laws.Bits64
import Derived.Laws.Bits64b
import Derived.Lib.ItoaNum
import Derived.ProofKit
import Derived.OpenShut
import Derived.WalkLawsBesides
import Derived.WalkSpells
import Derived.RegionTactic
import Derived.ChangeAlike
import Derived.Outline
import Derived.Laws.Externs
import Derived.Lib.Hide
import Derived.Shelf.Spec.BitsCarry
import Derived.Deep.RegionHeld3
import Derived.Laws.StructEq
import Derived.Deep.DeepCutAuto
import Derived.Deep.RegionWith
import Derived.Deep.CutBlock
import Derived.Deep.QuietTactic
import Derived.BigQuiet
import Derived.ChangeSame
import Derived.Laws.AppendOwn
import Derived.Laws.OwnMore
import Derived.Maps.AppendAt
import Derived.OwnWalk
import Derived.LoopN
import Derived.Lib.QuietBelow
import Derived.StillTailTactics
namespace Go.Proofs.Yteinjalnkhfecaa.Q
open Go.ChangeShapes Go.WideShapes Go.ChangeAt Go.RowKit
set_option linter.unusedVariables false
set_option linter.unusedSimpArgs false
def IsN (c : Int) (m : Bool) (x : Int) (h l : Nat) (N : Num) : Prop := c = N.cls ∧ m = N.minus ∧ x = N.exp ∧ IsW h l N.mag
def Fits (x : Nat) : Prop := x < 2 ^ 128
/-- How the floats of a size are laid out: bits of exponent, of fraction. -/
def Lay (d : Bool) (E F : Int) : Prop := (d = false ∧ E = 8 ∧ F = 23) ∨ (d = true ∧ E = 11 ∧ F = 52)
def quietB (d : Bool) : Nat := if d then 9221120237041090560 else 2143289344
theorem pow64 : (18446744073709551616 : Nat) = 2 ^ 64 := by decide
theorem div_shr_min (a n : Nat) (h : a < 18446744073709551616) : (a : Int) / 2 ^ min n 64 = ((a / 2 ^ n : Nat) : Int) := by
  by_cases hn : n ≤ 64
  · rw [Nat.min_eq_left hn]; simp
  · rw [Nat.min_eq_right (by omega), div_shr]
    have e1 : a / 2 ^ 64 = 0 := Nat.div_eq_of_lt h
    have e2 : a / 2 ^ n = 0 := Nat.div_eq_of_lt (Nat.lt_of_lt_of_le h (Nat.pow_le_pow_right (n := 2) (by decide) (by omega : 64 ≤ n)))
    rw [e1, e2]
theorem wrap_shl_min (a n : Nat) : IntKind.u64.wrap ((a : Int) * 2 ^ min n 64) = ((a * 2 ^ n % 18446744073709551616 : Nat) : Int) := by
  rw [wrap_shl]
  by_cases hn : n ≤ 64
  · rw [Nat.min_eq_left hn]
  · rw [Nat.min_eq_right (by omega)]
    have e : 2 ^ n = 2 ^ 64 * 2 ^ (n - 64) := by rw [← Nat.pow_add]; congr 1; omega
    rw [e, ← Nat.mul_assoc, Nat.mul_comm a, pow64, Nat.mul_assoc]; simp
/-- A shift to the left of less than a word, word by word. -/
theorem Yq.left_low (h l n : Nat) (hn : n < 64) (hh : h < 18446744073709551616) (hl : l < 18446744073709551616) :
    IsW ((h * 2 ^ n % 18446744073709551616) ||| (l / 2 ^ (64 - n))) (l * 2 ^ n % 18446744073709551616) (shl (h * 18446744073709551616 + l) n) := by
  unfold shl
  have hp : (2 : Nat) ^ 64 = 2 ^ n * 2 ^ (64 - n) := by rw [← Nat.pow_add]; congr 1; omega
  have hpn : 0 < 2 ^ n := Nat.two_pow_pos n
  have hq : 0 < 2 ^ (64 - n) := Nat.two_pow_pos _
  have hlq : l / 2 ^ (64 - n) < 2 ^ n := by
    rw [Nat.div_lt_iff_lt_mul hq, ← hp, ← pow64]; exact hl
  have hhm : h * 2 ^ n % 18446744073709551616 % 2 ^ n = 0 := by
    rw [pow64, hp, Nat.mul_comm h, Nat.mul_mod_mul_left]; simp
  rw [or_disj n _ _ hhm hlq]
  have e1 : h * 2 ^ n % 18446744073709551616 = 2 ^ n * (h % 2 ^ (64 - n)) := by rw [pow64, hp, Nat.mul_comm h, Nat.mul_mod_mul_left]
  have e2 : l * 2 ^ n % 18446744073709551616 = 2 ^ n * (l % 2 ^ (64 - n)) := by rw [pow64, hp, Nat.mul_comm l, Nat.mul_mod_mul_left]
  have e3 := Nat.div_add_mod l (2 ^ (64 - n))
  have e4 := Nat.div_add_mod h (2 ^ (64 - n))
  have hm : h % 2 ^ (64 - n) < 2 ^ (64 - n) := Nat.mod_lt _ hq
  have lm : l % 2 ^ (64 - n) < 2 ^ (64 - n) := Nat.mod_lt _ hq
  rw [e1, e2]
  generalize h % 2 ^ (64 - n) = hr at *
  generalize h / 2 ^ (64 - n) = hd at *
  generalize l % 2 ^ (64 - n) = lr at *
  generalize l / 2 ^ (64 - n) = ld at *
  generalize 2 ^ (64 - n) = q at *
  have p64 : (18446744073709551616 : Nat) = 2 ^ n * q := by rw [← hp]
  generalize 2 ^ n = p at *
  refine ⟨?_, ?_, ?_⟩
  · rw [p64]
    have : p * (hr + 1) ≤ p * q := Nat.mul_le_mul_left p hm
    rw [Nat.mul_add] at this; omega
  · rw [p64]; exact Nat.mul_lt_mul_of_pos_left lm hpn
  · have hpq : (2 : Nat) ^ 128 = (p * q) * (p * q) := by rw [← p64]
    rw [hpq, p64, ← e3, ← e4]
    have : (( (q * hd + hr) * (p * q) + (q * ld + lr)) * p) = (p * q) * (p * q) * hd + ((p * hr + ld) * (p * q) + p * lr) := by
      simp only [Nat.add_mul, Nat.mul_add]; ac_rfl
    rw [this, Nat.mul_add_mod, Nat.mod_eq_of_lt]
    have a1 : p * hr + ld + 1 ≤ p * q := by
      have : p * (hr + 1) ≤ p * q := Nat.mul_le_mul_left p hm
      rw [Nat.mul_add] at this; omega
    have a2 : p * lr < p * q := Nat.mul_lt_mul_of_pos_left lm hpn
    have a3 := Nat.mul_le_mul_right (p * q) a1
    rw [Nat.add_mul] at a3; omega
theorem Yq.left_high (h l n : Nat) (hn : 64 ≤ n) (hh : h < 18446744073709551616) (hl : l < 18446744073709551616) :
    IsW (l * 2 ^ (n - 64) % 18446744073709551616) 0 (shl (h * 18446744073709551616 + l) n) := by
  unfold shl
  refine ⟨Nat.mod_lt _ (by decide), by decide, ?_⟩
  have e : (2 : Nat) ^ n = 18446744073709551616 * 2 ^ (n - 64) := by
    rw [show (18446744073709551616 : Nat) = 2 ^ 64 by decide, ← Nat.pow_add]; congr 1; omega
  rw [e]
  generalize 2 ^ (n - 64) = p
  have : (h * 18446744073709551616 + l) * (18446744073709551616 * p) = 2 ^ 128 * (h * p) + 18446744073709551616 * (l * p) := by
    rw [show (2 : Nat) ^ 128 = 18446744073709551616 * 18446744073709551616 by decide]
    simp only [Nat.add_mul, Nat.mul_add]; ac_rfl
  rw [this, Nat.mul_add_mod, show (2 : Nat) ^ 128 = 18446744073709551616 * 18446744073709551616 by decide, Nat.mul_mod_mul_left]
  omega
theorem Yq.right_low (h l n : Nat) (hn : n < 64) (hh : h < 18446744073709551616) (hl : l < 18446744073709551616) :
    IsW (h / 2 ^ n) ((l / 2 ^ n) ||| (h * 2 ^ (64 - n) % 18446744073709551616)) ((h * 18446744073709551616 + l) / 2 ^ n) := by
  have hp : (2 : Nat) ^ 64 = 2 ^ n * 2 ^ (64 - n) := by rw [← Nat.pow_add]; congr 1; omega
  have hpn : 0 < 2 ^ n := Nat.two_pow_pos n
  have hq : 0 < 2 ^ (64 - n) := Nat.two_pow_pos _
  have hlq : l / 2 ^ n < 2 ^ (64 - n) := by
    rw [Nat.div_lt_iff_lt_mul hpn, Nat.mul_comm, ← hp, ← pow64]; exact hl
  have e1 : h * 2 ^ (64 - n) % 18446744073709551616 = 2 ^ (64 - n) * (h % 2 ^ n) := by rw [pow64, hp, Nat.mul_comm h, Nat.mul_comm (2 ^ n), Nat.mul_mod_mul_left]
  have hhm : h * 2 ^ (64 - n) % 18446744073709551616 % 2 ^ (64 - n) = 0 := by rw [e1]; simp
  rw [Nat.or_comm, or_disj (64 - n) _ _ hhm hlq, e1]
  have e3 := Nat.div_add_mod l (2 ^ n)
  have e4 := Nat.div_add_mod h (2 ^ n)
  have hm : h % 2 ^ n < 2 ^ n := Nat.mod_lt _ hpn
  have lm : l % 2 ^ n < 2 ^ n := Nat.mod_lt _ hpn
  have hle := Nat.div_le_self h (2 ^ n)
  generalize h % 2 ^ n = hr at *
  generalize h / 2 ^ n = hd at *
  generalize l % 2 ^ n = lr at *
  generalize l / 2 ^ n = ld at *
  generalize 2 ^ (64 - n) = q at *
  have p64 : (18446744073709551616 : Nat) = 2 ^ n * q := by rw [← hp]
  generalize 2 ^ n = p at *
  refine ⟨by omega, ?_, ?_⟩
  · rw [p64]
    have : q * (hr + 1) ≤ q * p := Nat.mul_le_mul_left q hm
    rw [Nat.mul_add, Nat.mul_comm q p] at this; omega
  · rw [← e3, ← e4, p64]
    have : ((p * hd + hr) * (p * q) + (p * ld + lr)) = p * (hd * (p * q) + (q * hr + ld)) + lr := by
      simp only [Nat.add_mul, Nat.mul_add]; ac_rfl
    rw [this, Nat.mul_add_div hpn, Nat.div_eq_of_lt lm]
    omega
theorem Yq.right_high (h l n : Nat) (hn : 64 ≤ n) (hh : h < 18446744073709551616) (hl : l < 18446744073709551616) :
    IsW 0 (h / 2 ^ (n - 64)) ((h * 18446744073709551616 + l) / 2 ^ n) := by
  have e : (2 : Nat) ^ n = 18446744073709551616 * 2 ^ (n - 64) := by
    rw [show (18446744073709551616 : Nat) = 2 ^ 64 by decide, ← Nat.pow_add]; congr 1; omega
  refine ⟨by decide, Nat.lt_of_le_of_lt (Nat.div_le_self _ _) hh, ?_⟩
  rw [e, ← Nat.div_div_eq_div_mul, Nat.mul_comm h, Nat.mul_add_div (by decide), Nat.div_eq_of_lt hl, Nat.add_zero]
  omega
theorem IsW.left_low {h l x n : Nat} (H : IsW h l x) (hn : n < 64) : IsW ((h * 2 ^ n % 18446744073709551616) ||| (l / 2 ^ (64 - n))) (l * 2 ^ n % 18446744073709551616) (shl x n) := by
  obtain ⟨a, b, rfl⟩ := H; exact Yq.left_low h l n hn a b
theorem IsW.left_high {h l x n : Nat} (H : IsW h l x) (hn : 64 ≤ n) : IsW (l * 2 ^ (n - 64) % 18446744073709551616) 0 (shl x n) := by
  obtain ⟨a, b, rfl⟩ := H; exact Yq.left_high h l n hn a b
theorem IsW.right_low {h l x n : Nat} (H : IsW h l x) (hn : n < 64) : IsW (h / 2 ^ n) ((l / 2 ^ n) ||| (h * 2 ^ (64 - n) % 18446744073709551616)) (x / 2 ^ n) := by
  obtain ⟨a, b, rfl⟩ := H; exact Yq.right_low h l n hn a b
theorem IsW.right_high {h l x n : Nat} (H : IsW h l x) (hn : 64 ≤ n) : IsW 0 (h / 2 ^ (n - 64)) (x / 2 ^ n) := by
  obtain ⟨a, b, rfl⟩ := H; exact Yq.right_high h l n hn a b
theorem bitLen_eq (n : Nat) (h : n < 18446744073709551616) : Lib.bitLen n = blen n := by
  by_cases h0 : n = 0
  · subst h0; decide
  · obtain ⟨a, b, c⟩ := Lib.bitLenAux_bounds 64 n (by rw [← pow64]; exact h) h0
    unfold Lib.bitLen
    generalize Lib.bitLenAux 64 n = k at *
    obtain ⟨k, rfl⟩ : ∃ j, k = j + 1 := ⟨k - 1, by omega⟩
    exact (blen_of n k h0 b c).symm
theorem blen_wide {h l x : Nat} (H : IsW h l x) : blen x = if h = 0 then blen l else 64 + blen h := by
  obtain ⟨a, b, rfl⟩ := H
  by_cases h0 : h = 0
  · subst h0; simp
  · rw [if_neg h0]
    obtain ⟨c, d, e⟩ := blen_bounds h h0
    obtain ⟨k, hk⟩ : ∃ j, blen h = j + 1 := ⟨blen h - 1, by omega⟩
    rw [hk] at d e ⊢
    rw [Nat.add_sub_cancel] at d
    have := blen_of (h * 18446744073709551616 + l) (64 + k) (by omega)
      (by rw [Nat.pow_add, Nat.mul_comm]; show 2 ^ k * 2 ^ 64 ≤ _; rw [← pow64]; omega)
      (by rw [Nat.add_assoc, Nat.pow_add, ← pow64]; omega)
    rw [this]; omega
theorem IsW.eq {h l x h' l' x' : Nat} (H : IsW h l x) (H' : IsW h' l' x') : x = x' ↔ (h = h' ∧ l = l') := by
  obtain ⟨a, b, rfl⟩ := H; obtain ⟨c, d, rfl⟩ := H'; omega
theorem IsW.lt128 {h l x : Nat} (H : IsW h l x) : x < 2 ^ 128 := by
  obtain ⟨a, b, rfl⟩ := H; omega
theorem IsW.sticky {h l x : Nat} (H : IsW h l x) : IsW h (l / 2 * 2 + 1) (x / 2 * 2 + 1) := by
  obtain ⟨a, b, rfl⟩ := H; exact ⟨a, by omega, by omega⟩
theorem or_one (l : Nat) (h : l < 18446744073709551616) : bits .or .u64 (l : Int) 1 = ((l / 2 * 2 + 1 : Nat) : Int) := by
  rw [show (1 : Int) = ((1 : Nat) : Int) from rfl, bits_or_u64_nat _ _ h (by decide)]
  congr 1
  have e : l = l / 2 * 2 + l % 2 := by omega
  have : l ||| 1 = (l / 2 * 2) ||| (l % 2 ||| 1) := by
    rw [← Nat.or_assoc]; congr 1
    rw [or_disj 1 (l / 2 * 2) (l % 2) (by omega) (by omega)]; exact e
  rw [this]
  have h2 : l % 2 ||| 1 = 1 := by
    have : l % 2 = 0 ∨ l % 2 = 1 := by omega
    rcases this with h | h <;> rw [h] <;> decide
  rw [h2, or_disj 1 _ _ (by omega) (by omega)]
theorem and1 (k : Nat) (h : k < 18446744073709551616) : bits .and .u64 (k : Int) 1 = ((k % 2 : Nat) : Int) := by
  rw [show (1 : Int) = ((1 : Nat) : Int) from rfl, u64_and_nat _ _ h (by decide), nat_mask1]
theorem and1' (k : Nat) (h : k < 18446744073709551616) : (bits .and .u64 (k : Int) 1 != 0) = decide (k % 2 = 1) := by
  rw [and1 k h, Bool.eq_iff_iff]; simp only [bne_iff_ne, ne_eq, decide_eq_true_eq]; omega
theorem IsW.plus {h l x h' l' x' : Nat} (H : IsW h l x) (H' : IsW h' l' x') (hs : x + x' < 2 ^ 128) :
    IsW ((h + h' + (l + l' + 0) / 18446744073709551616) % 18446744073709551616) ((l + l' + 0) % 18446744073709551616) (x + x') := by
  obtain ⟨a, b, rfl⟩ := H; obtain ⟨c, d, rfl⟩ := H'
  refine ⟨by omega, by omega, ?_⟩; omega
theorem IsW.times (a b : Nat) (ha : a < 18446744073709551616) (hb : b < 18446744073709551616) :
    IsW (a * b / 18446744073709551616) (a * b % 18446744073709551616) (a * b) := by
  refine ⟨?_, Nat.mod_lt _ (by decide), by omega⟩
  rw [Nat.div_lt_iff_lt_mul (by decide)]
  exact Nat.mul_lt_mul'' ha hb
def RetW (x : Nat) (W : World) (e : Ending) (w' : World) : Prop := ∃ h l : Nat, e = .returned (.agg #[.int .u64 h, .int .u64 l]) ∧ Hid (IsW h l x) ∧ Below W.heap.size W w'
def RetN (N : Num) (W : World) (e : Ending) (w' : World) : Prop := ∃ (c : Int) (m : Bool) (x : Int) (h l : Nat), e = .returned (.agg #[.int .i64 c, .bool m, .int .i64 x, .int .u64 h, .int .u64 l]) ∧ Hid (IsN c m x h l N) ∧ Below W.heap.size W w'
def RetI (n : Int) (W : World) (e : Ending) (w' : World) : Prop := e = .returned (.int .i64 n) ∧ Below W.heap.size W w'
theorem retW_mk {h l x : Nat} {a b : Int} {W w' : World} (hI : IsW h l x) (ha : a = h) (hl : b = l) (hb : Below W.heap.size W w') : RetW x W (.returned (.agg #[.int .u64 a, .int .u64 b])) w' :=
  ⟨h, l, by rw [ha, hl], hI, hb⟩
theorem retN_mk {h l : Nat} {N : Num} {c : Int} {m : Bool} {x : Int} {a b : Int} {W w' : World} (hI : IsN c m x h l N) (ha : a = h) (hl : b = l) (hb : Below W.heap.size W w') : RetN N W (.returned (.agg #[.int .i64 c, .bool m, .int .i64 x, .int .u64 a, .int .u64 b])) w' :=
  ⟨c, m, x, h, l, by rw [ha, hl], hI, hb⟩
theorem retI_mk {a b : Int} {W w' : World} (h : a = b) (hb : Below W.heap.size W w') : RetI b W (.returned (.int .i64 a)) w' := ⟨by rw [h], hb⟩
theorem left_c (h l x : Nat) (n : Int) (hx : Hid (IsW h l x)) (h0 : 0 ≤ n) (h1 : n < 65536) (w : World) :
    Calls Try.prog 123 #[.agg #[.int .u64 h, .int .u64 l], .int .i64 n] w (RetW (shl x n.toNat) w) := by
  obtain ⟨n, rfl⟩ := Int.eq_ofNat_of_zero_le h0
  have hn : n < 65536 := by omega
  clear h0 h1
  rw [Int.toNat_natCast]
  go_enter Try.func123, Try.ntmps123
  go_wp2
  · exact bodyPost_ret (v := .agg #[_, _]) (by simp [results, Try.results123, go_sem] <;> (first | rfl | (repeat' (first | rfl | apply And.intro)))) rfl (retW_mk (hx.out.left_high (by omega)) (wrap_shl_min _ _) rfl (by repeat (first | (with_reducible first | exact Below.refl _ _ | assumption | exact Nat.le_refl _ | refine Below.drew ?_ | refine Below.alloc ?_ ?_ _ | refine Below.setCell ?_ ?_ _ | refine le_alloc ?_ | refine le_set ?_ | refine le_drew ?_ | refine below_step (by assumption) ?_ ?_ | refine le_below (by assumption) ?_) | (dsimp only; omega))))
  · go_region
    go_wp2
    obtain ⟨hh, hl, -⟩ := hx.out
    exact bodyPost_ret (v := .agg #[_, _]) (by simp [results, Try.results123, go_sem] <;> (first | rfl | (repeat' (first | rfl | apply And.intro)))) rfl (retW_mk (hx.out.left_low (by omega)) (by rw [wrap_shl, div_shr, bits_or_u64_nat _ _ (Nat.mod_lt _ (by decide)) (Nat.lt_of_le_of_lt (Nat.div_le_self _ _) hl)]) (wrap_shl _ _) (by repeat (first | (with_reducible first | exact Below.refl _ _ | assumption | exact Nat.le_refl _ | refine Below.drew ?_ | refine Below.alloc ?_ ?_ _ | refine Below.setCell ?_ ?_ _ | refine le_alloc ?_ | refine le_set ?_ | refine le_drew ?_ | refine below_step (by assumption) ?_ ?_ | refine le_below (by assumption) ?_) | (dsimp only; omega))))
theorem right_c (h l x : Nat) (n : Int) (hx : Hid (IsW h l x)) (h0 : 0 ≤ n) (h1 : n < 65536) (w : World) :
    Calls Try.prog 124 #[.agg #[.int .u64 h, .int .u64 l], .int .i64 n] w (RetW (x / 2 ^ n.toNat) w) := by
  obtain ⟨n, rfl⟩ := Int.eq_ofNat_of_zero_le h0
  have hn : n < 65536 := by omega
  clear h0 h1
  rw [Int.toNat_natCast]
  go_enter Try.func124, Try.ntmps124
  go_wp2
  · exact bodyPost_ret (v := .agg #[_, _]) (by simp [results, Try.results124, go_sem] <;> (first | rfl | (repeat' (first | rfl | apply And.intro)))) rfl (retW_mk (hx.out.right_high (by omega)) rfl (div_shr_min _ _ hx.out.1) (by repeat (first | (with_reducible first | exact Below.refl _ _ | assumption | exact Nat.le_refl _ | refine Below.drew ?_ | refine Below.alloc ?_ ?_ _ | refine Below.setCell ?_ ?_ _ | refine le_alloc ?_ | refine le_set ?_ | refine le_drew ?_ | refine below_step (by assumption) ?_ ?_ | refine le_below (by assumption) ?_) | (dsimp only; omega))))
  · go_region
    go_wp2
    obtain ⟨hh, hl, -⟩ := hx.out
    exact bodyPost_ret (v := .agg #[_, _]) (by simp [results, Try.results124, go_sem] <;> (first | rfl | (repeat' (first | rfl | apply And.intro)))) rfl (retW_mk (hx.out.right_low (by omega)) (div_shr _ _) (by rw [wrap_shl, div_shr, bits_or_u64_nat _ _ (Nat.lt_of_le_of_lt (Nat.div_le_self _ _) hl) (Nat.mod_lt _ (by decide))]) (by repeat (first | (with_reducible first | exact Below.refl _ _ | assumption | exact Nat.le_refl _ | refine Below.drew ?_ | refine Below.alloc ?_ ?_ _ | refine Below.setCell ?_ ?_ _ | refine le_alloc ?_ | refine le_set ?_ | refine le_drew ?_ | refine below_step (by assumption) ?_ ?_ | refine le_below (by assumption) ?_) | (dsimp only; omega))))
theorem sticky_c (h l x : Nat) (b : Bool) (hx : Hid (IsW h l x)) (w : World) :
    Calls Try.prog 125 #[.agg #[.int .u64 h, .int .u64 l], .bool b] w (RetW (if b then x / 2 * 2 + 1 else x) w) := by
  cases b
  · go_enter Try.func125, Try.ntmps125
    go_wp2
    exact bodyPost_ret (v := .agg #[_, _]) (by simp [results, Try.results125, go_sem] <;> (first | rfl | (repeat' (first | rfl | apply And.intro)))) rfl (retW_mk hx.out rfl rfl (by repeat (first | (with_reducible first | exact Below.refl _ _ | assumption | exact Nat.le_refl _ | refine Below.drew ?_ | refine Below.alloc ?_ ?_ _ | refine Below.setCell ?_ ?_ _ | refine le_alloc ?_ | refine le_set ?_ | refine le_drew ?_ | refine below_step (by assumption) ?_ ?_ | refine le_below (by assumption) ?_) | (dsimp only; omega))))
  · go_enter Try.func125, Try.ntmps125
    go_wp2
    exact bodyPost_ret (v := .agg #[_, _]) (by simp [results, Try.results125, go_sem] <;> (first | rfl | (repeat' (first | rfl | apply And.intro)))) rfl (retW_mk hx.out.sticky rfl (or_one _ hx.out.2.1) (by repeat (first | (with_reducible first | exact Below.refl _ _ | assumption | exact Nat.le_refl _ | refine Below.drew ?_ | refine Below.alloc ?_ ?_ _ | refine Below.setCell ?_ ?_ _ | refine le_alloc ?_ | refine le_set ?_ | refine le_drew ?_ | refine below_step (by assumption) ?_ ?_ | refine le_below (by assumption) ?_) | (dsimp only; omega))))
theorem below_c (h l x h' l' x' : Nat) (hx : Hid (IsW h l x)) (hx' : Hid (IsW h' l' x')) (w : World) :
    Calls Try.prog 114 #[.agg #[.int .u64 h, .int .u64 l], .agg #[.int .u64 h', .int .u64 l']] w (RetB (decide (x < x')) w) := by
  go_enter Try.func114, Try.ntmps114
  go_wp2
  all_goals go_ret
  all_goals refine retB_mk ?_ (by repeat (first | (with_reducible first | exact Below.refl _ _ | assumption | exact Nat.le_refl _ | refine Below.drew ?_ | refine Below.alloc ?_ ?_ _ | refine Below.setCell ?_ ?_ _ | refine le_alloc ?_ | refine le_set ?_ | refine le_drew ?_ | refine below_step (by assumption) ?_ ?_ | refine le_below (by assumption) ?_) | (dsimp only; omega)))
  all_goals (rw [Bool.eq_iff_iff]; simp only [Bool.or_eq_true, decide_eq_true_eq, hx.out.lt hx'.out]; (try simp only [true_iff]); omega)
theorem bits_of (h : Nat) (hh : h < 18446744073709551616) : (64 : Int) - (Lib.bitLen (Int.toNat (h : Int)) : Int) = 64 - (blen h : Int) := by
  rw [Int.toNat_natCast, bitLen_eq h hh]
theorem leadingNoughts_c (h l x : Nat) (hx : Hid (IsW h l x)) (w : World) :
    Calls Try.prog 122 #[.agg #[.int .u64 h, .int .u64 l]] w (RetI (128 - (blen x : Int)) w) := by
  obtain ⟨hh, hl, -⟩ := hx.out
  have HH := Lib.hid hh; have HL := Lib.hid hl
  clear hh hl
  by_cases h0 : h = 0
  · have hb : ((h : Int) != 0) = false := by simp [h0]
    have e : 64 + (64 - (blen l : Int)) = 128 - (blen x : Int) := by rw [blen_wide hx.out, if_pos h0]; omega
    have E := Lib.hid e; clear e h0
    go_enter Try.func122, Try.ntmps122
    go_wp2_with fail
    refine (Try.bits_LeadingZeros64 _ _ (by omega) (by have := HL.out; omega)).mono ?_
    rintro e w' ⟨rfl, rfl⟩
    rw [bits_of _ HL.out]
    have b := blen_le l 64 (by rw [← pow64]; exact HL.out)
    have b' : (0 : Int) ≤ blen l := by omega
    go_wp2_with fail
    go_ret
    exact retI_mk E.out (by repeat (first | (with_reducible first | exact Below.refl _ _ | assumption | exact Nat.le_refl _ | refine Below.drew ?_ | refine Below.alloc ?_ ?_ _ | refine Below.setCell ?_ ?_ _ | refine le_alloc ?_ | refine le_set ?_ | refine le_drew ?_ | refine below_step (by assumption) ?_ ?_ | refine le_below (by assumption) ?_) | (dsimp only; omega)))
  · have hb : ((h : Int) != 0) = true := by simp [h0]
    have e : (64 - (blen h : Int)) = 128 - (blen x : Int) := by rw [blen_wide hx.out, if_neg h0]; omega
    have E := Lib.hid e; clear e h0
    go_enter Try.func122, Try.ntmps122
    go_wp2_with fail
    refine (Try.bits_LeadingZeros64 _ _ (by omega) (by have := HH.out; omega)).mono ?_
    rintro e w' ⟨rfl, rfl⟩
    rw [bits_of _ HH.out]
    go_wp2_with fail
    go_ret
    exact retI_mk E.out (by repeat (first | (with_reducible first | exact Below.refl _ _ | assumption | exact Nat.le_refl _ | refine Below.drew ?_ | refine Below.alloc ?_ ?_ _ | refine Below.setCell ?_ ?_ _ | refine le_alloc ?_ | refine le_set ?_ | refine le_drew ?_ | refine below_step (by assumption) ?_ ?_ | refine le_below (by assumption) ?_) | (dsimp only; omega)))
theorem multiply_c (a b : Nat) (ha : a < 18446744073709551616) (hb : b < 18446744073709551616) (w : World) :
    Calls Try.prog 107 #[.int .u64 a, .int .u64 b] w (RetW (a * b) w) := by
  have HA := Lib.hid ha; have HB := Lib.hid hb; clear ha hb
  go_enter Try.func107, Try.ntmps107
  go_wp2_with fail
  refine (Try.bits_Mul64 a b HA.out HB.out _).mono ?_
  rintro e w' ⟨rfl, rfl⟩
  go_wp2_with fail
  exact bodyPost_ret (v := .agg #[_, _]) (by simp [results, Try.results107, go_sem] <;> (first | rfl | (repeat' (first | rfl | apply And.intro)))) rfl (retW_mk (IsW.times a b HA.out HB.out) rfl rfl (by repeat (first | (with_reducible first | exact Below.refl _ _ | assumption | exact Nat.le_refl _ | refine Below.drew ?_ | refine Below.alloc ?_ ?_ _ | refine Below.setCell ?_ ?_ _ | refine le_alloc ?_ | refine le_set ?_ | refine le_drew ?_ | refine below_step (by assumption) ?_ ?_ | refine le_below (by assumption) ?_) | (dsimp only; omega))))
theorem go_add64 (x y c : Nat) (hc : c ≤ 1) (w : World) :
    (callFunc 126 #[.int .u64 x, .int .u64 y, .int .u64 c]).run Try.prog w =
      .ok (.value (.tuple #[.int .u64 (((x + y + c) % 18446744073709551616 : Nat) : Int), .int .u64 (((x + y + c) / 18446744073709551616 : Nat) : Int)])) w := by
  rw [run_callFunc_extern Try.func126 (by kernel_rfl) (by kernel_rfl) (by kernel_rfl) (e := add64Entry) (by kernel_rfl), Go.run_add64 x y c (by omega) (by omega) (by omega) (by omega)]
  simp only [Result.andThen]
  congr 5 <;> omega
theorem go_sub64 (x y b : Nat) (hb : b ≤ 1) (w : World) :
    (callFunc 127 #[.int .u64 x, .int .u64 y, .int .u64 b]).run Try.prog w =
      .ok (.value (.tuple #[.int .u64 (((x + 18446744073709551616 - y - b) % 18446744073709551616 : Nat) : Int), .int .u64 ((if x < y + b then 1 else 0 : Nat) : Int)])) w := by
  rw [run_callFunc_extern Try.func127 (by kernel_rfl) (by kernel_rfl) (by kernel_rfl) (e := sub64Entry) (by kernel_rfl), Go.Proofs.run_sub64 x y b hb]
  rfl
def addS (x y c : Nat) : Nat := (x + y + c) % 18446744073709551616
def addC (x y c : Nat) : Nat := (x + y + c) / 18446744073709551616
def subS (x y c : Nat) : Nat := (x + 18446744073709551616 - y - c) % 18446744073709551616
def subC (x y c : Nat) : Nat := if x < y + c then 1 else 0
theorem add_0 (x y : Nat) (w : World) : (callFunc 126 #[.int .u64 x, .int .u64 y, .int .u64 0]).run Try.prog w =
      .ok (.value (.tuple #[.int .u64 (addS x y 0 : Nat), .int .u64 (addC x y 0 : Nat)])) w := go_add64 x y 0 (by decide) w
theorem add_1 (x y c : Nat) (hc : c ≤ 1) (w : World) : (callFunc 126 #[.int .u64 x, .int .u64 y, .int .u64 c]).run Try.prog w =
      .ok (.value (.tuple #[.int .u64 (addS x y c : Nat), .int .u64 (addC x y c : Nat)])) w := go_add64 x y c hc w
theorem sub_0 (x y : Nat) (w : World) : (callFunc 127 #[.int .u64 x, .int .u64 y, .int .u64 0]).run Try.prog w =
      .ok (.value (.tuple #[.int .u64 (subS x y 0 : Nat), .int .u64 (subC x y 0 : Nat)])) w := go_sub64 x y 0 (by decide) w
theorem sub_1 (x y c : Nat) (hc : c ≤ 1) (w : World) : (callFunc 127 #[.int .u64 x, .int .u64 y, .int .u64 c]).run Try.prog w =
      .ok (.value (.tuple #[.int .u64 (subS x y c : Nat), .int .u64 (subC x y c : Nat)])) w := go_sub64 x y c hc w
theorem subC_le (x y c : Nat) : subC x y c ≤ 1 := by unfold subC; split <;> decide
theorem plus_c (h l x h' l' x' : Nat) (hx : Hid (IsW h l x)) (hx' : Hid (IsW h' l' x')) (hs : Fits (x + x')) (w : World) :
    Calls Try.prog 116 #[.agg #[.int .u64 h, .int .u64 l], .agg #[.int .u64 h', .int .u64 l']] w (RetW (x + x') w) := by
  have H1 := fun w => add_0 l l' w
  have H2 := fun w => add_1 h h' (addC l l' 0) (by obtain ⟨-, a, -⟩ := hx.out; obtain ⟨-, b, -⟩ := hx'.out; unfold addC; omega) w
  go_enter Try.func116, Try.ntmps116
  go_wp2
  exact bodyPost_ret (v := .agg #[_, _]) (by simp [results, Try.results116, go_sem] <;> (first | rfl | (repeat' (first | rfl | apply And.intro)))) rfl (retW_mk (hx.out.plus hx'.out hs) rfl rfl (by repeat (first | (with_reducible first | exact Below.refl _ _ | assumption | exact Nat.le_refl _ | refine Below.drew ?_ | refine Below.alloc ?_ ?_ _ | refine Below.setCell ?_ ?_ _ | refine le_alloc ?_ | refine le_set ?_ | refine le_drew ?_ | refine below_step (by assumption) ?_ ?_ | refine le_below (by assumption) ?_) | (dsimp only; omega))))
theorem minus_c (h l x h' l' x' : Nat) (hx : Hid (IsW h l x)) (hx' : Hid (IsW h' l' x')) (hs : x' ≤ x) (w : World) :
    Calls Try.prog 117 #[.agg #[.int .u64 h, .int .u64 l], .agg #[.int .u64 h', .int .u64 l']] w (RetW (x - x') w) := by
  have H1 := fun w => sub_0 l l' w
  have H2 := fun w => sub_1 h h' (subC l l' 0) (subC_le _ _ _) w
  have HS := Lib.hid hs; clear hs
  go_enter Try.func117, Try.ntmps117
  go_wp2
  exact bodyPost_ret (v := .agg #[_, _]) (by simp [results, Try.results117, go_sem] <;> (first | rfl | (repeat' (first | rfl | apply And.intro)))) rfl (retW_mk (hx.out.minus hx'.out HS.out) rfl rfl (by repeat (first | (with_reducible first | exact Below.refl _ _ | assumption | exact Nat.le_refl _ | refine Below.drew ?_ | refine Below.alloc ?_ ?_ _ | refine Below.setCell ?_ ?_ _ | refine le_alloc ?_ | refine le_set ?_ | refine le_drew ?_ | refine below_step (by assumption) ?_ ?_ | refine le_below (by assumption) ?_) | (dsimp only; omega))))
/-- Two numbers of two words are held against each other. -/
def eqW (h l h' l' : Nat) : Bool := h == h' && l == l'
theorem run_eqW (h l h' l' : Nat) (w : World) :
    (binOp .eql 88 (.agg #[.int .u64 h, .int .u64 l]) (.agg #[.int .u64 h', .int .u64 l'])).run Try.prog w = .ok (.bool (eqW h l h' l')) w := by
  unfold eqW
  simp [binOp, Op.equal, Op.maxDepth, go_sem]
  (repeat' split) <;> simp_all <;> omega
theorem run_neW (h l h' l' : Nat) (w : World) :
    (binOp .neq 88 (.agg #[.int .u64 h, .int .u64 l]) (.agg #[.int .u64 h', .int .u64 l'])).run Try.prog w = .ok (.bool (!(eqW h l h' l'))) w := by
  unfold eqW
  simp [binOp, Op.equal, Op.maxDepth, go_sem]
  (repeat' split) <;> simp_all <;> omega
attribute [local go_sem ↓ high] run_neW run_eqW
theorem eqW_of {h l x h' l' x' : Nat} (H : IsW h l x) (H' : IsW h' l' x') : eqW h l h' l' = decide (x = x') := by
  unfold eqW; rw [Bool.eq_iff_iff]; simp [H.eq H']
/-- Shifted to the right; the last bit is 1 if something fell out. -/
def rsticky (x n : Nat) : Nat := if shl (x / 2 ^ n) n = x then x / 2 ^ n else x / 2 ^ n / 2 * 2 + 1
theorem rightSticky_c (h l x : Nat) (n : Int) (hx : Hid (IsW h l x)) (h0 : 0 ≤ n) (h1 : n < 65536) (w : World) :
    Calls Try.prog 115 #[.agg #[.int .u64 h, .int .u64 l], .int .i64 n] w (RetW (rsticky x n.toNat) w) := by
  go_enter Try.func115, Try.ntmps115
  go_wp2_with fail
  refine (right_c _ _ _ _ hx h0 h1 _).mono ?_
  rintro e w1 ⟨h', l', rfl, hI, hb1⟩
  obtain ⟨hc1, hf1⟩ := bcell hb1; have hz1 := hb1.size; (try simp only [sz_alloc, sz_drew, sz_set] at hz1 hc1 hf1)
  have l1_0 : w.heap.size < w1.heap.size := (by omega); have n1_0 : ¬ w.heap.size = w1.heap.size := (by omega); have m1_0 : ¬ w1.heap.size = w.heap.size := (by omega); have k1_0 := fun o => hc1 (w.heap.size) o (by omega); have f1_0 := fun o => hf1 (w.heap.size) o (by omega); (try simp (disch := (first | rfl | omega | (simp only [sz_alloc, sz_drew, sz_set]; omega))) only [sz_alloc, sz_drew, sz_set, World.cell?_drew, World.frozen?_drew, World.cell?_alloc_at, World.cell?_alloc_past, World.frozen?_alloc_at, World.frozen?_alloc_past] at k1_0 f1_0); have l1_1 : w.heap.size + 1 < w1.heap.size := (by omega); have n1_1 : ¬ w.heap.size + 1 = w1.heap.size := (by omega); have m1_1 : ¬ w1.heap.size = w.heap.size + 1 := (by omega); have k1_1 := fun o => hc1 (w.heap.size + 1) o (by omega); have f1_1 := fun o => hf1 (w.heap.size + 1) o (by omega); (try simp (disch := (first | rfl | omega | (simp only [sz_alloc, sz_drew, sz_set]; omega))) only [sz_alloc, sz_drew, sz_set, World.cell?_drew, World.frozen?_drew, World.cell?_alloc_at, World.cell?_alloc_past, World.frozen?_alloc_at, World.frozen?_alloc_past] at k1_1 f1_1)
  go_wp2_with fail
  go_region_held3 (fun w' => w'.cell? ⟨w.heap.size, 0, none⟩ = some (.int .u64 h) ∧ w'.cell? ⟨w.heap.size, 1, none⟩ = some (.int .u64 l) ∧ w'.cell? ⟨w1.heap.size, 0, none⟩ = some (.int .u64 h') ∧ w'.cell? ⟨w1.heap.size, 1, none⟩ = some (.int .u64 l')) (go_keep)
    (first
      | (go_at_call 123; refine (left_c _ _ _ _ hI h0 h1 _).mono ?_; rintro e w2 ⟨h2, l2, rfl, hI2, hb2⟩; obtain ⟨hc2, hf2⟩ := bcell hb2; have hz2 := hb2.size; (try simp only [sz_alloc, sz_drew, sz_set] at hz2 hc2 hf2); have l2_0 : w.heap.size < w2.heap.size := (by omega); have n2_0 : ¬ w.heap.size = w2.heap.size := (by omega); have m2_0 : ¬ w2.heap.size = w.heap.size := (by omega); have k2_0 := fun o => hc2 (w.heap.size) o (by omega); have f2_0 := fun o => hf2 (w.heap.size) o (by omega); (try simp (disch := (first | rfl | omega | (simp only [sz_alloc, sz_drew, sz_set]; omega))) only [sz_alloc, sz_drew, sz_set, World.cell?_drew, World.frozen?_drew, World.cell?_alloc_at, World.cell?_alloc_past, World.frozen?_alloc_at, World.frozen?_alloc_past, hc1, hf1] at k2_0 f2_0); have l2_1 : w.heap.size + 1 < w2.heap.size := (by omega); have n2_1 : ¬ w.heap.size + 1 = w2.heap.size := (by omega); have m2_1 : ¬ w2.heap.size = w.heap.size + 1 := (by omega); have k2_1 := fun o => hc2 (w.heap.size + 1) o (by omega); have f2_1 := fun o => hf2 (w.heap.size + 1) o (by omega); (try simp (disch := (first | rfl | omega | (simp only [sz_alloc, sz_drew, sz_set]; omega))) only [sz_alloc, sz_drew, sz_set, World.cell?_drew, World.frozen?_drew, World.cell?_alloc_at, World.cell?_alloc_past, World.frozen?_alloc_at, World.frozen?_alloc_past, hc1, hf1] at k2_1 f2_1); have l2_2 : w1.heap.size < w2.heap.size := (by omega); have n2_2 : ¬ w1.heap.size = w2.heap.size := (by omega); have m2_2 : ¬ w2.heap.size = w1.heap.size := (by omega); have k2_2 := fun o => hc2 (w1.heap.size) o (by omega); have f2_2 := fun o => hf2 (w1.heap.size) o (by omega); (try simp (disch := (first | rfl | omega | (simp only [sz_alloc, sz_drew, sz_set]; omega))) only [sz_alloc, sz_drew, sz_set, World.cell?_drew, World.frozen?_drew, World.cell?_alloc_at, World.cell?_alloc_past, World.frozen?_alloc_at, World.frozen?_alloc_past, hc1, hf1] at k2_2 f2_2))
      | (go_at_call 125; refine (sticky_c _ _ _ _ hI _).mono ?_;  rintro e w3 ⟨h3, l3, rfl, hI3, hb3⟩; obtain ⟨hc3, hf3⟩ := bcell hb3; have hz3 := hb3.size; (try simp only [sz_alloc, sz_drew, sz_set] at hz3 hc3 hf3); have l3_0 : w.heap.size < w3.heap.size := (by omega); have n3_0 : ¬ w.heap.size = w3.heap.size := (by omega); have m3_0 : ¬ w3.heap.size = w.heap.size := (by omega); have k3_0 := fun o => hc3 (w.heap.size) o (by omega); have f3_0 := fun o => hf3 (w.heap.size) o (by omega); (try simp (disch := (first | rfl | omega | (simp only [sz_alloc, sz_drew, sz_set]; omega))) only [sz_alloc, sz_drew, sz_set, World.cell?_drew, World.frozen?_drew, World.cell?_alloc_at, World.cell?_alloc_past, World.frozen?_alloc_at, World.frozen?_alloc_past, hc2, hc1, hf2, hf1] at k3_0 f3_0); have l3_1 : w.heap.size + 1 < w3.heap.size := (by omega); have n3_1 : ¬ w.heap.size + 1 = w3.heap.size := (by omega); have m3_1 : ¬ w3.heap.size = w.heap.size + 1 := (by omega); have k3_1 := fun o => hc3 (w.heap.size + 1) o (by omega); have f3_1 := fun o => hf3 (w.heap.size + 1) o (by omega); (try simp (disch := (first | rfl | omega | (simp only [sz_alloc, sz_drew, sz_set]; omega))) only [sz_alloc, sz_drew, sz_set, World.cell?_drew, World.frozen?_drew, World.cell?_alloc_at, World.cell?_alloc_past, World.frozen?_alloc_at, World.frozen?_alloc_past, hc2, hc1, hf2, hf1] at k3_1 f3_1); have l3_2 : w1.heap.size < w3.heap.size := (by omega); have n3_2 : ¬ w1.heap.size = w3.heap.size := (by omega); have m3_2 : ¬ w3.heap.size = w1.heap.size := (by omega); have k3_2 := fun o => hc3 (w1.heap.size) o (by omega); have f3_2 := fun o => hf3 (w1.heap.size) o (by omega); (try simp (disch := (first | rfl | omega | (simp only [sz_alloc, sz_drew, sz_set]; omega))) only [sz_alloc, sz_drew, sz_set, World.cell?_drew, World.frozen?_drew, World.cell?_alloc_at, World.cell?_alloc_past, World.frozen?_alloc_at, World.frozen?_alloc_past, hc2, hc1, hf2, hf1] at k3_2 f3_2)))
  go_wp2
  refine bodyPost_ret (v := .agg #[.int .u64 h3, .int .u64 l3]) (by simp [results, Try.results115, go_sem, k3_1] <;> (first | rfl | (repeat' (first | rfl | apply And.intro)))) rfl (retW_mk ?_ rfl rfl (by repeat (first | (with_reducible first | exact Below.refl _ _ | assumption | exact Nat.le_refl _ | refine Below.drew ?_ | refine Below.alloc ?_ ?_ _ | refine Below.setCell ?_ ?_ _ | refine le_alloc ?_ | refine le_set ?_ | refine le_drew ?_ | refine below_step (by assumption) ?_ ?_ | refine le_below (by assumption) ?_) | (dsimp only; omega))))
  have := hI3.out
  rw [eqW_of hI2.out hx.out] at this
  unfold rsticky
  by_cases hh : shl (x / 2 ^ n.toNat) n.toNat = x
  · rw [if_pos hh]; simpa [hh] using this
  · rw [if_neg hh]; simpa [hh] using this
theorem most_c (d : Bool) (E F : Int) (hd : Lay d E F) (w : World) :
    Calls Try.prog 105 #[.agg #[.int .i64 E, .int .i64 F]] w (RetI (bias d) w) := by
  rcases hd with ⟨rfl, rfl, rfl⟩ | ⟨rfl, rfl, rfl⟩
  all_goals
    go_enter Try.func105, Try.ntmps105
    go_wp2
    go_ret
    exact retI_mk rfl (by repeat (first | (with_reducible first | exact Below.refl _ _ | assumption | exact Nat.le_refl _ | refine Below.drew ?_ | refine Below.alloc ?_ ?_ _ | refine Below.setCell ?_ ?_ _ | refine le_alloc ?_ | refine le_set ?_ | refine le_drew ?_ | refine below_step (by assumption) ?_ ?_ | refine le_below (by assumption) ?_) | (dsimp only; omega)))
theorem least_c (d : Bool) (E F : Int) (hd : Lay d E F) (w : World) :
    Calls Try.prog 106 #[.agg #[.int .i64 E, .int .i64 F]] w (RetI (1 - bias d) w) := by
  rcases hd with ⟨rfl, rfl, rfl⟩ | ⟨rfl, rfl, rfl⟩
  all_goals
    go_enter Try.func106, Try.ntmps106
    go_wp2
    go_ret
    exact retI_mk rfl (by repeat (first | (with_reducible first | exact Below.refl _ _ | assumption | exact Nat.le_refl _ | refine Below.drew ?_ | refine Below.alloc ?_ ?_ _ | refine Below.setCell ?_ ?_ _ | refine le_alloc ?_ | refine le_set ?_ | refine le_drew ?_ | refine below_step (by assumption) ?_ ?_ | refine le_below (by assumption) ?_) | (dsimp only; omega)))
theorem sign_c (d : Bool) (E F : Int) (hd : Lay d E F) (w : World) :
    Calls Try.prog 77 #[.agg #[.int .i64 E, .int .i64 F]] w (RetU (signB d) w) := by
  rcases hd with ⟨rfl, rfl, rfl⟩ | ⟨rfl, rfl, rfl⟩
  all_goals
    go_enter Try.func77, Try.ntmps77
    go_wp2
    go_ret
    exact retU_mk rfl (by repeat (first | (with_reducible first | exact Below.refl _ _ | assumption | exact Nat.le_refl _ | refine Below.drew ?_ | refine Below.alloc ?_ ?_ _ | refine Below.setCell ?_ ?_ _ | refine le_alloc ?_ | refine le_set ?_ | refine le_drew ?_ | refine below_step (by assumption) ?_ ?_ | refine le_below (by assumption) ?_) | (dsimp only; omega)))
theorem nought_c (d : Bool) (E F : Int) (hd : Lay d E F) (m : Bool) (w : World) :
    Calls Try.prog 102 #[.agg #[.int .i64 E, .int .i64 F], .bool m] w (RetU (noughtV d m) w) := by
  rcases hd with ⟨rfl, rfl, rfl⟩ | ⟨rfl, rfl, rfl⟩ <;> cases m
  all_goals
    go_enter Try.func102, Try.ntmps102
    go_wp2
    go_ret
    exact retU_mk rfl (by repeat (first | (with_reducible first | exact Below.refl _ _ | assumption | exact Nat.le_refl _ | refine Below.drew ?_ | refine Below.alloc ?_ ?_ _ | refine Below.setCell ?_ ?_ _ | refine le_alloc ?_ | refine le_set ?_ | refine le_drew ?_ | refine below_step (by assumption) ?_ ?_ | refine le_below (by assumption) ?_) | (dsimp only; omega)))
theorem classAtEnd_c (d : Bool) (E F : Int) (hd : Lay d E F) (fr : Nat) (w : World) :
    Calls Try.prog 104 #[.agg #[.int .i64 E, .int .i64 F], .int .u64 fr] w (RetI (classV d fr) w) := by
  rcases hd with ⟨rfl, rfl, rfl⟩ | ⟨rfl, rfl, rfl⟩
  all_goals
    go_enter Try.func104, Try.ntmps104
    go_wp2
    all_goals go_ret
    all_goals refine retI_mk ?_ (by repeat (first | (with_reducible first | exact Below.refl _ _ | assumption | exact Nat.le_refl _ | refine Below.drew ?_ | refine Below.alloc ?_ ?_ _ | refine Below.setCell ?_ ?_ _ | refine le_alloc ?_ | refine le_set ?_ | refine le_drew ?_ | refine below_step (by assumption) ?_ ?_ | refine le_below (by assumption) ?_) | (dsimp only; omega)))
    all_goals unfold classV fracT
    all_goals (try simp only [beq_iff_eq, beq_eq_false_iff_ne, bne_iff_ne, bne_eq_false_iff_eq, ne_eq, Bool.not_eq_true] at *)
    all_goals ((repeat' split) <;> (first | rfl | omega | (simp at *; done) | (simp at *; omega)))
theorem infinity_false (m : Bool) (w : World) :
    Calls Try.prog 101 #[.agg #[.int .i64 8, .int .i64 23], .bool m] w (RetU (infV false m) w) := by
  go_enter Try.func101, Try.ntmps101
  go_wp2_with fail
  go_region_held3 (fun w' => w'.cell? ⟨w.heap.size, 0, none⟩ = some (.int .i64 8) ∧ w'.cell? ⟨w.heap.size, 1, none⟩ = some (.int .i64 23)) (go_keep)
    (first
      | (go_at_call 102; refine (nought_c false _ _ (.inl ⟨rfl, rfl, rfl⟩) _ _).mono ?_; rintro e w1 ⟨rfl, hb1⟩; obtain ⟨hc1, hf1⟩ := bcell hb1; have hz1 := hb1.size; (try simp only [sz_alloc, sz_drew, sz_set] at hz1 hc1 hf1); have l1_0 : w.heap.size < w1.heap.size := (by omega); have n1_0 : ¬ w.heap.size = w1.heap.size := (by omega); have m1_0 : ¬ w1.heap.size = w.heap.size := (by omega); have k1_0 := fun o => hc1 (w.heap.size) o (by omega); have f1_0 := fun o => hf1 (w.heap.size) o (by omega); (try simp (disch := (first | rfl | omega | (simp only [sz_alloc, sz_drew, sz_set]; omega))) only [sz_alloc, sz_drew, sz_set, World.cell?_drew, World.frozen?_drew, World.cell?_alloc_at, World.cell?_alloc_past, World.frozen?_alloc_at, World.frozen?_alloc_past] at k1_0 f1_0))
      | (go_at_call 77; refine (sign_c false _ _ (.inl ⟨rfl, rfl, rfl⟩) _).mono ?_; rintro e w2 ⟨rfl, hb2⟩; obtain ⟨hc2, hf2⟩ := bcell hb2; have hz2 := hb2.size; (try simp only [sz_alloc, sz_drew, sz_set] at hz2 hc2 hf2); have l2_0 : w.heap.size < w2.heap.size := (by omega); have n2_0 : ¬ w.heap.size = w2.heap.size := (by omega); have m2_0 : ¬ w2.heap.size = w.heap.size := (by omega); have k2_0 := fun o => hc2 (w.heap.size) o (by omega); have f2_0 := fun o => hf2 (w.heap.size) o (by omega); (try simp (disch := (first | rfl | omega | (simp only [sz_alloc, sz_drew, sz_set]; omega))) only [sz_alloc, sz_drew, sz_set, World.cell?_drew, World.frozen?_drew, World.cell?_alloc_at, World.cell?_alloc_past, World.frozen?_alloc_at, World.frozen?_alloc_past] at k2_0 f2_0)))
  all_goals go_wp2
  all_goals go_ret
  all_goals refine retU_mk ?_ (by repeat (first | (with_reducible first | exact Below.refl _ _ | assumption | exact Nat.le_refl _ | refine Below.drew ?_ | refine Below.alloc ?_ ?_ _ | refine Below.setCell ?_ ?_ _ | refine le_alloc ?_ | refine le_set ?_ | refine le_drew ?_ | refine below_step (by assumption) ?_ ?_ | refine le_below (by assumption) ?_) | (dsimp only; omega)))
  all_goals cases m
  all_goals decide +kernel
theorem infinity_true (m : Bool) (w : World) :
    Calls Try.prog 101 #[.agg #[.int .i64 11, .int .i64 52], .bool m] w (RetU (infV true m) w) := by
  go_enter Try.func101, Try.ntmps101
  go_wp2_with fail
  go_region_held3 (fun w' => w'.cell? ⟨w.heap.size, 0, none⟩ = some (.int .i64 11) ∧ w'.cell? ⟨w.heap.size, 1, none⟩ = some (.int .i64 52)) (go_keep)
    (first
      | (go_at_call 102; refine (nought_c true _ _ (.inr ⟨rfl, rfl, rfl⟩) _ _).mono ?_; rintro e w1 ⟨rfl, hb1⟩; obtain ⟨hc1, hf1⟩ := bcell hb1; have hz1 := hb1.size; (try simp only [sz_alloc, sz_drew, sz_set] at hz1 hc1 hf1); have l1_0 : w.heap.size < w1.heap.size := (by omega); have n1_0 : ¬ w.heap.size = w1.heap.size := (by omega); have m1_0 : ¬ w1.heap.size = w.heap.size := (by omega); have k1_0 := fun o => hc1 (w.heap.size) o (by omega); have f1_0 := fun o => hf1 (w.heap.size) o (by omega); (try simp (disch := (first | rfl | omega | (simp only [sz_alloc, sz_drew, sz_set]; omega))) only [sz_alloc, sz_drew, sz_set, World.cell?_drew, World.frozen?_drew, World.cell?_alloc_at, World.cell?_alloc_past, World.frozen?_alloc_at, World.frozen?_alloc_past] at k1_0 f1_0))
      | (go_at_call 77; refine (sign_c true _ _ (.inr ⟨rfl, rfl, rfl⟩) _).mono ?_; rintro e w2 ⟨rfl, hb2⟩; obtain ⟨hc2, hf2⟩ := bcell hb2; have hz2 := hb2.size; (try simp only [sz_alloc, sz_drew, sz_set] at hz2 hc2 hf2); have l2_0 : w.heap.size < w2.heap.size := (by omega); have n2_0 : ¬ w.heap.size = w2.heap.size := (by omega); have m2_0 : ¬ w2.heap.size = w.heap.size := (by omega); have k2_0 := fun o => hc2 (w.heap.size) o (by omega); have f2_0 := fun o => hf2 (w.heap.size) o (by omega); (try simp (disch := (first | rfl | omega | (simp only [sz_alloc, sz_drew, sz_set]; omega))) only [sz_alloc, sz_drew, sz_set, World.cell?_drew, World.frozen?_drew, World.cell?_alloc_at, World.cell?_alloc_past, World.frozen?_alloc_at, World.frozen?_alloc_past] at k2_0 f2_0)))
  all_goals go_wp2
  all_goals go_ret
  all_goals refine retU_mk ?_ (by repeat (first | (with_reducible first | exact Below.refl _ _ | assumption | exact Nat.le_refl _ | refine Below.drew ?_ | refine Below.alloc ?_ ?_ _ | refine Below.setCell ?_ ?_ _ | refine le_alloc ?_ | refine le_set ?_ | refine le_drew ?_ | refine below_step (by assumption) ?_ ?_ | refine le_below (by assumption) ?_) | (dsimp only; omega)))
  all_goals cases m
  all_goals decide +kernel
theorem infinity_c (d : Bool) (E F : Int) (hd : Lay d E F) (m : Bool) (w : World) :
    Calls Try.prog 101 #[.agg #[.int .i64 E, .int .i64 F], .bool m] w (RetU (infV d m) w) := by
  rcases hd with ⟨rfl, rfl, rfl⟩ | ⟨rfl, rfl, rfl⟩
  · exact infinity_false m w
  · exact infinity_true m w
theorem greatest_c (d : Bool) (E F : Int) (hd : Lay d E F) (m : Bool) (w : World) :
    Calls Try.prog 130 #[.agg #[.int .i64 E, .int .i64 F], .bool m] w (RetU (infV d m - 1) w) := by
  go_enter Try.func130, Try.ntmps130
  go_wp2_with fail
  refine (infinity_c d E F hd m _).mono ?_
  rintro e w1 ⟨rfl, hb1⟩
  go_wp2_with fail
  go_ret
  refine retU_mk ?_ (by repeat (first | (with_reducible first | exact Below.refl _ _ | assumption | exact Nat.le_refl _ | refine Below.drew ?_ | refine Below.alloc ?_ ?_ _ | refine Below.setCell ?_ ?_ _ | refine le_alloc ?_ | refine le_set ?_ | refine le_drew ?_ | refine below_step (by assumption) ?_ ?_ | refine le_below (by assumption) ?_) | (dsimp only; omega)))
  rw [IntKind.wrap_u64]
  cases d <;> cases m <;> decide +kernel
theorem quiet_false (w : World) :
    Calls Try.prog 79 #[.agg #[.int .i64 8, .int .i64 23]] w (RetU (quietB false) w) := by
  have e22 : IntKind.i64.wrap 22 = 22 := by decide
  have e51 : IntKind.i64.wrap 51 = 51 := by decide
  go_enter Try.func79, Try.ntmps79
  go_wp2_with fail
  go_region_held3 (fun w' => w'.cell? ⟨w.heap.size, 0, none⟩ = some (.int .i64 8) ∧ w'.cell? ⟨w.heap.size, 1, none⟩ = some (.int .i64 23)) (go_keep)
    (first
      | (go_at_call 101; refine (infinity_c false _ _ (.inl ⟨rfl, rfl, rfl⟩) _ _).mono ?_; rintro e w1 ⟨rfl, hb1⟩; obtain ⟨hc1, hf1⟩ := bcell hb1; have hz1 := hb1.size; (try simp only [sz_alloc, sz_drew, sz_set] at hz1 hc1 hf1); have l1_0 : w.heap.size < w1.heap.size := (by omega); have n1_0 : ¬ w.heap.size = w1.heap.size := (by omega); have m1_0 : ¬ w1.heap.size = w.heap.size := (by omega); have k1_0 := fun o => hc1 (w.heap.size) o (by omega); have f1_0 := fun o => hf1 (w.heap.size) o (by omega); (try simp (disch := (first | rfl | omega | (simp only [sz_alloc, sz_drew, sz_set]; omega))) only [sz_alloc, sz_drew, sz_set, World.cell?_drew, World.frozen?_drew, World.cell?_alloc_at, World.cell?_alloc_past, World.frozen?_alloc_at, World.frozen?_alloc_past] at k1_0 f1_0)))
  all_goals go_wp2
  all_goals go_ret
  all_goals refine retU_mk ?_ (by repeat (first | (with_reducible first | exact Below.refl _ _ | assumption | exact Nat.le_refl _ | refine Below.drew ?_ | refine Below.alloc ?_ ?_ _ | refine Below.setCell ?_ ?_ _ | refine le_alloc ?_ | refine le_set ?_ | refine le_drew ?_ | refine below_step (by assumption) ?_ ?_ | refine le_below (by assumption) ?_) | (dsimp only; omega)))
  all_goals decide +kernel
theorem quiet_true (w : World) :
    Calls Try.prog 79 #[.agg #[.int .i64 11, .int .i64 52]] w (RetU (quietB true) w) := by
  have e22 : IntKind.i64.wrap 22 = 22 := by decide
  have e51 : IntKind.i64.wrap 51 = 51 := by decide
  go_enter Try.func79, Try.ntmps79
  go_wp2_with fail
  go_region_held3 (fun w' => w'.cell? ⟨w.heap.size, 0, none⟩ = some (.int .i64 11) ∧ w'.cell? ⟨w.heap.size, 1, none⟩ = some (.int .i64 52)) (go_keep)
    (first
      | (go_at_call 101; refine (infinity_c true _ _ (.inr ⟨rfl, rfl, rfl⟩) _ _).mono ?_; rintro e w1 ⟨rfl, hb1⟩; obtain ⟨hc1, hf1⟩ := bcell hb1; have hz1 := hb1.size; (try simp only [sz_alloc, sz_drew, sz_set] at hz1 hc1 hf1); have l1_0 : w.heap.size < w1.heap.size := (by omega); have n1_0 : ¬ w.heap.size = w1.heap.size := (by omega); have m1_0 : ¬ w1.heap.size = w.heap.size := (by omega); have k1_0 := fun o => hc1 (w.heap.size) o (by omega); have f1_0 := fun o => hf1 (w.heap.size) o (by omega); (try simp (disch := (first | rfl | omega | (simp only [sz_alloc, sz_drew, sz_set]; omega))) only [sz_alloc, sz_drew, sz_set, World.cell?_drew, World.frozen?_drew, World.cell?_alloc_at, World.cell?_alloc_past, World.frozen?_alloc_at, World.frozen?_alloc_past] at k1_0 f1_0)))
  all_goals go_wp2
  all_goals go_ret
  all_goals refine retU_mk ?_ (by repeat (first | (with_reducible first | exact Below.refl _ _ | assumption | exact Nat.le_refl _ | refine Below.drew ?_ | refine Below.alloc ?_ ?_ _ | refine Below.setCell ?_ ?_ _ | refine le_alloc ?_ | refine le_set ?_ | refine le_drew ?_ | refine below_step (by assumption) ?_ ?_ | refine le_below (by assumption) ?_) | (dsimp only; omega)))
  all_goals decide +kernel
theorem quiet_c (d : Bool) (E F : Int) (hd : Lay d E F) (w : World) :
    Calls Try.prog 79 #[.agg #[.int .i64 E, .int .i64 F]] w (RetU (quietB d) w) := by
  rcases hd with ⟨rfl, rfl, rfl⟩ | ⟨rfl, rfl, rfl⟩
  · exact quiet_false w
  · exact quiet_true w
theorem away_c (rm : Int) (m : Bool) (k : Nat) (r : Int) (hk : Hid (k < 18446744073709551616)) (w : World) :
    Calls Try.prog 129 #[.int .i64 rm, .bool m, .int .u64 k, .int .i64 r] w (RetB (awayV rm m k r) w) := by
  go_enter Try.func129, Try.ntmps129
  go_wp2
  all_goals go_ret
  all_goals refine retB_mk ?_ (by repeat (first | (with_reducible first | exact Below.refl _ _ | assumption | exact Nat.le_refl _ | refine Below.drew ?_ | refine Below.alloc ?_ ?_ _ | refine Below.setCell ?_ ?_ _ | refine le_alloc ?_ | refine le_set ?_ | refine le_drew ?_ | refine below_step (by assumption) ?_ ?_ | refine le_below (by assumption) ?_) | (dsimp only; omega)))
  all_goals unfold awayV
  all_goals (try rw [and1' k hk.out])
  all_goals (try simp only [beq_iff_eq, beq_eq_false_iff_ne, bne_iff_ne, bne_eq_false_iff_eq, ne_eq, Bool.not_eq_true] at *)
  all_goals (try simp_all)
theorem layoutOf_c (d : Bool) (rm : Int) (h5 : 0 ≤ rm) (h3 : rm < 5) (w : World) :
    Calls Try.prog 74 #[.int .i64 (if d then 8 else 4), .int .i64 rm] w (fun e w' => ∃ E F : Int, e = .returned (.tuple #[.agg #[.int .i64 E, .int .i64 F], .bool true]) ∧ Lay d E F ∧ Below w.heap.size w w') := by
  cases d
  · simp only [Bool.false_eq_true, if_false]
    go_enter Try.func74, Try.ntmps74
    go_wp2
    exact bodyPost_ret (v := .tuple #[.agg #[_, _], .bool true]) (by simp [results, Try.results74, go_sem] <;> (first | rfl | (repeat' (first | rfl | apply And.intro)))) rfl ⟨8, 23, rfl, .inl ⟨rfl, rfl, rfl⟩, (by repeat (first | (with_reducible first | exact Below.refl _ _ | assumption | exact Nat.le_refl _ | refine Below.drew ?_ | refine Below.alloc ?_ ?_ _ | refine Below.setCell ?_ ?_ _ | refine le_alloc ?_ | refine le_set ?_ | refine le_drew ?_ | refine below_step (by assumption) ?_ ?_ | refine le_below (by assumption) ?_) | (dsimp only; omega)))⟩
  · simp only [if_true]
    go_enter Try.func74, Try.ntmps74
    go_wp2
    exact bodyPost_ret (v := .tuple #[.agg #[_, _], .bool true]) (by simp [results, Try.results74, go_sem] <;> (first | rfl | (repeat' (first | rfl | apply And.intro)))) rfl ⟨11, 52, rfl, .inr ⟨rfl, rfl, rfl⟩, (by repeat (first | (with_reducible first | exact Below.refl _ _ | assumption | exact Nat.le_refl _ | refine Below.drew ?_ | refine Below.alloc ?_ ?_ _ | refine Below.setCell ?_ ?_ _ | refine le_alloc ?_ | refine le_set ?_ | refine le_drew ?_ | refine below_step (by assumption) ?_ ?_ | refine le_below (by assumption) ?_) | (dsimp only; omega)))⟩
theorem and_bit (x k : Nat) (hx : x < 18446744073709551616) (hk : k < 64) : (bits .and .u64 (x : Int) ((2 ^ k : Nat) : Int) != 0) = decide (x / 2 ^ k % 2 = 1) := by
  have hp : 0 < 2 ^ k := Nat.two_pow_pos k
  rw [u64_and_nat _ _ hx (by rw [pow64]; exact Nat.pow_lt_pow_right (by decide) hk), nat_bit, Bool.eq_iff_iff]
  simp only [bne_iff_ne, ne_eq, decide_eq_true_eq, Int.natCast_eq_zero, Nat.mul_eq_zero]
  omega
theorem or_frac (x k : Nat) (hk : k < 64) (hx : x < 2 ^ k) : bits .or .u64 (x : Int) ((2 ^ k : Nat) : Int) = ((x + 2 ^ k : Nat) : Int) := by
  have h64 : 2 ^ k < 18446744073709551616 := by rw [pow64]; exact Nat.pow_lt_pow_right (by decide) hk
  rw [bits_or_u64_nat _ _ (by omega) h64, Nat.or_comm, or_disj k _ _ (by simp) hx, Nat.add_comm]
theorem or_sign (s x k : Nat) (hk : k < 64) (hs : s = 0 ∨ s = 2 ^ k) (hx : x < 2 ^ k) : bits .or .u64 (s : Int) (x : Int) = ((s + x : Nat) : Int) := by
  have h64 : 2 ^ k < 18446744073709551616 := by rw [pow64]; exact Nat.pow_lt_pow_right (by decide) hk
  rw [bits_or_u64_nat _ _ (by omega) (by omega), or_disj k _ _ ?_ hx]
  rcases hs with rfl | rfl <;> simp
theorem join_num (s t k f K : Nat) (hK : K < 64) (hs : s = 0 ∨ s = 2 ^ K) (h : t * f + k < 2 ^ K) :
    bits .or .u64 (s : Int) (IntKind.u64.wrap (IntKind.u64.wrap ((t : Int) * (f : Int)) + (k : Int))) = ((s + (t * f + k) : Nat) : Int) := by
  have h64 : 2 ^ K < 18446744073709551616 := by rw [pow64]; exact Nat.pow_lt_pow_right (by decide) hK
  rw [← Int.natCast_mul, wrapN, Nat.mod_eq_of_lt (by omega), ← Int.natCast_add, wrapN, Nat.mod_eq_of_lt (by omega)]
  exact or_sign _ _ K hK hs h
theorem classV_nonneg (d : Bool) (fr : Nat) : 0 ≤ classV d fr := by unfold classV; (repeat' split) <;> decide
theorem readN_end {d : Bool} {a fd fr : Nat} {m : Bool} (h1 : a / fracT d % expT d = fd) (h2 : a % fracT d = fr) (hm : m = decide (a / signB d % 2 = 1)) (h : fd = expT d - 1) :
    IsN (classV d fr) m 0 0 0 (readN d a) := by
  unfold readN
  simp only [h1, h2, ← hm]
  rw [if_pos h]
  exact ⟨by simp only; exact (Int.toNat_of_nonneg (classV_nonneg _ _)).symm, rfl, rfl, by decide, by decide, rfl⟩
theorem readN_norm {d : Bool} {a fd fr : Nat} {m : Bool} {x : Int} {l : Nat} (h1 : a / fracT d % expT d = fd) (h2 : a % fracT d = fr) (hm : m = decide (a / signB d % 2 = 1)) (h : fd ≠ expT d - 1) (h0 : fd ≠ 0)
    (hx : x = (fd : Int) - bias d - fb d) (hl : l = fr + fracT d) (hb : fr + fracT d < 18446744073709551616) :
    IsN 1 m x 0 l (readN d a) := by
  unfold readN
  simp only [h1, h2, ← hm]
  rw [if_neg h, if_pos h0]
  exact ⟨rfl, rfl, hx, by decide, by omega, by simp [hl]⟩
theorem readN_sub {d : Bool} {a fd fr : Nat} {m : Bool} {x : Int} {l : Nat} (h1 : a / fracT d % expT d = fd) (h2 : a % fracT d = fr) (hm : m = decide (a / signB d % 2 = 1)) (h : fd ≠ expT d - 1) (h0 : fd = 0)
    (hr : fr ≠ 0) (hx : x = 1 - bias d - fb d) (hl : l = fr) (hb : fr < 18446744073709551616) :
    IsN 1 m x 0 l (readN d a) := by
  unfold readN
  simp only [h1, h2, ← hm]
  rw [if_neg h, if_neg (by omega), if_pos hr]
  exact ⟨rfl, rfl, hx, by decide, by omega, by simp [hl]⟩
theorem readN_zero {d : Bool} {a fd fr : Nat} {m : Bool} (h1 : a / fracT d % expT d = fd) (h2 : a % fracT d = fr) (hm : m = decide (a / signB d % 2 = 1)) (h : fd ≠ expT d - 1) (h0 : fd = 0)
    (hr : fr = 0) : IsN 0 m 0 0 0 (readN d a) := by
  unfold readN
  simp only [h1, h2, ← hm]
  rw [if_neg h, if_neg (by omega), if_neg (by omega)]
  exact ⟨rfl, rfl, rfl, by decide, by decide, rfl⟩
theorem join_f (m : Bool) (top : Int) (k : Nat) (h0 : 1 - 127 ≤ top) (h1 : top ≤ 127) (hk : k ≤ 16777216) (hs : Hid ((top + (127 - 1)).toNat * 8388608 + k < 2147483648)) (w : World) :
    Calls Try.prog 121 #[.agg #[.int .i64 8, .int .i64 23], .bool m, .int .i64 top, .int .u64 k] w (RetU (noughtV false m + ((top + (127 - 1)).toNat * 8388608 + k)) w) := by
  have hB : bias false = 127 := rfl
  have HK := Lib.hid hk; have HB := Lib.hid hB; clear hk hB
  go_enter Try.func121, Try.ntmps121
  go_wp2_with fail
  refine (most_c false _ _ (.inl ⟨rfl, rfl, rfl⟩) _).mono ?_; rintro e w1 ⟨rfl, hb1⟩; obtain ⟨hc1, hf1⟩ := bcell hb1; have hz1 := hb1.size; (try simp only [sz_alloc, sz_drew, sz_set] at hz1 hc1 hf1); have l1_0 : w.heap.size < w1.heap.size := (by omega); have n1_0 : ¬ w.heap.size = w1.heap.size := (by omega); have m1_0 : ¬ w1.heap.size = w.heap.size := (by omega); have k1_0 := fun o => hc1 (w.heap.size) o (by omega); have f1_0 := fun o => hf1 (w.heap.size) o (by omega); (try simp (disch := (first | rfl | omega | (simp only [sz_alloc, sz_drew, sz_set]; omega))) only [sz_alloc, sz_drew, sz_set, World.cell?_drew, World.frozen?_drew, World.cell?_alloc_at, World.cell?_alloc_past, World.frozen?_alloc_at, World.frozen?_alloc_past] at k1_0 f1_0)
  rw [HB.out]
  go_wp2_with fail
  go_region_held3 (fun w' => w'.cell? ⟨w.heap.size, 0, none⟩ = some (.int .i64 8) ∧ w'.cell? ⟨w.heap.size, 1, none⟩ = some (.int .i64 23)) (go_keep)
    (first
      | (go_at_call 102; refine (nought_c false _ _ (.inl ⟨rfl, rfl, rfl⟩) _ _).mono ?_; rintro e w2 ⟨rfl, hb2⟩; obtain ⟨hc2, hf2⟩ := bcell hb2; have hz2 := hb2.size; (try simp only [sz_alloc, sz_drew, sz_set] at hz2 hc2 hf2); have l2_0 : w.heap.size < w2.heap.size := (by omega); have n2_0 : ¬ w.heap.size = w2.heap.size := (by omega); have m2_0 : ¬ w2.heap.size = w.heap.size := (by omega); have k2_0 := fun o => hc2 (w.heap.size) o (by omega); have f2_0 := fun o => hf2 (w.heap.size) o (by omega); (try simp (disch := (first | rfl | omega | (simp only [sz_alloc, sz_drew, sz_set]; omega))) only [sz_alloc, sz_drew, sz_set, World.cell?_drew, World.frozen?_drew, World.cell?_alloc_at, World.cell?_alloc_past, World.frozen?_alloc_at, World.frozen?_alloc_past] at k2_0 f2_0)))
  all_goals go_wp2
  all_goals go_ret
  all_goals refine retU_mk ?_ (by repeat (first | (with_reducible first | exact Below.refl _ _ | assumption | exact Nat.le_refl _ | refine Below.drew ?_ | refine Below.alloc ?_ ?_ _ | refine Below.setCell ?_ ?_ _ | refine le_alloc ?_ | refine le_set ?_ | refine le_drew ?_ | refine below_step (by assumption) ?_ ?_ | refine le_below (by assumption) ?_) | (dsimp only; omega)))
  all_goals
    have HS := hs.out
    have hk := HK.out
    obtain ⟨t, ht⟩ : ∃ t : Nat, top + 127 - 1 = t := ⟨(top + 127 - 1).toNat, by omega⟩
    have e1 : (top + (127 - 1)).toNat = t := by omega
    rw [e1] at HS ⊢
    rw [ht]
    exact join_num _ t k 8388608 31 (by decide) (by cases m; exact .inl rfl; exact .inr rfl) HS
set_option maxHeartbeats 4000000 in
theorem read_f (a : Nat) (ha : Hid (a < 18446744073709551616)) (w : World) :
    Calls Try.prog 76 #[.agg #[.int .i64 8, .int .i64 23], .int .u64 a] w (RetN (readN false a) w) := by
  have hB : bias false = 127 := rfl
  have hS : signB false = 2147483648 := rfl
  have HB := Lib.hid hB; have HSG := Lib.hid hS; clear hB hS
  have e1 : bits .and .u64 ((a : Int) / 8388608) 255 = ((a / 8388608 % 256 : Nat) : Int) := by
    rw [show (a : Int) / 8388608 = ((a / 8388608 : Nat) : Int) by omega]
    exact and_mask (a / 8388608) 8 (by have := ha.out; omega) (by decide)
  have e2 : bits .and .u64 (a : Int) 8388607 = ((a % 8388608 : Nat) : Int) := and_mask a 23 ha.out (by decide)
  have E1 := Lib.hid e1; have E2 := Lib.hid e2; clear e1 e2
  go_enter Try.func76, Try.ntmps76
  go_wp2_with fail
  go_region
  go_wp2_with fail
  rw [E1.out, E2.out, wrap64_nat _ (by have : a / 8388608 % 256 < 256 := Nat.mod_lt _ (by decide); omega)]
  have hfl : a / 8388608 % 256 < 256 := Nat.mod_lt _ (by decide)
  have hrl : a % 8388608 < 8388608 := Nat.mod_lt _ (by decide)
  revert hfl hrl
  generalize hF : a / 8388608 % 256 = fd
  generalize hR : a % 8388608 = fr
  intro hfl hrl
  have HF := Lib.hid hF; have HR := Lib.hid hR; clear hF hR
  refine (sign_c false _ _ (.inl ⟨rfl, rfl, rfl⟩) _).mono ?_; rintro e w1 ⟨rfl, hb1⟩; obtain ⟨hc1, hf1⟩ := bcell hb1; have hz1 := hb1.size; (try simp only [sz_alloc, sz_drew, sz_set] at hz1 hc1 hf1); have l1_0 : w.heap.size < w1.heap.size := (by omega); have n1_0 : ¬ w.heap.size = w1.heap.size := (by omega); have m1_0 : ¬ w1.heap.size = w.heap.size := (by omega); have k1_0 := fun o => hc1 (w.heap.size) o (by omega); have f1_0 := fun o => hf1 (w.heap.size) o (by omega); (try simp (disch := (first | rfl | omega | (simp only [sz_alloc, sz_drew, sz_set]; omega))) only [sz_alloc, sz_drew, sz_set, World.cell?_drew, World.frozen?_drew, World.cell?_alloc_at, World.cell?_alloc_past, World.frozen?_alloc_at, World.frozen?_alloc_past] at k1_0 f1_0); have l1_1 : w.heap.size + 1 < w1.heap.size := (by omega); have n1_1 : ¬ w.heap.size + 1 = w1.heap.size := (by omega); have m1_1 : ¬ w1.heap.size = w.heap.size + 1 := (by omega); have k1_1 := fun o => hc1 (w.heap.size + 1) o (by omega); have f1_1 := fun o => hf1 (w.heap.size + 1) o (by omega); (try simp (disch := (first | rfl | omega | (simp only [sz_alloc, sz_drew, sz_set]; omega))) only [sz_alloc, sz_drew, sz_set, World.cell?_drew, World.frozen?_drew, World.cell?_alloc_at, World.cell?_alloc_past, World.frozen?_alloc_at, World.frozen?_alloc_past] at k1_1 f1_1)
  rw [HSG.out]
  have HM : Hid ((bits BinOp.and IntKind.u64 (a : Int) 2147483648 != 0) = decide (a / signB false % 2 = 1)) := and_bit a 31 ha.out (by decide)
  by_cases h1 : fd = 255
  · have hb1 : ((fd : Int) == 255) = true := by simp [h1]
    have H1 := Lib.hid h1; clear h1
    go_wp2_with fail
    refine (classAtEnd_c false _ _ (.inl ⟨rfl, rfl, rfl⟩) _ _).mono ?_; rintro e w2 ⟨rfl, hb2⟩; obtain ⟨hc2, hf2⟩ := bcell hb2; have hz2 := hb2.size; (try simp only [sz_alloc, sz_drew, sz_set] at hz2 hc2 hf2); have l2_0 : w.heap.size < w2.heap.size := (by omega); have n2_0 : ¬ w.heap.size = w2.heap.size := (by omega); have m2_0 : ¬ w2.heap.size = w.heap.size := (by omega); have k2_0 := fun o => hc2 (w.heap.size) o (by omega); have f2_0 := fun o => hf2 (w.heap.size) o (by omega); (try simp (disch := (first | rfl | omega | (simp only [sz_alloc, sz_drew, sz_set]; omega))) only [sz_alloc, sz_drew, sz_set, World.cell?_drew, World.frozen?_drew, World.cell?_alloc_at, World.cell?_alloc_past, World.frozen?_alloc_at, World.frozen?_alloc_past, hc1, hf1] at k2_0 f2_0); have l2_1 : w.heap.size + 1 < w2.heap.size := (by omega); have n2_1 : ¬ w.heap.size + 1 = w2.heap.size := (by omega); have m2_1 : ¬ w2.heap.size = w.heap.size + 1 := (by omega); have k2_1 := fun o => hc2 (w.heap.size + 1) o (by omega); have f2_1 := fun o => hf2 (w.heap.size + 1) o (by omega); (try simp (disch := (first | rfl | omega | (simp only [sz_alloc, sz_drew, sz_set]; omega))) only [sz_alloc, sz_drew, sz_set, World.cell?_drew, World.frozen?_drew, World.cell?_alloc_at, World.cell?_alloc_past, World.frozen?_alloc_at, World.frozen?_alloc_past, hc1, hf1] at k2_1 f2_1); have l2_2 : w1.heap.size < w2.heap.size := (by omega); have n2_2 : ¬ w1.heap.size = w2.heap.size := (by omega); have m2_2 : ¬ w2.heap.size = w1.heap.size := (by omega); have k2_2 := fun o => hc2 (w1.heap.size) o (by omega); have f2_2 := fun o => hf2 (w1.heap.size) o (by omega); (try simp (disch := (first | rfl | omega | (simp only [sz_alloc, sz_drew, sz_set]; omega))) only [sz_alloc, sz_drew, sz_set, World.cell?_drew, World.frozen?_drew, World.cell?_alloc_at, World.cell?_alloc_past, World.frozen?_alloc_at, World.frozen?_alloc_past, hc1, hf1] at k2_2 f2_2)
    go_wp2_with fail
    refine bodyPost_ret (v := .agg #[_, _, _, _, _]) (by simp [results, Try.results76, go_sem, k2_1] <;> (first | rfl | (repeat' (first | rfl | apply And.intro)))) rfl (retN_mk (readN_end HF.out HR.out HM.out H1.out) rfl rfl (by repeat (first | (with_reducible first | exact Below.refl _ _ | assumption | exact Nat.le_refl _ | refine Below.drew ?_ | refine Below.alloc ?_ ?_ _ | refine Below.setCell ?_ ?_ _ | refine le_alloc ?_ | refine le_set ?_ | refine le_drew ?_ | refine below_step (by assumption) ?_ ?_ | refine le_below (by assumption) ?_) | (dsimp only; omega))))
  · have hb1 : ((fd : Int) == 255) = false := by rw [beq_eq_false_iff_ne]; omega
    have H1 := Lib.hid h1; clear h1
    by_cases h2 : fd = 0
    · have hb2 : ((fd : Int) != 0) = false := by simp [h2]
      have H2 := Lib.hid h2; clear h2
      by_cases h3 : fr = 0
      · have hb3 : ((fr : Int) != 0) = false := by simp [h3]
        have H3 := Lib.hid h3; clear h3
        go_wp2_with fail
        refine bodyPost_ret (v := .agg #[_, _, _, _, _]) (by simp [results, Try.results76, go_sem, k1_1, l1_1, n1_1, sz_set] <;> (first | rfl | (repeat' (first | rfl | apply And.intro)))) rfl (retN_mk (readN_zero HF.out HR.out HM.out H1.out H2.out H3.out) rfl rfl (by repeat (first | (with_reducible first | exact Below.refl _ _ | assumption | exact Nat.le_refl _ | refine Below.drew ?_ | refine Below.alloc ?_ ?_ _ | refine Below.setCell ?_ ?_ _ | refine le_alloc ?_ | refine le_set ?_ | refine le_drew ?_ | refine below_step (by assumption) ?_ ?_ | refine le_below (by assumption) ?_) | (dsimp only; omega))))
      · have hb3 : ((fr : Int) != 0) = true := by rw [bne_iff_ne]; omega
        have H3 := Lib.hid h3; clear h3
        go_wp2_with fail
        go_region_held3 (fun w' => w'.cell? ⟨w.heap.size, 0, none⟩ = some (.int .i64 8) ∧ w'.cell? ⟨w.heap.size, 1, none⟩ = some (.int .i64 23)) (go_keep)
          (first
            | (go_at_call 106; refine (least_c false _ _ (.inl ⟨rfl, rfl, rfl⟩) _).mono ?_; rintro e w2 ⟨rfl, hbb2⟩; obtain ⟨hc2, hf2⟩ := bcell hbb2; have hz2 := hbb2.size; (try simp only [sz_alloc, sz_drew, sz_set] at hz2 hc2 hf2); have l2_0 : w.heap.size < w2.heap.size := (by omega); have n2_0 : ¬ w.heap.size = w2.heap.size := (by omega); have m2_0 : ¬ w2.heap.size = w.heap.size := (by omega); have k2_0 := fun o => hc2 (w.heap.size) o (by omega); have f2_0 := fun o => hf2 (w.heap.size) o (by omega); (try simp (disch := (first | rfl | omega | (simp only [sz_alloc, sz_drew, sz_set]; omega))) only [sz_alloc, sz_drew, sz_set, World.cell?_drew, World.frozen?_drew, World.cell?_alloc_at, World.cell?_alloc_past, World.frozen?_alloc_at, World.frozen?_alloc_past, hc1, hf1] at k2_0 f2_0); have l2_1 : w.heap.size + 1 < w2.heap.size := (by omega); have n2_1 : ¬ w.heap.size + 1 = w2.heap.size := (by omega); have m2_1 : ¬ w2.heap.size = w.heap.size + 1 := (by omega); have k2_1 := fun o => hc2 (w.heap.size + 1) o (by omega); have f2_1 := fun o => hf2 (w.heap.size + 1) o (by omega); (try simp (disch := (first | rfl | omega | (simp only [sz_alloc, sz_drew, sz_set]; omega))) only [sz_alloc, sz_drew, sz_set, World.cell?_drew, World.frozen?_drew, World.cell?_alloc_at, World.cell?_alloc_past, World.frozen?_alloc_at, World.frozen?_alloc_past, hc1, hf1] at k2_1 f2_1); have l2_2 : w1.heap.size < w2.heap.size := (by omega); have n2_2 : ¬ w1.heap.size = w2.heap.size := (by omega); have m2_2 : ¬ w2.heap.size = w1.heap.size := (by omega); have k2_2 := fun o => hc2 (w1.heap.size) o (by omega); have f2_2 := fun o => hf2 (w1.heap.size) o (by omega); (try simp (disch := (first | rfl | omega | (simp only [sz_alloc, sz_drew, sz_set]; omega))) only [sz_alloc, sz_drew, sz_set, World.cell?_drew, World.frozen?_drew, World.cell?_alloc_at, World.cell?_alloc_past, World.frozen?_alloc_at, World.frozen?_alloc_past, hc1, hf1] at k2_2 f2_2)))
        rw [HB.out]
        go_wp2_with fail
        refine bodyPost_ret (v := .agg #[_, _, _, _, _]) (by simp [results, Try.results76, go_sem, k2_1] <;> (first | rfl | (repeat' (first | rfl | apply And.intro)))) rfl (retN_mk (readN_sub HF.out HR.out HM.out H1.out H2.out H3.out (by decide) rfl (by omega)) rfl rfl (by repeat (first | (with_reducible first | exact Below.refl _ _ | assumption | exact Nat.le_refl _ | refine Below.drew ?_ | refine Below.alloc ?_ ?_ _ | refine Below.setCell ?_ ?_ _ | refine le_alloc ?_ | refine le_set ?_ | refine le_drew ?_ | refine below_step (by assumption) ?_ ?_ | refine le_below (by assumption) ?_) | (dsimp only; omega))))
    · have hb2 : ((fd : Int) != 0) = true := by rw [bne_iff_ne]; omega
      have H2 := Lib.hid h2; clear h2
      go_wp2_with fail
      go_region_held3 (fun w' => w'.cell? ⟨w.heap.size, 0, none⟩ = some (.int .i64 8) ∧ w'.cell? ⟨w.heap.size, 1, none⟩ = some (.int .i64 23)) (go_keep)
        (first
          | (go_at_call 105; refine (most_c false _ _ (.inl ⟨rfl, rfl, rfl⟩) _).mono ?_; rintro e w2 ⟨rfl, hbb2⟩; obtain ⟨hc2, hf2⟩ := bcell hbb2; have hz2 := hbb2.size; (try simp only [sz_alloc, sz_drew, sz_set] at hz2 hc2 hf2); have l2_0 : w.heap.size < w2.heap.size := (by omega); have n2_0 : ¬ w.heap.size = w2.heap.size := (by omega); have m2_0 : ¬ w2.heap.size = w.heap.size := (by omega); have k2_0 := fun o => hc2 (w.heap.size) o (by omega); have f2_0 := fun o => hf2 (w.heap.size) o (by omega); (try simp (disch := (first | rfl | omega | (simp only [sz_alloc, sz_drew, sz_set]; omega))) only [sz_alloc, sz_drew, sz_set, World.cell?_drew, World.frozen?_drew, World.cell?_alloc_at, World.cell?_alloc_past, World.frozen?_alloc_at, World.frozen?_alloc_past, hc1, hf1] at k2_0 f2_0); have l2_1 : w.heap.size + 1 < w2.heap.size := (by omega); have n2_1 : ¬ w.heap.size + 1 = w2.heap.size := (by omega); have m2_1 : ¬ w2.heap.size = w.heap.size + 1 := (by omega); have k2_1 := fun o => hc2 (w.heap.size + 1) o (by omega); have f2_1 := fun o => hf2 (w.heap.size + 1) o (by omega); (try simp (disch := (first | rfl | omega | (simp only [sz_alloc, sz_drew, sz_set]; omega))) only [sz_alloc, sz_drew, sz_set, World.cell?_drew, World.frozen?_drew, World.cell?_alloc_at, World.cell?_alloc_past, World.frozen?_alloc_at, World.frozen?_alloc_past, hc1, hf1] at k2_1 f2_1); have l2_2 : w1.heap.size < w2.heap.size := (by omega); have n2_2 : ¬ w1.heap.size = w2.heap.size := (by omega); have m2_2 : ¬ w2.heap.size = w1.heap.size := (by omega); have k2_2 := fun o => hc2 (w1.heap.size) o (by omega); have f2_2 := fun o => hf2 (w1.heap.size) o (by omega); (try simp (disch := (first | rfl | omega | (simp only [sz_alloc, sz_drew, sz_set]; omega))) only [sz_alloc, sz_drew, sz_set, World.cell?_drew, World.frozen?_drew, World.cell?_alloc_at, World.cell?_alloc_past, World.frozen?_alloc_at, World.frozen?_alloc_past, hc1, hf1] at k2_2 f2_2)))
      rw [HB.out]
      go_wp2_with fail
      refine bodyPost_ret (v := .agg #[_, _, _, _, _]) (by simp [results, Try.results76, go_sem, k2_1] <;> (first | rfl | (repeat' (first | rfl | apply And.intro)))) rfl (retN_mk (readN_norm HF.out HR.out HM.out H1.out H2.out rfl rfl (by unfold fracT; simp only [if_true, Bool.false_eq_true, if_false]; omega)) rfl (or_frac fr 23 (by decide) hrl) (by repeat (first | (with_reducible first | exact Below.refl _ _ | assumption | exact Nat.le_refl _ | refine Below.drew ?_ | refine Below.alloc ?_ ?_ _ | refine Below.setCell ?_ ?_ _ | refine le_alloc ?_ | refine le_set ?_ | refine le_drew ?_ | refine below_step (by assumption) ?_ ?_ | refine le_below (by assumption) ?_) | (dsimp only; omega))))
theorem join_t (m : Bool) (top : Int) (k : Nat) (h0 : 1 - 1023 ≤ top) (h1 : top ≤ 1023) (hk : k ≤ 9007199254740992) (hs : Hid ((top + (1023 - 1)).toNat * 4503599627370496 + k < 9223372036854775808)) (w : World) :
    Calls Try.prog 121 #[.agg #[.int .i64 11, .int .i64 52], .bool m, .int .i64 top, .int .u64 k] w (RetU (noughtV true m + ((top + (1023 - 1)).toNat * 4503599627370496 + k)) w) := by
  have hB : bias true = 1023 := rfl
  have HK := Lib.hid hk; have HB := Lib.hid hB; clear hk hB
  go_enter Try.func121, Try.ntmps121
  go_wp2_with fail
  refine (most_c true _ _ (.inr ⟨rfl, rfl, rfl⟩) _).mono ?_; rintro e w1 ⟨rfl, hb1⟩; obtain ⟨hc1, hf1⟩ := bcell hb1; have hz1 := hb1.size; (try simp only [sz_alloc, sz_drew, sz_set] at hz1 hc1 hf1); have l1_0 : w.heap.size < w1.heap.size := (by omega); have n1_0 : ¬ w.heap.size = w1.heap.size := (by omega); have m1_0 : ¬ w1.heap.size = w.heap.size := (by omega); have k1_0 := fun o => hc1 (w.heap.size) o (by omega); have f1_0 := fun o => hf1 (w.heap.size) o (by omega); (try simp (disch := (first | rfl | omega | (simp only [sz_alloc, sz_drew, sz_set]; omega))) only [sz_alloc, sz_drew, sz_set, World.cell?_drew, World.frozen?_drew, World.cell?_alloc_at, World.cell?_alloc_past, World.frozen?_alloc_at, World.frozen?_alloc_past] at k1_0 f1_0)
  rw [HB.out]
  go_wp2_with fail
  go_region_held3 (fun w' => w'.cell? ⟨w.heap.size, 0, none⟩ = some (.int .i64 11) ∧ w'.cell? ⟨w.heap.size, 1, none⟩ = some (.int .i64 52)) (go_keep)
    (first
      | (go_at_call 102; refine (nought_c true _ _ (.inr ⟨rfl, rfl, rfl⟩) _ _).mono ?_; rintro e w2 ⟨rfl, hb2⟩; obtain ⟨hc2, hf2⟩ := bcell hb2; have hz2 := hb2.size; (try simp only [sz_alloc, sz_drew, sz_set] at hz2 hc2 hf2); have l2_0 : w.heap.size < w2.heap.size := (by omega); have n2_0 : ¬ w.heap.size = w2.heap.size := (by omega); have m2_0 : ¬ w2.heap.size = w.heap.size := (by omega); have k2_0 := fun o => hc2 (w.heap.size) o (by omega); have f2_0 := fun o => hf2 (w.heap.size) o (by omega); (try simp (disch := (first | rfl | omega | (simp only [sz_alloc, sz_drew, sz_set]; omega))) only [sz_alloc, sz_drew, sz_set, World.cell?_drew, World.frozen?_drew, World.cell?_alloc_at, World.cell?_alloc_past, World.frozen?_alloc_at, World.frozen?_alloc_past] at k2_0 f2_0)))
  all_goals go_wp2
  all_goals go_ret
  all_goals refine retU_mk ?_ (by repeat (first | (with_reducible first | exact Below.refl _ _ | assumption | exact Nat.le_refl _ | refine Below.drew ?_ | refine Below.alloc ?_ ?_ _ | refine Below.setCell ?_ ?_ _ | refine le_alloc ?_ | refine le_set ?_ | refine le_drew ?_ | refine below_step (by assumption) ?_ ?_ | refine le_below (by assumption) ?_) | (dsimp only; omega)))
  all_goals
    have HS := hs.out
    have hk := HK.out
    obtain ⟨t, ht⟩ : ∃ t : Nat, top + 1023 - 1 = t := ⟨(top + 1023 - 1).toNat, by omega⟩
    have e1 : (top + (1023 - 1)).toNat = t := by omega
    rw [e1] at HS ⊢
    rw [ht]
    exact join_num _ t k 4503599627370496 63 (by decide) (by cases m; exact .inl rfl; exact .inr rfl) HS
set_option maxHeartbeats 4000000 in
theorem read_t (a : Nat) (ha : Hid (a < 18446744073709551616)) (w : World) :
    Calls Try.prog 76 #[.agg #[.int .i64 11, .int .i64 52], .int .u64 a] w (RetN (readN true a) w) := by
  have hB : bias true = 1023 := rfl
  have hS : signB true = 9223372036854775808 := rfl
  have HB := Lib.hid hB; have HSG := Lib.hid hS; clear hB hS
  have e1 : bits .and .u64 ((a : Int) / 4503599627370496) 2047 = ((a / 4503599627370496 % 2048 : Nat) : Int) := by
    rw [show (a : Int) / 4503599627370496 = ((a / 4503599627370496 : Nat) : Int) by omega]
    exact and_mask (a / 4503599627370496) 11 (by have := ha.out; omega) (by decide)
  have e2 : bits .and .u64 (a : Int) 4503599627370495 = ((a % 4503599627370496 : Nat) : Int) := and_mask a 52 ha.out (by decide)
  have E1 := Lib.hid e1; have E2 := Lib.hid e2; clear e1 e2
  go_enter Try.func76, Try.ntmps76
  go_wp2_with fail
  go_region
  go_wp2_with fail
  rw [E1.out, E2.out, wrap64_nat _ (by have : a / 4503599627370496 % 2048 < 2048 := Nat.mod_lt _ (by decide); omega)]
  have hfl : a / 4503599627370496 % 2048 < 2048 := Nat.mod_lt _ (by decide)
  have hrl : a % 4503599627370496 < 4503599627370496 := Nat.mod_lt _ (by decide)
  revert hfl hrl
  generalize hF : a / 4503599627370496 % 2048 = fd
  generalize hR : a % 4503599627370496 = fr
  intro hfl hrl
  have HF := Lib.hid hF; have HR := Lib.hid hR; clear hF hR
  refine (sign_c true _ _ (.inr ⟨rfl, rfl, rfl⟩) _).mono ?_; rintro e w1 ⟨rfl, hb1⟩; obtain ⟨hc1, hf1⟩ := bcell hb1; have hz1 := hb1.size; (try simp only [sz_alloc, sz_drew, sz_set] at hz1 hc1 hf1); have l1_0 : w.heap.size < w1.heap.size := (by omega); have n1_0 : ¬ w.heap.size = w1.heap.size := (by omega); have m1_0 : ¬ w1.heap.size = w.heap.size := (by omega); have k1_0 := fun o => hc1 (w.heap.size) o (by omega); have f1_0 := fun o => hf1 (w.heap.size) o (by omega); (try simp (disch := (first | rfl | omega | (simp only [sz_alloc, sz_drew, sz_set]; omega))) only [sz_alloc, sz_drew, sz_set, World.cell?_drew, World.frozen?_drew, World.cell?_alloc_at, World.cell?_alloc_past, World.frozen?_alloc_at, World.frozen?_alloc_past] at k1_0 f1_0); have l1_1 : w.heap.size + 1 < w1.heap.size := (by omega); have n1_1 : ¬ w.heap.size + 1 = w1.heap.size := (by omega); have m1_1 : ¬ w1.heap.size = w.heap.size + 1 := (by omega); have k1_1 := fun o => hc1 (w.heap.size + 1) o (by omega); have f1_1 := fun o => hf1 (w.heap.size + 1) o (by omega); (try simp (disch := (first | rfl | omega | (simp only [sz_alloc, sz_drew, sz_set]; omega))) only [sz_alloc, sz_drew, sz_set, World.cell?_drew, World.frozen?_drew, World.cell?_alloc_at, World.cell?_alloc_past, World.frozen?_alloc_at, World.frozen?_alloc_past] at k1_1 f1_1)
  rw [HSG.out]
  have HM : Hid ((bits BinOp.and IntKind.u64 (a : Int) 9223372036854775808 != 0) = decide (a / signB true % 2 = 1)) := and_bit a 63 ha.out (by decide)
  by_cases h1 : fd = 2047
  · have hb1 : ((fd : Int) == 2047) = true := by simp [h1]
    have H1 := Lib.hid h1; clear h1
    go_wp2_with fail
    refine (classAtEnd_c true _ _ (.inr ⟨rfl, rfl, rfl⟩) _ _).mono ?_; rintro e w2 ⟨rfl, hb2⟩; obtain ⟨hc2, hf2⟩ := bcell hb2; have hz2 := hb2.size; (try simp only [sz_alloc, sz_drew, sz_set] at hz2 hc2 hf2); have l2_0 : w.heap.size < w2.heap.size := (by omega); have n2_0 : ¬ w.heap.size = w2.heap.size := (by omega); have m2_0 : ¬ w2.heap.size = w.heap.size := (by omega); have k2_0 := fun o => hc2 (w.heap.size) o (by omega); have f2_0 := fun o => hf2 (w.heap.size) o (by omega); (try simp (disch := (first | rfl | omega | (simp only [sz_alloc, sz_drew, sz_set]; omega))) only [sz_alloc, sz_drew, sz_set, World.cell?_drew, World.frozen?_drew, World.cell?_alloc_at, World.cell?_alloc_past, World.frozen?_alloc_at, World.frozen?_alloc_past, hc1, hf1] at k2_0 f2_0); have l2_1 : w.heap.size + 1 < w2.heap.size := (by omega); have n2_1 : ¬ w.heap.size + 1 = w2.heap.size := (by omega); have m2_1 : ¬ w2.heap.size = w.heap.size + 1 := (by omega); have k2_1 := fun o => hc2 (w.heap.size + 1) o (by omega); have f2_1 := fun o => hf2 (w.heap.size + 1) o (by omega); (try simp (disch := (first | rfl | omega | (simp only [sz_alloc, sz_drew, sz_set]; omega))) only [sz_alloc, sz_drew, sz_set, World.cell?_drew, World.frozen?_drew, World.cell?_alloc_at, World.cell?_alloc_past, World.frozen?_alloc_at, World.frozen?_alloc_past, hc1, hf1] at k2_1 f2_1); have l2_2 : w1.heap.size < w2.heap.size := (by omega); have n2_2 : ¬ w1.heap.size = w2.heap.size := (by omega); have m2_2 : ¬ w2.heap.size = w1.heap.size := (by omega); have k2_2 := fun o => hc2 (w1.heap.size) o (by omega); have f2_2 := fun o => hf2 (w1.heap.size) o (by omega); (try simp (disch := (first | rfl | omega | (simp only [sz_alloc, sz_drew, sz_set]; omega))) only [sz_alloc, sz_drew, sz_set, World.cell?_drew, World.frozen?_drew, World.cell?_alloc_at, World.cell?_alloc_past, World.frozen?_alloc_at, World.frozen?_alloc_past, hc1, hf1] at k2_2 f2_2)
    go_wp2_with fail
    refine bodyPost_ret (v := .agg #[_, _, _, _, _]) (by simp [results, Try.results76, go_sem, k2_1] <;> (first | rfl | (repeat' (first | rfl | apply And.intro)))) rfl (retN_mk (readN_end HF.out HR.out HM.out H1.out) rfl rfl (by repeat (first | (with_reducible first | exact Below.refl _ _ | assumption | exact Nat.le_refl _ | refine Below.drew ?_ | refine Below.alloc ?_ ?_ _ | refine Below.setCell ?_ ?_ _ | refine le_alloc ?_ | refine le_set ?_ | refine le_drew ?_ | refine below_step (by assumption) ?_ ?_ | refine le_below (by assumption) ?_) | (dsimp only; omega))))
  · have hb1 : ((fd : Int) == 2047) = false := by rw [beq_eq_false_iff_ne]; omega
    have H1 := Lib.hid h1; clear h1
    by_cases h2 : fd = 0
    · have hb2 : ((fd : Int) != 0) = false := by simp [h2]
      have H2 := Lib.hid h2; clear h2
      by_cases h3 : fr = 0
      · have hb3 : ((fr : Int) != 0) = false := by simp [h3]
        have H3 := Lib.hid h3; clear h3
        go_wp2_with fail
        refine bodyPost_ret (v := .agg #[_, _, _, _, _]) (by simp [results, Try.results76, go_sem, k1_1, l1_1, n1_1, sz_set] <;> (first | rfl | (repeat' (first | rfl | apply And.intro)))) rfl (retN_mk (readN_zero HF.out HR.out HM.out H1.out H2.out H3.out) rfl rfl (by repeat (first | (with_reducible first | exact Below.refl _ _ | assumption | exact Nat.le_refl _ | refine Below.drew ?_ | refine Below.alloc ?_ ?_ _ | refine Below.setCell ?_ ?_ _ | refine le_alloc ?_ | refine le_set ?_ | refine le_drew ?_ | refine below_step (by assumption) ?_ ?_ | refine le_below (by assumption) ?_) | (dsimp only; omega))))
      · have hb3 : ((fr : Int) != 0) = true := by rw [bne_iff_ne]; omega
        have H3 := Lib.hid h3; clear h3
        go_wp2_with fail
        go_region_held3 (fun w' => w'.cell? ⟨w.heap.size, 0, none⟩ = some (.int .i64 11) ∧ w'.cell? ⟨w.heap.size, 1, none⟩ = some (.int .i64 52)) (go_keep)
          (first
            | (go_at_call 106; refine (least_c true _ _ (.inr ⟨rfl, rfl, rfl⟩) _).mono ?_; rintro e w2 ⟨rfl, hbb2⟩; obtain ⟨hc2, hf2⟩ := bcell hbb2; have hz2 := hbb2.size; (try simp only [sz_alloc, sz_drew, sz_set] at hz2 hc2 hf2); have l2_0 : w.heap.size < w2.heap.size := (by omega); have n2_0 : ¬ w.heap.size = w2.heap.size := (by omega); have m2_0 : ¬ w2.heap.size = w.heap.size := (by omega); have k2_0 := fun o => hc2 (w.heap.size) o (by omega); have f2_0 := fun o => hf2 (w.heap.size) o (by omega); (try simp (disch := (first | rfl | omega | (simp only [sz_alloc, sz_drew, sz_set]; omega))) only [sz_alloc, sz_drew, sz_set, World.cell?_drew, World.frozen?_drew, World.cell?_alloc_at, World.cell?_alloc_past, World.frozen?_alloc_at, World.frozen?_alloc_past, hc1, hf1] at k2_0 f2_0); have l2_1 : w.heap.size + 1 < w2.heap.size := (by omega); have n2_1 : ¬ w.heap.size + 1 = w2.heap.size := (by omega); have m2_1 : ¬ w2.heap.size = w.heap.size + 1 := (by omega); have k2_1 := fun o => hc2 (w.heap.size + 1) o (by omega); have f2_1 := fun o => hf2 (w.heap.size + 1) o (by omega); (try simp (disch := (first | rfl | omega | (simp only [sz_alloc, sz_drew, sz_set]; omega))) only [sz_alloc, sz_drew, sz_set, World.cell?_drew, World.frozen?_drew, World.cell?_alloc_at, World.cell?_alloc_past, World.frozen?_alloc_at, World.frozen?_alloc_past, hc1, hf1] at k2_1 f2_1); have l2_2 : w1.heap.size < w2.heap.size := (by omega); have n2_2 : ¬ w1.heap.size = w2.heap.size := (by omega); have m2_2 : ¬ w2.heap.size = w1.heap.size := (by omega); have k2_2 := fun o => hc2 (w1.heap.size) o (by omega); have f2_2 := fun o => hf2 (w1.heap.size) o (by omega); (try simp (disch := (first | rfl | omega | (simp only [sz_alloc, sz_drew, sz_set]; omega))) only [sz_alloc, sz_drew, sz_set, World.cell?_drew, World.frozen?_drew, World.cell?_alloc_at, World.cell?_alloc_past, World.frozen?_alloc_at, World.frozen?_alloc_past, hc1, hf1] at k2_2 f2_2)))
        rw [HB.out]
        go_wp2_with fail
        refine bodyPost_ret (v := .agg #[_, _, _, _, _]) (by simp [results, Try.results76, go_sem, k2_1] <;> (first | rfl | (repeat' (first | rfl | apply And.intro)))) rfl (retN_mk (readN_sub HF.out HR.out HM.out H1.out H2.out H3.out (by decide) rfl (by omega)) rfl rfl (by repeat (first | (with_reducible first | exact Below.refl _ _ | assumption | exact Nat.le_refl _ | refine Below.drew ?_ | refine Below.alloc ?_ ?_ _ | refine Below.setCell ?_ ?_ _ | refine le_alloc ?_ | refine le_set ?_ | refine le_drew ?_ | refine below_step (by assumption) ?_ ?_ | refine le_below (by assumption) ?_) | (dsimp only; omega))))
    · have hb2 : ((fd : Int) != 0) = true := by rw [bne_iff_ne]; omega
      have H2 := Lib.hid h2; clear h2
      go_wp2_with fail
      go_region_held3 (fun w' => w'.cell? ⟨w.heap.size, 0, none⟩ = some (.int .i64 11) ∧ w'.cell? ⟨w.heap.size, 1, none⟩ = some (.int .i64 52)) (go_keep)
        (first
          | (go_at_call 105; refine (most_c true _ _ (.inr ⟨rfl, rfl, rfl⟩) _).mono ?_; rintro e w2 ⟨rfl, hbb2⟩; obtain ⟨hc2, hf2⟩ := bcell hbb2; have hz2 := hbb2.size; (try simp only [sz_alloc, sz_drew, sz_set] at hz2 hc2 hf2); have l2_0 : w.heap.size < w2.heap.size := (by omega); have n2_0 : ¬ w.heap.size = w2.heap.size := (by omega); have m2_0 : ¬ w2.heap.size = w.heap.size := (by omega); have k2_0 := fun o => hc2 (w.heap.size) o (by omega); have f2_0 := fun o => hf2 (w.heap.size) o (by omega); (try simp (disch := (first | rfl | omega | (simp only [sz_alloc, sz_drew, sz_set]; omega))) only [sz_alloc, sz_drew, sz_set, World.cell?_drew, World.frozen?_drew, World.cell?_alloc_at, World.cell?_alloc_past, World.frozen?_alloc_at, World.frozen?_alloc_past, hc1, hf1] at k2_0 f2_0); have l2_1 : w.heap.size + 1 < w2.heap.size := (by omega); have n2_1 : ¬ w.heap.size + 1 = w2.heap.size := (by omega); have m2_1 : ¬ w2.heap.size = w.heap.size + 1 := (by omega); have k2_1 := fun o => hc2 (w.heap.size + 1) o (by omega); have f2_1 := fun o => hf2 (w.heap.size + 1) o (by omega); (try simp (disch := (first | rfl | omega | (simp only [sz_alloc, sz_drew, sz_set]; omega))) only [sz_alloc, sz_drew, sz_set, World.cell?_drew, World.frozen?_drew, World.cell?_alloc_at, World.cell?_alloc_past, World.frozen?_alloc_at, World.frozen?_alloc_past, hc1, hf1] at k2_1 f2_1); have l2_2 : w1.heap.size < w2.heap.size := (by omega); have n2_2 : ¬ w1.heap.size = w2.heap.size := (by omega); have m2_2 : ¬ w2.heap.size = w1.heap.size := (by omega); have k2_2 := fun o => hc2 (w1.heap.size) o (by omega); have f2_2 := fun o => hf2 (w1.heap.size) o (by omega); (try simp (disch := (first | rfl | omega | (simp only [sz_alloc, sz_drew, sz_set]; omega))) only [sz_alloc, sz_drew, sz_set, World.cell?_drew, World.frozen?_drew, World.cell?_alloc_at, World.cell?_alloc_past, World.frozen?_alloc_at, World.frozen?_alloc_past, hc1, hf1] at k2_2 f2_2)))
      rw [HB.out]
      go_wp2_with fail
      refine bodyPost_ret (v := .agg #[_, _, _, _, _]) (by simp [results, Try.results76, go_sem, k2_1] <;> (first | rfl | (repeat' (first | rfl | apply And.intro)))) rfl (retN_mk (readN_norm HF.out HR.out HM.out H1.out H2.out rfl rfl (by unfold fracT; simp only [if_true, Bool.false_eq_true, if_false]; omega)) rfl (or_frac fr 52 (by decide) hrl) (by repeat (first | (with_reducible first | exact Below.refl _ _ | assumption | exact Nat.le_refl _ | refine Below.drew ?_ | refine Below.alloc ?_ ?_ _ | refine Below.setCell ?_ ?_ _ | refine le_alloc ?_ | refine le_set ?_ | refine le_drew ?_ | refine below_step (by assumption) ?_ ?_ | refine le_below (by assumption) ?_) | (dsimp only; omega))))
theorem raised_c (c : Int) (m : Bool) (x : Int) (h l : Nat) (N : Num) (p : Int) (hN : Hid (IsN c m x h l N)) (hp0 : 0 ≤ p) (hp : p ≤ 127) (hy : (blen N.mag : Int) ≤ p + 1)
    (hx0 : -1000000 ≤ x) (hx1 : x ≤ 1000000) (w : World) :
    Calls Try.prog 113 #[.agg #[.int .i64 c, .bool m, .int .i64 x, .int .u64 h, .int .u64 l], .int .i64 p] w (RetN (raisedN N p.toNat) w) := by
  obtain ⟨p, rfl⟩ := Int.eq_ofNat_of_zero_le hp0
  rw [Int.toNat_natCast]
  have hp' : p ≤ 127 := by omega
  have hy' : blen N.mag ≤ p + 1 := by omega
  clear hp0 hp hy
  have hx : Hid (IsW h l N.mag) := hN.out.2.2.2
  go_enter Try.func113, Try.ntmps113
  go_wp2_with fail
  refine (leadingNoughts_c _ _ _ hx _).mono ?_
  rintro e w1 ⟨rfl, hb1⟩
  obtain ⟨hc1, hf1⟩ := bcell hb1; have hz1 := hb1.size; (try simp only [sz_alloc, sz_drew, sz_set] at hz1 hc1 hf1); have l1_0 : w.heap.size < w1.heap.size := (by omega); have n1_0 : ¬ w.heap.size = w1.heap.size := (by omega); have m1_0 : ¬ w1.heap.size = w.heap.size := (by omega); have k1_0 := fun o => hc1 (w.heap.size) o (by omega); have f1_0 := fun o => hf1 (w.heap.size) o (by omega); (try simp (disch := (first | rfl | omega | (simp only [sz_alloc, sz_drew, sz_set]; omega))) only [sz_alloc, sz_drew, sz_set, World.cell?_drew, World.frozen?_drew, World.cell?_alloc_at, World.cell?_alloc_past, World.frozen?_alloc_at, World.frozen?_alloc_past] at k1_0 f1_0); have l1_1 : w.heap.size + 1 < w1.heap.size := (by omega); have n1_1 : ¬ w.heap.size + 1 = w1.heap.size := (by omega); have m1_1 : ¬ w1.heap.size = w.heap.size + 1 := (by omega); have k1_1 := fun o => hc1 (w.heap.size + 1) o (by omega); have f1_1 := fun o => hf1 (w.heap.size + 1) o (by omega); (try simp (disch := (first | rfl | omega | (simp only [sz_alloc, sz_drew, sz_set]; omega))) only [sz_alloc, sz_drew, sz_set, World.cell?_drew, World.frozen?_drew, World.cell?_alloc_at, World.cell?_alloc_past, World.frozen?_alloc_at, World.frozen?_alloc_past] at k1_1 f1_1)
  go_wp2_with fail
  refine (left_c _ _ _ _ hx (by omega) (by omega) _).mono ?_
  rintro e w2 ⟨h2, l2, rfl, hI2, hb2⟩
  obtain ⟨hc2, hf2⟩ := bcell hb2; have hz2 := hb2.size; (try simp only [sz_alloc, sz_drew, sz_set] at hz2 hc2 hf2); have l2_0 : w.heap.size < w2.heap.size := (by omega); have n2_0 : ¬ w.heap.size = w2.heap.size := (by omega); have m2_0 : ¬ w2.heap.size = w.heap.size := (by omega); have k2_0 := fun o => hc2 (w.heap.size) o (by omega); have f2_0 := fun o => hf2 (w.heap.size) o (by omega); (try simp (disch := (first | rfl | omega | (simp only [sz_alloc, sz_drew, sz_set]; omega))) only [sz_alloc, sz_drew, sz_set, World.cell?_drew, World.frozen?_drew, World.cell?_alloc_at, World.cell?_alloc_past, World.frozen?_alloc_at, World.frozen?_alloc_past, hc1, hf1] at k2_0 f2_0); have l2_1 : w.heap.size + 1 < w2.heap.size := (by omega); have n2_1 : ¬ w.heap.size + 1 = w2.heap.size := (by omega); have m2_1 : ¬ w2.heap.size = w.heap.size + 1 := (by omega); have k2_1 := fun o => hc2 (w.heap.size + 1) o (by omega); have f2_1 := fun o => hf2 (w.heap.size + 1) o (by omega); (try simp (disch := (first | rfl | omega | (simp only [sz_alloc, sz_drew, sz_set]; omega))) only [sz_alloc, sz_drew, sz_set, World.cell?_drew, World.frozen?_drew, World.cell?_alloc_at, World.cell?_alloc_past, World.frozen?_alloc_at, World.frozen?_alloc_past, hc1, hf1] at k2_1 f2_1)
  go_wp2_with fail
  go_outline
  refine bodyPost_ret (v := .agg #[_, _, _, _, _]) (by simp [results, Try.results113, go_sem, k2_1, l2_1, n2_1, sz_set] <;> (first | rfl | (repeat' (first | rfl | apply And.intro)))) rfl (retN_mk ?_ rfl rfl (by repeat (first | (with_reducible first | exact Below.refl _ _ | assumption | exact Nat.le_refl _ | refine Below.drew ?_ | refine Below.alloc ?_ ?_ _ | refine Below.setCell ?_ ?_ _ | refine le_alloc ?_ | refine le_set ?_ | refine le_drew ?_ | refine below_step (by assumption) ?_ ?_ | refine le_below (by assumption) ?_) | (dsimp only; omega))))
  obtain ⟨hc, hm, hx, hI⟩ := hN.out
  refine ⟨hc, hm, ?_, ?_⟩
  · rw [hx]; unfold raisedN; simp only; omega
  · have e : (128 - (blen N.mag : Int) - (127 - (p : Int))).toNat = p + 1 - blen N.mag := by omega
    have := hI2.out
    rw [e] at this
    exact this
theorem noughtAndInfinity_c (c : Int) (m : Bool) (x : Int) (h l : Nat) (c' : Int) (m' : Bool) (x' : Int) (h' l' : Nat) (w : World) :
    Calls Try.prog 78 #[.agg #[.int .i64 c, .bool m, .int .i64 x, .int .u64 h, .int .u64 l], .agg #[.int .i64 c', .bool m', .int .i64 x', .int .u64 h', .int .u64 l']] w (RetB (decide (c = 0 ∧ c' = 2 ∨ c = 2 ∧ c' = 0)) w) := by
  go_enter Try.func78, Try.ntmps78
  go_wp2
  all_goals go_ret
  all_goals refine retB_mk ?_ (by repeat (first | (with_reducible first | exact Below.refl _ _ | assumption | exact Nat.le_refl _ | refine Below.drew ?_ | refine Below.alloc ?_ ?_ _ | refine Below.setCell ?_ ?_ _ | refine le_alloc ?_ | refine le_set ?_ | refine le_drew ?_ | refine below_step (by assumption) ?_ ?_ | refine le_below (by assumption) ?_) | (dsimp only; omega)))
  all_goals (rw [Bool.eq_iff_iff]; simp only [beq_iff_eq, decide_eq_true_eq, Bool.false_eq_true, true_iff, false_iff]; omega)
def flagV (c1 c2 : Int) : Int := if c1 = 4 ∨ c2 = 4 then 16 else 0
def someV (c1 c2 : Int) : Bool := decide (c1 = 4 ∨ c1 = 3 ∨ c2 = 4 ∨ c2 = 3)
def RetF (c1 c2 : Int) (W : World) (e : Ending) (w' : World) : Prop := e = .returned (.tuple #[.int .i64 (flagV c1 c2), .bool (someV c1 c2)]) ∧ Below W.heap.size W w'
theorem retF_mk {c1 c2 n : Int} {b : Bool} {W w' : World} (hn : n = flagV c1 c2) (hb : b = someV c1 c2) (h : Below W.heap.size W w') : RetF c1 c2 W (.returned (.tuple #[.int .i64 n, .bool b])) w' := ⟨by rw [hn, hb], h⟩
theorem noNumbers_1 (c : Int) (m : Bool) (x : Int) (h l : Nat) (w : World) (a : Nat) (ha : a < w.heap.size) (h0 : ∀ o, w.cell? ⟨a, o, none⟩ = (#[.int .i64 c, .bool m, .int .i64 x, .int .u64 h, .int .u64 l] : Array Value)[o]?) :
    Calls Try.prog 81 #[.slice (some ⟨a, 0, none⟩) 1 1] w (RetF c 0 w) := by
  go_enter Try.func81, Try.ntmps81
  go_wp2
  refine wp_loop_rounds 2 ?_
  rw [rounds_succ]
  go_wp2
  all_goals rw [rounds_succ]
  all_goals go_wp2
  all_goals go_ret2
  all_goals refine retF_mk ?_ ?_ (by repeat (first | (with_reducible first | exact Below.refl _ _ | assumption | exact Nat.le_refl _ | refine Below.drew ?_ | refine Below.alloc ?_ ?_ _ | refine Below.setCell ?_ ?_ _ | refine le_alloc ?_ | refine le_set ?_ | refine le_drew ?_ | refine below_step (by assumption) ?_ ?_ | refine le_below (by assumption) ?_) | (dsimp only; omega)))
  all_goals (try unfold flagV)
  all_goals (try unfold someV)
  all_goals (first | rfl | (simp_all; done) | (simp at *; omega))
set_option maxHeartbeats 1000000 in
theorem noNumbers_2 (c : Int) (m : Bool) (x : Int) (h l : Nat) (c' : Int) (m' : Bool) (x' : Int) (h' l' : Nat) (w : World) (a : Nat) (ha : a < w.heap.size) (h0 : ∀ o, w.cell? ⟨a, o, none⟩ = (#[.int .i64 c, .bool m, .int .i64 x, .int .u64 h, .int .u64 l, .int .i64 c', .bool m', .int .i64 x', .int .u64 h', .int .u64 l'] : Array Value)[o]?) :
    Calls Try.prog 81 #[.slice (some ⟨a, 0, none⟩) 2 2] w (RetF c c' w) := by
  go_enter Try.func81, Try.ntmps81
  go_wp2
  refine wp_loop_rounds 3 ?_
  rw [rounds_succ]
  go_wp2
  all_goals rw [rounds_succ]
  all_goals go_wp2
  all_goals rw [rounds_succ]
  all_goals go_wp2
  all_goals go_ret2
  all_goals refine retF_mk ?_ ?_ (by repeat (first | (with_reducible first | exact Below.refl _ _ | assumption | exact Nat.le_refl _ | refine Below.drew ?_ | refine Below.alloc ?_ ?_ _ | refine Below.setCell ?_ ?_ _ | refine le_alloc ?_ | refine le_set ?_ | refine le_drew ?_ | refine below_step (by assumption) ?_ ?_ | refine le_below (by assumption) ?_) | (dsimp only; omega)))
  all_goals (try unfold flagV)
  all_goals (try unfold someV)
  all_goals (first | rfl | (simp_all; done) | (simp at *; omega))
/-- The product of two numbers, as the code has it. -/
def productN (M N : Num) : Num :=
  if 2 ≤ M.cls ∨ 2 ≤ N.cls then ⟨max M.cls N.cls, M.minus != N.minus, 0, 0⟩
  else if M.cls = 1 ∧ N.cls = 1 then ⟨1, M.minus != N.minus, M.exp + N.exp, M.mag * N.mag⟩
  else ⟨0, M.minus != N.minus, 0, 0⟩
theorem productN_one {m : Bool} {x : Int} {h l : Nat} {M : Num} (hM : IsN 1 m x h l M) {m' : Bool} {x' : Int} {h' l' : Nat} {N : Num} (hN : IsN 1 m' x' h' l' N)
    (s1 : M.mag < 18446744073709551616) (s2 : N.mag < 18446744073709551616) {h1 l1 : Nat} (hI : IsW h1 l1 (l * l')) : IsN 1 (!(m == m')) (x + x') h1 l1 (productN M N) := by
  obtain ⟨a, b, c, d⟩ := hM; obtain ⟨a', b', c', d'⟩ := hN
  rw [d.low s1, d'.low s2] at hI
  unfold productN
  rw [if_neg (by omega), if_pos (by omega)]
  exact ⟨rfl, by rw [b, b']; rfl, by rw [c, c'], hI⟩
theorem productN_max {c : Int} {m : Bool} {x : Int} {h l : Nat} {M : Num} (hM : IsN c m x h l M) {c' : Int} {m' : Bool} {x' : Int} {h' l' : Nat} {N : Num} (hN : IsN c' m' x' h' l' N)
    (h : 2 ≤ c ∨ 2 ≤ c') : IsN (max c c') (!(m == m')) 0 0 0 (productN M N) := by
  obtain ⟨a, b, -, -⟩ := hM; obtain ⟨a', b', -, -⟩ := hN
  unfold productN
  rw [if_pos (by omega)]
  exact ⟨by simp only; omega, by rw [b, b']; rfl, rfl, by decide, by decide, rfl⟩
theorem productN_zero {c : Int} {m : Bool} {x : Int} {h l : Nat} {M : Num} (hM : IsN c m x h l M) {c' : Int} {m' : Bool} {x' : Int} {h' l' : Nat} {N : Num} (hN : IsN c' m' x' h' l' N)
    (h1 : ¬ (c = 1 ∧ c' = 1)) (h2 : ¬ 2 ≤ c) (h3 : ¬ 2 ≤ c') : IsN 0 (!(m == m')) 0 0 0 (productN M N) := by
  obtain ⟨a, b, -, -⟩ := hM; obtain ⟨a', b', -, -⟩ := hN
  unfold productN
  rw [if_neg (by omega), if_neg (by omega)]
  exact ⟨rfl, by rw [b, b']; rfl, rfl, by decide, by decide, rfl⟩
theorem product_c (c : Int) (m : Bool) (x : Int) (h l : Nat) (M : Num) (hM : Hid (IsN c m x h l M)) (c' : Int) (m' : Bool) (x' : Int) (h' l' : Nat) (N : Num) (hN : Hid (IsN c' m' x' h' l' N))
    (s1 : Hid (M.mag < 18446744073709551616)) (s2 : Hid (N.mag < 18446744073709551616)) (a1 : -100000 ≤ x) (a2 : x ≤ 100000) (b1 : -100000 ≤ x') (b2 : x' ≤ 100000) (w : World) :
    Calls Try.prog 80 #[.agg #[.int .i64 c, .bool m, .int .i64 x, .int .u64 h, .int .u64 l], .agg #[.int .i64 c', .bool m', .int .i64 x', .int .u64 h', .int .u64 l']] w (RetN (productN M N) w) := by
  by_cases h1 : c = 1 ∧ c' = 1
  · obtain ⟨rfl, rfl⟩ := h1
    go_enter Try.func80, Try.ntmps80
    go_wp2_with fail
    refine (multiply_c l l' (hM.out.2.2.2.2.1) (hN.out.2.2.2.2.1) _).mono ?_
    rintro e w1 ⟨h1, l1, rfl, hI1, hb1⟩
    obtain ⟨hc1, hf1⟩ := bcell hb1; have hz1 := hb1.size; (try simp only [sz_alloc, sz_drew, sz_set] at hz1 hc1 hf1); have l1_0 : w.heap.size < w1.heap.size := (by omega); have n1_0 : ¬ w.heap.size = w1.heap.size := (by omega); have m1_0 : ¬ w1.heap.size = w.heap.size := (by omega); have k1_0 := fun o => hc1 (w.heap.size) o (by omega); have f1_0 := fun o => hf1 (w.heap.size) o (by omega); (try simp (disch := (first | rfl | omega | (simp only [sz_alloc, sz_drew, sz_set]; omega))) only [sz_alloc, sz_drew, sz_set, World.cell?_drew, World.frozen?_drew, World.cell?_alloc_at, World.cell?_alloc_past, World.frozen?_alloc_at, World.frozen?_alloc_past] at k1_0 f1_0); have l1_1 : w.heap.size + 1 < w1.heap.size := (by omega); have n1_1 : ¬ w.heap.size + 1 = w1.heap.size := (by omega); have m1_1 : ¬ w1.heap.size = w.heap.size + 1 := (by omega); have k1_1 := fun o => hc1 (w.heap.size + 1) o (by omega); have f1_1 := fun o => hf1 (w.heap.size + 1) o (by omega); (try simp (disch := (first | rfl | omega | (simp only [sz_alloc, sz_drew, sz_set]; omega))) only [sz_alloc, sz_drew, sz_set, World.cell?_drew, World.frozen?_drew, World.cell?_alloc_at, World.cell?_alloc_past, World.frozen?_alloc_at, World.frozen?_alloc_past] at k1_1 f1_1); have l1_2 : w.heap.size + 1 + 1 < w1.heap.size := (by omega); have n1_2 : ¬ w.heap.size + 1 + 1 = w1.heap.size := (by omega); have m1_2 : ¬ w1.heap.size = w.heap.size + 1 + 1 := (by omega); have k1_2 := fun o => hc1 (w.heap.size + 1 + 1) o (by omega); have f1_2 := fun o => hf1 (w.heap.size + 1 + 1) o (by omega); (try simp (disch := (first | rfl | omega | (simp only [sz_alloc, sz_drew, sz_set]; omega))) only [sz_alloc, sz_drew, sz_set, World.cell?_drew, World.frozen?_drew, World.cell?_alloc_at, World.cell?_alloc_past, World.frozen?_alloc_at, World.frozen?_alloc_past] at k1_2 f1_2); have l1_3 : w.heap.size + 1 + 1 + 1 < w1.heap.size := (by omega); have n1_3 : ¬ w.heap.size + 1 + 1 + 1 = w1.heap.size := (by omega); have m1_3 : ¬ w1.heap.size = w.heap.size + 1 + 1 + 1 := (by omega); have k1_3 := fun o => hc1 (w.heap.size + 1 + 1 + 1) o (by omega); have f1_3 := fun o => hf1 (w.heap.size + 1 + 1 + 1) o (by omega); (try simp (disch := (first | rfl | omega | (simp only [sz_alloc, sz_drew, sz_set]; omega))) only [sz_alloc, sz_drew, sz_set, World.cell?_drew, World.frozen?_drew, World.cell?_alloc_at, World.cell?_alloc_past, World.frozen?_alloc_at, World.frozen?_alloc_past] at k1_3 f1_3)
    go_wp2_with fail
    refine bodyPost_ret (v := .agg #[_, _, _, _, _]) (by simp [results, Try.results80, go_sem, k1_2, l1_2, n1_2, sz_set] <;> (first | rfl | (repeat' (first | rfl | apply And.intro)))) rfl (retN_mk (productN_one hM.out hN.out s1.out s2.out hI1.out) rfl rfl (by repeat (first | (with_reducible first | exact Below.refl _ _ | assumption | exact Nat.le_refl _ | refine Below.drew ?_ | refine Below.alloc ?_ ?_ _ | refine Below.setCell ?_ ?_ _ | refine le_alloc ?_ | refine le_set ?_ | refine le_drew ?_ | refine below_step (by assumption) ?_ ?_ | refine le_below (by assumption) ?_) | (dsimp only; omega))))
  · by_cases h2 : 2 ≤ c
    · go_enter Try.func80, Try.ntmps80
      go_wp2_with fail
      refine bodyPost_ret (v := .agg #[_, _, _, _, _]) (by simp [results, Try.results80, go_sem, sz_set] <;> (first | rfl | (repeat' (first | rfl | apply And.intro)))) rfl (retN_mk (productN_max hM.out hN.out (.inl h2)) rfl rfl (by repeat (first | (with_reducible first | exact Below.refl _ _ | assumption | exact Nat.le_refl _ | refine Below.drew ?_ | refine Below.alloc ?_ ?_ _ | refine Below.setCell ?_ ?_ _ | refine le_alloc ?_ | refine le_set ?_ | refine le_drew ?_ | refine below_step (by assumption) ?_ ?_ | refine le_below (by assumption) ?_) | (dsimp only; omega))))
    · by_cases h3 : 2 ≤ c'
      · go_enter Try.func80, Try.ntmps80
        go_wp2_with fail
        refine bodyPost_ret (v := .agg #[_, _, _, _, _]) (by simp [results, Try.results80, go_sem, sz_set] <;> (first | rfl | (repeat' (first | rfl | apply And.intro)))) rfl (retN_mk (productN_max hM.out hN.out (.inr h3)) rfl rfl (by repeat (first | (with_reducible first | exact Below.refl _ _ | assumption | exact Nat.le_refl _ | refine Below.drew ?_ | refine Below.alloc ?_ ?_ _ | refine Below.setCell ?_ ?_ _ | refine le_alloc ?_ | refine le_set ?_ | refine le_drew ?_ | refine below_step (by assumption) ?_ ?_ | refine le_below (by assumption) ?_) | (dsimp only; omega))))
      · have HH := Lib.hid (productN_zero hM.out hN.out h1 h2 h3)
        by_cases h4 : c = 1
        · have h5 : (c' == 1) = false := by rw [beq_eq_false_iff_ne]; intro e; exact h1 ⟨h4, e⟩
          subst h4
          clear h1
          go_enter Try.func80, Try.ntmps80
          go_wp2_with fail
          refine bodyPost_ret (v := .agg #[_, _, _, _, _]) (by simp [results, Try.results80, go_sem, sz_set] <;> (first | rfl | (repeat' (first | rfl | apply And.intro)))) rfl (retN_mk HH.out rfl rfl (by repeat (first | (with_reducible first | exact Below.refl _ _ | assumption | exact Nat.le_refl _ | refine Below.drew ?_ | refine Below.alloc ?_ ?_ _ | refine Below.setCell ?_ ?_ _ | refine le_alloc ?_ | refine le_set ?_ | refine le_drew ?_ | refine below_step (by assumption) ?_ ?_ | refine le_below (by assumption) ?_) | (dsimp only; omega))))
        · have h5 : (c == 1) = false := by rw [beq_eq_false_iff_ne]; exact h4
          clear h1 h4
          go_enter Try.func80, Try.ntmps80
          go_wp2_with fail
          refine bodyPost_ret (v := .agg #[_, _, _, _, _]) (by simp [results, Try.results80, go_sem, sz_set] <;> (first | rfl | (repeat' (first | rfl | apply And.intro)))) rfl (retN_mk HH.out rfl rfl (by repeat (first | (with_reducible first | exact Below.refl _ _ | assumption | exact Nat.le_refl _ | refine Below.drew ?_ | refine Below.alloc ?_ ?_ _ | refine Below.setCell ?_ ?_ _ | refine le_alloc ?_ | refine le_set ?_ | refine le_drew ?_ | refine below_step (by assumption) ?_ ?_ | refine le_below (by assumption) ?_) | (dsimp only; omega))))
theorem run_eqW0 (h l : Nat) (w : World) :
    (binOp .eql 88 (.agg #[.int .u64 h, .int .u64 l]) (.agg #[.int .u64 0, .int .u64 0])).run Try.prog w = .ok (.bool (eqW h l 0 0)) w := run_eqW h l 0 0 w
attribute [local go_sem ↓ high] run_eqW0
theorem rest_eq (x n : Nat) (h : x < 2 ^ 128) : x - shl (x / 2 ^ n) n = x % 2 ^ n ∧ shl (x / 2 ^ n) n ≤ x := by
  have e := Nat.div_add_mod x (2 ^ n)
  have e2 : shl (x / 2 ^ n) n = x / 2 ^ n * 2 ^ n := by
    unfold shl; apply Nat.mod_eq_of_lt; exact Nat.lt_of_le_of_lt (Nat.div_mul_le_self _ _) h
  rw [e2, Nat.mul_comm]; omega
theorem one_shl (n : Nat) (h : n < 128) : shl 1 n = 2 ^ n := by
  unfold shl; rw [Nat.one_mul]; exact Nat.mod_eq_of_lt (Nat.pow_lt_pow_right (by decide) h)
theorem rest_far (x n : Nat) (h0 : x ≠ 0) (h : x < 2 ^ 128) (hn : 128 < n) : x / 2 ^ n = 0 ∧ restV x n = 1 := by
  have h1 : 2 ^ 128 ≤ 2 ^ (n - 1) := Nat.pow_le_pow_right (by decide) (by omega)
  have h2 : 2 ^ (n - 1) < 2 ^ n := Nat.pow_lt_pow_right (by decide) (by omega)
  refine ⟨Nat.div_eq_of_lt (by omega), ?_⟩
  unfold restV
  rw [Nat.mod_eq_of_lt (by omega), if_neg h0, if_neg (by omega), if_pos (by omega)]
def RetS (x n : Nat) (W : World) (e : Ending) (w' : World) : Prop := e = .returned (.tuple #[.int .u64 (x / 2 ^ n : Nat), .int .i64 (restV x n)]) ∧ Below W.heap.size W w'
theorem retS_mk {x n : Nat} {a b : Int} {W w' : World} (ha : a = ((x / 2 ^ n : Nat) : Int)) (hb : b = restV x n) (h : Below W.heap.size W w') : RetS x n W (.returned (.tuple #[.int .u64 a, .int .i64 b])) w' := ⟨by rw [ha, hb], h⟩
theorem rest_cases (x n : Nat) : (restV x n = 0 ∧ x % 2 ^ n = 0) ∨ (restV x n = 2 ∧ x % 2 ^ n ≠ 0 ∧ x % 2 ^ n = 2 ^ (n - 1)) ∨
    (restV x n = 1 ∧ x % 2 ^ n ≠ 0 ∧ x % 2 ^ n ≠ 2 ^ (n - 1) ∧ x % 2 ^ n < 2 ^ (n - 1)) ∨ (restV x n = 3 ∧ x % 2 ^ n ≠ 0 ∧ x % 2 ^ n ≠ 2 ^ (n - 1) ∧ ¬ x % 2 ^ n < 2 ^ (n - 1)) := by
  unfold restV
  by_cases h1 : x % 2 ^ n = 0
  · exact .inl ⟨if_pos h1, h1⟩
  · rw [if_neg h1]
    by_cases h2 : x % 2 ^ n = 2 ^ (n - 1)
    · exact .inr (.inl ⟨if_pos h2, h1, h2⟩)
    · rw [if_neg h2]
      by_cases h3 : x % 2 ^ n < 2 ^ (n - 1)
      · exact .inr (.inr (.inl ⟨if_pos h3, h1, h2, h3⟩))
      · exact .inr (.inr (.inr ⟨if_neg h3, h1, h2, h3⟩))
theorem left_one (n : Int) (h0 : 0 ≤ n) (h1 : n < 65536) (w : World) :
    Calls Try.prog 123 #[.agg #[.int .u64 0, .int .u64 1], .int .i64 n] w (RetW (shl 1 n.toNat) w) :=
  left_c 0 1 1 n ⟨by decide, by decide, rfl⟩ h0 h1 w
theorem zero_W : IsW 0 0 0 := ⟨by decide, by decide, rfl⟩
set_option maxHeartbeats 4000000 in
theorem split_c (h l x : Nat) (n : Nat) (hx : Hid (IsW h l x)) (h0 : Hid (x ≠ 0)) (hn1 : 1 ≤ n) (hn2 : n ≤ 60000) (hk : Hid (x / 2 ^ n < 18446744073709551616)) (w : World) :
    Calls Try.prog 128 #[.agg #[.int .u64 h, .int .u64 l], .int .i64 n] w (RetS x n w) := by
  by_cases hn : 128 < n
  · have HF := Lib.hid (rest_far x n h0.out hx.out.lt128 hn)
    go_enter Try.func128, Try.ntmps128
    go_wp2_with fail
    go_ret2
    exact retS_mk (by rw [HF.out.1]; rfl) HF.out.2.symm (by repeat (first | (with_reducible first | exact Below.refl _ _ | assumption | exact Nat.le_refl _ | refine Below.drew ?_ | refine Below.alloc ?_ ?_ _ | refine Below.setCell ?_ ?_ _ | refine le_alloc ?_ | refine le_set ?_ | refine le_drew ?_ | refine below_step (by assumption) ?_ ?_ | refine le_below (by assumption) ?_) | (dsimp only; omega)))
  · have HR := Lib.hid (rest_eq x n hx.out.lt128)
    have HO := Lib.hid (one_shl (n - 1) (by omega))
    go_enter Try.func128, Try.ntmps128
    go_wp2_with fail
    refine (right_c _ _ _ _ hx (by omega) (by omega) _).mono ?_
    rintro e w1 ⟨h1, l1, rfl, hI1, hb1⟩
    obtain ⟨hc1, hf1⟩ := bcell hb1; have hz1 := hb1.size; (try simp only [sz_alloc, sz_drew, sz_set] at hz1 hc1 hf1); have l1_0 : w.heap.size < w1.heap.size := (by omega); have n1_0 : ¬ w.heap.size = w1.heap.size := (by omega); have m1_0 : ¬ w1.heap.size = w.heap.size := (by omega); have k1_0 := fun o => hc1 (w.heap.size) o (by omega); have f1_0 := fun o => hf1 (w.heap.size) o (by omega); (try simp (disch := (first | rfl | omega | (simp only [sz_alloc, sz_drew, sz_set]; omega))) only [sz_alloc, sz_drew, sz_set, World.cell?_drew, World.frozen?_drew, World.cell?_alloc_at, World.cell?_alloc_past, World.frozen?_alloc_at, World.frozen?_alloc_past] at k1_0 f1_0)
    rw [Int.toNat_natCast] at hI1
    go_wp2_with fail
    go_region_held3 (fun w' => w'.cell? ⟨w.heap.size, 0, none⟩ = some (.int .u64 h) ∧ w'.cell? ⟨w.heap.size, 1, none⟩ = some (.int .u64 l) ∧ w'.cell? ⟨w1.heap.size, 0, none⟩ = some (.int .u64 h1) ∧ w'.cell? ⟨w1.heap.size, 1, none⟩ = some (.int .u64 l1)) (all_goals (first | (go_keep; done) | (simp (disch := omega) only [cell_set_far]; simp [*])))
      (first
        | (go_at_call 123; refine (left_c _ _ _ _ hI1 (by omega) (by omega) _).mono ?_; rintro e w2 ⟨h2, l2, rfl, hI2, hb2⟩; (try rw [Int.toNat_natCast] at hI2); obtain ⟨hc2, hf2⟩ := bcell hb2; have hz2 := hb2.size; (try simp only [sz_alloc, sz_drew, sz_set] at hz2 hc2 hf2); have l2_0 : w.heap.size < w2.heap.size := (by omega); have n2_0 : ¬ w.heap.size = w2.heap.size := (by omega); have m2_0 : ¬ w2.heap.size = w.heap.size := (by omega); have k2_0 := fun o => hc2 (w.heap.size) o (by omega); have f2_0 := fun o => hf2 (w.heap.size) o (by omega); (try simp (disch := (first | rfl | omega | (simp only [sz_alloc, sz_drew, sz_set]; omega))) only [sz_alloc, sz_drew, sz_set, World.cell?_drew, World.frozen?_drew, World.cell?_alloc_at, World.cell?_alloc_past, World.frozen?_alloc_at, World.frozen?_alloc_past, hc1, hf1] at k2_0 f2_0); have l2_1 : w1.heap.size < w2.heap.size := (by omega); have n2_1 : ¬ w1.heap.size = w2.heap.size := (by omega); have m2_1 : ¬ w2.heap.size = w1.heap.size := (by omega); have k2_1 := fun o => hc2 (w1.heap.size) o (by omega); have f2_1 := fun o => hf2 (w1.heap.size) o (by omega); (try simp (disch := (first | rfl | omega | (simp only [sz_alloc, sz_drew, sz_set]; omega))) only [sz_alloc, sz_drew, sz_set, World.cell?_drew, World.frozen?_drew, World.cell?_alloc_at, World.cell?_alloc_past, World.frozen?_alloc_at, World.frozen?_alloc_past, hc1, hf1] at k2_1 f2_1); (try (have l2_t0 : w1.heap.size + 1 < w2.heap.size := (by omega); have n2_t0 : ¬ w1.heap.size + 1 = w2.heap.size := (by omega); have m2_t0 : ¬ w2.heap.size = w1.heap.size + 1 := (by omega); have k2_t0 := fun o => hc2 (w1.heap.size + 1) o (by omega); have f2_t0 := fun o => hf2 (w1.heap.size + 1) o (by omega); (try simp (disch := (first | rfl | omega | (simp only [sz_alloc, sz_drew, sz_set]; omega))) only [sz_alloc, sz_drew, sz_set, World.cell?_drew, World.frozen?_drew, World.cell?_alloc_at, World.cell?_alloc_past, World.frozen?_alloc_at, World.frozen?_alloc_past, hc1, hf1] at k2_t0 f2_t0))))
        | (go_at_call 117; refine (minus_c _ _ _ _ _ _ hx hI2 HR.out.2 _).mono ?_;  rintro e w3 ⟨h3, l3, rfl, hI3, hb3⟩; obtain ⟨hc3, hf3⟩ := bcell hb3; have hz3 := hb3.size; (try simp only [sz_alloc, sz_drew, sz_set] at hz3 hc3 hf3); have l3_0 : w.heap.size < w3.heap.size := (by omega); have n3_0 : ¬ w.heap.size = w3.heap.size := (by omega); have m3_0 : ¬ w3.heap.size = w.heap.size := (by omega); have k3_0 := fun o => hc3 (w.heap.size) o (by omega); have f3_0 := fun o => hf3 (w.heap.size) o (by omega); (try simp (disch := (first | rfl | omega | (simp only [sz_alloc, sz_drew, sz_set]; omega))) only [sz_alloc, sz_drew, sz_set, World.cell?_drew, World.frozen?_drew, World.cell?_alloc_at, World.cell?_alloc_past, World.frozen?_alloc_at, World.frozen?_alloc_past, hc2, hc1, hf2, hf1] at k3_0 f3_0); have l3_1 : w1.heap.size < w3.heap.size := (by omega); have n3_1 : ¬ w1.heap.size = w3.heap.size := (by omega); have m3_1 : ¬ w3.heap.size = w1.heap.size := (by omega); have k3_1 := fun o => hc3 (w1.heap.size) o (by omega); have f3_1 := fun o => hf3 (w1.heap.size) o (by omega); (try simp (disch := (first | rfl | omega | (simp only [sz_alloc, sz_drew, sz_set]; omega))) only [sz_alloc, sz_drew, sz_set, World.cell?_drew, World.frozen?_drew, World.cell?_alloc_at, World.cell?_alloc_past, World.frozen?_alloc_at, World.frozen?_alloc_past, hc2, hc1, hf2, hf1] at k3_1 f3_1); (try (have l3_t0 : w1.heap.size + 1 < w3.heap.size := (by omega); have n3_t0 : ¬ w1.heap.size + 1 = w3.heap.size := (by omega); have m3_t0 : ¬ w3.heap.size = w1.heap.size + 1 := (by omega); have k3_t0 := fun o => hc3 (w1.heap.size + 1) o (by omega); have f3_t0 := fun o => hf3 (w1.heap.size + 1) o (by omega); (try simp (disch := (first | rfl | omega | (simp only [sz_alloc, sz_drew, sz_set]; omega))) only [sz_alloc, sz_drew, sz_set, World.cell?_drew, World.frozen?_drew, World.cell?_alloc_at, World.cell?_alloc_past, World.frozen?_alloc_at, World.frozen?_alloc_past, hc2, hc1, hf2, hf1] at k3_t0 f3_t0))); (try (have l3_t1 : w2.heap.size < w3.heap.size := (by omega); have n3_t1 : ¬ w2.heap.size = w3.heap.size := (by omega); have m3_t1 : ¬ w3.heap.size = w2.heap.size := (by omega); have k3_t1 := fun o => hc3 (w2.heap.size) o (by omega); have f3_t1 := fun o => hf3 (w2.heap.size) o (by omega); (try simp (disch := (first | rfl | omega | (simp only [sz_alloc, sz_drew, sz_set]; omega))) only [sz_alloc, sz_drew, sz_set, World.cell?_drew, World.frozen?_drew, World.cell?_alloc_at, World.cell?_alloc_past, World.frozen?_alloc_at, World.frozen?_alloc_past, hc2, hc1, hf2, hf1] at k3_t1 f3_t1)))))
    all_goals go_wp2_with fail
    all_goals
      refine (left_one _ (by omega) (by omega) _).mono ?_
      rintro e w4 ⟨h4, l4, rfl, hI4, hb4⟩
      obtain ⟨hc4, hf4⟩ := bcell hb4; have hz4 := hb4.size; (try simp only [sz_alloc, sz_drew, sz_set] at hz4 hc4 hf4); have l4_0 : w1.heap.size < w4.heap.size := (by omega); have n4_0 : ¬ w1.heap.size = w4.heap.size := (by omega); have m4_0 : ¬ w4.heap.size = w1.heap.size := (by omega); have k4_0 := fun o => hc4 (w1.heap.size) o (by omega); have f4_0 := fun o => hf4 (w1.heap.size) o (by omega); (try simp (disch := (first | rfl | omega | (simp only [sz_alloc, sz_drew, sz_set]; omega))) only [sz_alloc, sz_drew, sz_set, World.cell?_drew, World.frozen?_drew, World.cell?_alloc_at, World.cell?_alloc_past, World.frozen?_alloc_at, World.frozen?_alloc_past, hc3, hc2, hc1, hf3, hf2, hf1] at k4_0 f4_0); (try (have l4_t0 : w1.heap.size + 1 < w4.heap.size := (by omega); have n4_t0 : ¬ w1.heap.size + 1 = w4.heap.size := (by omega); have m4_t0 : ¬ w4.heap.size = w1.heap.size + 1 := (by omega); have k4_t0 := fun o => hc4 (w1.heap.size + 1) o (by omega); have f4_t0 := fun o => hf4 (w1.heap.size + 1) o (by omega); (try simp (disch := (first | rfl | omega | (simp only [sz_alloc, sz_drew, sz_set]; omega))) only [sz_alloc, sz_drew, sz_set, World.cell?_drew, World.frozen?_drew, World.cell?_alloc_at, World.cell?_alloc_past, World.frozen?_alloc_at, World.frozen?_alloc_past, hc3, hc2, hc1, hf3, hf2, hf1] at k4_t0 f4_t0))); (try (have l4_t1 : w2.heap.size < w4.heap.size := (by omega); have n4_t1 : ¬ w2.heap.size = w4.heap.size := (by omega); have m4_t1 : ¬ w4.heap.size = w2.heap.size := (by omega); have k4_t1 := fun o => hc4 (w2.heap.size) o (by omega); have f4_t1 := fun o => hf4 (w2.heap.size) o (by omega); (try simp (disch := (first | rfl | omega | (simp only [sz_alloc, sz_drew, sz_set]; omega))) only [sz_alloc, sz_drew, sz_set, World.cell?_drew, World.frozen?_drew, World.cell?_alloc_at, World.cell?_alloc_past, World.frozen?_alloc_at, World.frozen?_alloc_past, hc3, hc2, hc1, hf3, hf2, hf1] at k4_t1 f4_t1))); (try (have l4_t2 : w3.heap.size < w4.heap.size := (by omega); have n4_t2 : ¬ w3.heap.size = w4.heap.size := (by omega); have m4_t2 : ¬ w4.heap.size = w3.heap.size := (by omega); have k4_t2 := fun o => hc4 (w3.heap.size) o (by omega); have f4_t2 := fun o => hf4 (w3.heap.size) o (by omega); (try simp (disch := (first | rfl | omega | (simp only [sz_alloc, sz_drew, sz_set]; omega))) only [sz_alloc, sz_drew, sz_set, World.cell?_drew, World.frozen?_drew, World.cell?_alloc_at, World.cell?_alloc_past, World.frozen?_alloc_at, World.frozen?_alloc_past, hc3, hc2, hc1, hf3, hf2, hf1] at k4_t2 f4_t2)))
      rw [show ((n : Int) - 1).toNat = n - 1 by omega, HO.out] at hI4
      rw [HR.out.1] at hI3
      have hE1 := eqW_of hI3.out zero_W
      have hE2 := eqW_of hI3.out hI4.out
      have HL := Lib.hid (hI1.out.low hk.out)
      rcases rest_cases x n with ⟨hr, c1⟩ | ⟨hr, c1, c2⟩ | ⟨hr, c1, c2, c3⟩ | ⟨hr, c1, c2, c3⟩
      · rw [c1] at hE1; rw [decide_eq_true rfl] at hE1
        have H0 := Lib.hid hr; clear hr c1 hE2
        go_wp2_with fail
        go_ret2
        exact retS_mk (by rw [← HL.out]) H0.out.symm (by repeat (first | (with_reducible first | exact Below.refl _ _ | assumption | exact Nat.le_refl _ | refine Below.drew ?_ | refine Below.alloc ?_ ?_ _ | refine Below.setCell ?_ ?_ _ | refine le_alloc ?_ | refine le_set ?_ | refine le_drew ?_ | refine below_step (by assumption) ?_ ?_ | refine le_below (by assumption) ?_) | (dsimp only; omega)))
      · rw [decide_eq_false c1] at hE1; rw [decide_eq_true c2] at hE2
        have H0 := Lib.hid hr; clear hr c1 c2
        go_wp2_with fail
        go_ret2
        exact retS_mk (by rw [← HL.out]) H0.out.symm (by repeat (first | (with_reducible first | exact Below.refl _ _ | assumption | exact Nat.le_refl _ | refine Below.drew ?_ | refine Below.alloc ?_ ?_ _ | refine Below.setCell ?_ ?_ _ | refine le_alloc ?_ | refine le_set ?_ | refine le_drew ?_ | refine below_step (by assumption) ?_ ?_ | refine le_below (by assumption) ?_) | (dsimp only; omega)))
      · rw [decide_eq_false c1] at hE1; rw [decide_eq_false c2] at hE2
        have H0 := Lib.hid hr; have H3 := Lib.hid c3; clear hr c1 c2 c3
        go_wp2_with fail
        refine (below_c _ _ _ _ _ _ hI3 hI4 _).mono ?_
        rintro e w5 ⟨rfl, hb5⟩
        rw [decide_eq_true H3.out]
        obtain ⟨hc5, hf5⟩ := bcell hb5; have hz5 := hb5.size; (try simp only [sz_alloc, sz_drew, sz_set] at hz5 hc5 hf5); have l5_0 : w1.heap.size < w5.heap.size := (by omega); have n5_0 : ¬ w1.heap.size = w5.heap.size := (by omega); have m5_0 : ¬ w5.heap.size = w1.heap.size := (by omega); have k5_0 := fun o => hc5 (w1.heap.size) o (by omega); have f5_0 := fun o => hf5 (w1.heap.size) o (by omega); (try simp (disch := (first | rfl | omega | (simp only [sz_alloc, sz_drew, sz_set]; omega))) only [sz_alloc, sz_drew, sz_set, World.cell?_drew, World.frozen?_drew, World.cell?_alloc_at, World.cell?_alloc_past, World.frozen?_alloc_at, World.frozen?_alloc_past, hc4, hc3, hc2, hc1, hf4, hf3, hf2, hf1] at k5_0 f5_0)
        go_wp2_with fail
        go_ret2
        exact retS_mk (by rw [← HL.out]) H0.out.symm (by repeat (first | (with_reducible first | exact Below.refl _ _ | assumption | exact Nat.le_refl _ | refine Below.drew ?_ | refine Below.alloc ?_ ?_ _ | refine Below.setCell ?_ ?_ _ | refine le_alloc ?_ | refine le_set ?_ | refine le_drew ?_ | refine below_step (by assumption) ?_ ?_ | refine le_below (by assumption) ?_) | (dsimp only; omega)))
      · rw [decide_eq_false c1] at hE1; rw [decide_eq_false c2] at hE2
        have H0 := Lib.hid hr; have H3 := Lib.hid c3; clear hr c1 c2 c3
        go_wp2_with fail
        refine (below_c _ _ _ _ _ _ hI3 hI4 _).mono ?_
        rintro e w5 ⟨rfl, hb5⟩
        rw [decide_eq_false H3.out]
        obtain ⟨hc5, hf5⟩ := bcell hb5; have hz5 := hb5.size; (try simp only [sz_alloc, sz_drew, sz_set] at hz5 hc5 hf5); have l5_0 : w1.heap.size < w5.heap.size := (by omega); have n5_0 : ¬ w1.heap.size = w5.heap.size := (by omega); have m5_0 : ¬ w5.heap.size = w1.heap.size := (by omega); have k5_0 := fun o => hc5 (w1.heap.size) o (by omega); have f5_0 := fun o => hf5 (w1.heap.size) o (by omega); (try simp (disch := (first | rfl | omega | (simp only [sz_alloc, sz_drew, sz_set]; omega))) only [sz_alloc, sz_drew, sz_set, World.cell?_drew, World.frozen?_drew, World.cell?_alloc_at, World.cell?_alloc_past, World.frozen?_alloc_at, World.frozen?_alloc_past, hc4, hc3, hc2, hc1, hf4, hf3, hf2, hf1] at k5_0 f5_0)
        go_wp2_with fail
        go_ret2
        exact retS_mk (by rw [← HL.out]) H0.out.symm (by repeat (first | (with_reducible first | exact Below.refl _ _ | assumption | exact Nat.le_refl _ | refine Below.drew ?_ | refine Below.alloc ?_ ?_ _ | refine Below.setCell ?_ ?_ _ | refine le_alloc ?_ | refine le_set ?_ | refine le_drew ?_ | refine below_step (by assumption) ?_ ?_ | refine le_below (by assumption) ?_) | (dsimp only; omega)))
end Go.Proofs.Yteinjalnkhfecaa.Q
