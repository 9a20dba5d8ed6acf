/- The contracts of rounding in conv: away, split, cut. -/
import Derived.Test.YteinjalnkhfecaaB6
namespace Go.Proofs.Yteinjalnkhfecaa
open Go.ChangeShapes Go.WideShapes Go.ChangeAt Go.RowKit
set_option linter.unusedVariables false
set_option linter.unusedSimpArgs false
/-- Is a number rounded to the next one farther from 0? -/
def awayV (rm : Int) (m : Bool) (k : Nat) (r : Int) : Bool :=
  if rm = 0 then decide (r = 3) || (decide (r = 2) && decide (k % 2 = 1))
  else if rm = 2 then decide (r ≠ 0) && m else if rm = 3 then decide (r ≠ 0) && !m else if rm = 4 then decide (2 ≤ r) else false
theorem away_c (rm : Int) (m : Bool) (k : Nat) (r : Int) (hk : Hid (k < 18446744073709551616)) (w : World) :
    Calls Try.prog 110 #[.int .i64 rm, .bool m, .int .u64 k, .int .i64 r] w (RetB (awayV rm m k r) w) := by
  go_enter Try.func110, Try.ntmps110
  go_wp2
  all_goals go_ret
  all_goals refine retB_mk ?_ (by repeat (first | (with_reducible first | exact Below.refl _ _ | assumption | exact Nat.le_refl _ | refine Below.drew ?_ | refine Below.alloc ?_ ?_ _ | refine Below.setCell ?_ ?_ _ | refine le_alloc ?_ | refine le_set ?_ | refine le_drew ?_ | refine below_step (by assumption) ?_ ?_ | refine le_below (by assumption) ?_) | (dsimp only; omega)))
  all_goals unfold awayV
  all_goals (try rw [and1' k hk.out])
  all_goals (try simp only [beq_iff_eq, beq_eq_false_iff_ne, bne_iff_ne, bne_eq_false_iff_eq, ne_eq, Bool.not_eq_true] at *)
  all_goals (try simp_all)
/-- Where the bits that are dropped stand. -/
def restV (x n : Nat) : Int := if x % 2 ^ n = 0 then 0 else if x % 2 ^ n = 2 ^ (n - 1) then 2 else if x % 2 ^ n < 2 ^ (n - 1) then 1 else 3
def RetS (x n : Nat) (W : World) (e : Ending) (w' : World) : Prop := e = .returned (.tuple #[.int .u64 (x / 2 ^ n : Nat), .int .i64 (restV x n)]) ∧ Below W.heap.size W w'
theorem retS_mk {x n : Nat} {a b : Int} {W w' : World} (ha : a = ((x / 2 ^ n : Nat) : Int)) (hb : b = restV x n) (h : Below W.heap.size W w') : RetS x n W (.returned (.tuple #[.int .u64 a, .int .i64 b])) w' := ⟨by rw [ha, hb], h⟩
theorem rest_cases (x n : Nat) : (restV x n = 0 ∧ x % 2 ^ n = 0) ∨ (restV x n = 2 ∧ x % 2 ^ n ≠ 0 ∧ x % 2 ^ n = 2 ^ (n - 1)) ∨
    (restV x n = 1 ∧ x % 2 ^ n ≠ 0 ∧ x % 2 ^ n ≠ 2 ^ (n - 1) ∧ x % 2 ^ n < 2 ^ (n - 1)) ∨ (restV x n = 3 ∧ x % 2 ^ n ≠ 0 ∧ x % 2 ^ n ≠ 2 ^ (n - 1) ∧ ¬ x % 2 ^ n < 2 ^ (n - 1)) := by
  unfold restV
  by_cases h1 : x % 2 ^ n = 0
  · exact .inl ⟨if_pos h1, h1⟩
  · rw [if_neg h1]
    by_cases h2 : x % 2 ^ n = 2 ^ (n - 1)
    · exact .inr (.inl ⟨if_pos h2, h1, h2⟩)
    · rw [if_neg h2]
      by_cases h3 : x % 2 ^ n < 2 ^ (n - 1)
      · exact .inr (.inr (.inl ⟨if_pos h3, h1, h2, h3⟩))
      · exact .inr (.inr (.inr ⟨if_neg h3, h1, h2, h3⟩))

theorem rest_far64 (x n : Nat) (h0 : x ≠ 0) (h : x < 18446744073709551616) (hn : 64 < n) : x / 2 ^ n = 0 ∧ restV x n = 1 := by
  have h1 : 2 ^ 64 ≤ 2 ^ (n - 1) := Nat.pow_le_pow_right (by decide) (by omega)
  have h2 : 2 ^ (n - 1) < 2 ^ n := Nat.pow_lt_pow_right (by decide) (by omega)
  rw [pow64] at h
  refine ⟨Nat.div_eq_of_lt (by omega), ?_⟩
  unfold restV
  rw [Nat.mod_eq_of_lt (by omega), if_neg h0, if_neg (by omega), if_pos (by omega)]
theorem split_c (x n : Nat) (hx : Hid (x < 18446744073709551616)) (h0 : Hid (x ≠ 0)) (hn1 : 1 ≤ n) (hn2 : n ≤ 60000) (w : World) :
    Calls Try.prog 109 #[.int .u64 x, .int .i64 n] w (RetS x n w) := by
  by_cases hn : 64 < n
  · have HF := Lib.hid (rest_far64 x n h0.out hx.out hn)
    go_enter Try.func109, Try.ntmps109
    go_wp2_with fail
    go_ret2
    exact retS_mk (by rw [HF.out.1]; rfl) HF.out.2.symm (by repeat (first | (with_reducible first | exact Below.refl _ _ | assumption | exact Nat.le_refl _ | refine Below.drew ?_ | refine Below.alloc ?_ ?_ _ | refine Below.setCell ?_ ?_ _ | refine le_alloc ?_ | refine le_set ?_ | refine le_drew ?_ | refine below_step (by assumption) ?_ ?_ | refine le_below (by assumption) ?_) | (dsimp only; omega)))
  · have hp : 2 ^ (n - 1) < 18446744073709551616 := by rw [pow64]; exact Nat.pow_lt_pow_right (by decide) (by omega)
    have e1 : (x : Int) / 2 ^ n = ((x / 2 ^ n : Nat) : Int) := div_shr x n
    have hle : x / 2 ^ n * 2 ^ n ≤ x := Nat.div_mul_le_self _ _
    have hm := Nat.div_add_mod x (2 ^ n)
    rw [Nat.mul_comm] at hm
    have e2 : IntKind.u64.wrap ((x : Int) - IntKind.u64.wrap (((x / 2 ^ n : Nat) : Int) * 2 ^ n)) = ((x % 2 ^ n : Nat) : Int) := by
      rw [wrap_shl, Nat.mod_eq_of_lt (by have := hx.out; omega), show (x : Int) - ((x / 2 ^ n * 2 ^ n : Nat) : Int) = ((x % 2 ^ n : Nat) : Int) by omega, wrapN, Nat.mod_eq_of_lt]
      exact Nat.lt_of_le_of_lt (Nat.mod_le _ _) hx.out
    have e3 : IntKind.u64.wrap ((1 : Int) * 2 ^ (n - 1)) = ((2 ^ (n - 1) : Nat) : Int) := by
      have := wrap_shl 1 (n - 1)
      rw [Nat.one_mul, Nat.mod_eq_of_lt hp] at this
      exact this
    rw [← e1] at e2
    rw [Int.one_mul] at e3
    have k := rest_cases x n
    have HE1 := Lib.hid e1; have HE2 := Lib.hid e2; have HE3 := Lib.hid e3; have HK := Lib.hid k; clear e1 e2 e3 hle hm hp k
    go_enter Try.func109, Try.ntmps109
    go_wp2_with fail
    all_goals go_ret2
    all_goals refine retS_mk HE1.out ?_ (by repeat (first | (with_reducible first | exact Below.refl _ _ | assumption | exact Nat.le_refl _ | refine Below.drew ?_ | refine Below.alloc ?_ ?_ _ | refine Below.setCell ?_ ?_ _ | refine le_alloc ?_ | refine le_set ?_ | refine le_drew ?_ | refine below_step (by assumption) ?_ ?_ | refine le_below (by assumption) ?_) | (dsimp only; omega)))
    all_goals have k := HK.out
    all_goals simp only [HE2.out, HE3.out, beq_iff_eq, beq_eq_false_iff_ne, ne_eq] at *
    all_goals
      generalize restV x n = v at *
      generalize x % 2 ^ n = r at *
      generalize 2 ^ (n - 1) = p at *
      omega
def cutK (rm : Int) (m : Bool) (x n : Nat) : Nat := x / 2 ^ n + (if awayV rm m (x / 2 ^ n) (restV x n) then 1 else 0)
def diffV (x n : Nat) : Bool := decide (restV x n ≠ 0)
def RetC (rm : Int) (m : Bool) (x n : Nat) (W : World) (e : Ending) (w' : World) : Prop := e = .returned (.tuple #[.int .u64 (cutK rm m x n : Nat), .bool (diffV x n)]) ∧ Below W.heap.size W w'
theorem retC_mk {rm : Int} {m : Bool} {x n : Nat} {a : Int} {b : Bool} {W w' : World} (ha : a = (cutK rm m x n : Nat)) (hb : b = diffV x n) (h : Below W.heap.size W w') : RetC rm m x n W (.returned (.tuple #[.int .u64 a, .bool b])) w' := ⟨by rw [ha, hb], h⟩
theorem bne_dec (a : Int) : (a != 0) = decide (a ≠ 0) := by rw [Bool.eq_iff_iff]; simp
theorem cut_c (rm : Int) (m : Bool) (ex : Int) (x n : Nat) (hx : Hid (x < 18446744073709551616)) (h0 : Hid (x ≠ 0)) (hn1 : 1 ≤ n) (hn2 : n ≤ 60000) (w : World) :
    Calls Try.prog 84 #[.int .i64 rm, .agg #[.bool m, .int .i64 ex, .int .u64 x], .int .i64 n] w (RetC rm m x n w) := by
  have hq : x / 2 ^ n < 9223372036854775808 := by
    rw [Nat.div_lt_iff_lt_mul (Nat.two_pow_pos n)]
    have : 2 ^ 1 ≤ 2 ^ n := Nat.pow_le_pow_right (by decide) hn1
    have := hx.out
    omega
  have HK := Lib.hid hq; clear hq
  go_enter Try.func84, Try.ntmps84
  go_wp2_with fail
  refine (split_c x n hx h0 hn1 hn2 _).mono ?_
  rintro e w1 ⟨rfl, hb1⟩; obtain ⟨hc1, hf1⟩ := bcell hb1; have hz1 := hb1.size; (try simp only [sz_alloc, sz_drew, sz_set] at hz1 hc1 hf1); have l1_0 : w.heap.size < w1.heap.size := (by omega); have n1_0 : ¬ w.heap.size = w1.heap.size := (by omega); have m1_0 : ¬ w1.heap.size = w.heap.size := (by omega); have k1_0 := fun o => hc1 (w.heap.size) o (by omega); have f1_0 := fun o => hf1 (w.heap.size) o (by omega); (try simp (disch := (first | rfl | omega | (simp only [sz_alloc, sz_drew, sz_set]; omega))) only [sz_alloc, sz_drew, sz_set, World.cell?_drew, World.frozen?_drew, World.cell?_alloc_at, World.cell?_alloc_past, World.frozen?_alloc_at, World.frozen?_alloc_past] at k1_0 f1_0)
  have HC : Hid (cutK rm m x n = x / 2 ^ n + (if awayV rm m (x / 2 ^ n) (restV x n) then 1 else 0)) := rfl
  generalize x / 2 ^ n = q at *
  go_wp2_with fail
  refine (away_c rm m q (restV x n) (by have := HK.out; show _ < _; omega) _).mono ?_
  rintro e w2 ⟨rfl, hb2⟩
  generalize ha : awayV rm m q (restV x n) = a
  have HA := Lib.hid ha; clear ha
  cases a
  · go_wp2_with fail
    go_ret2
    exact retC_mk (by rw [HC.out, HA.out]; simp) (bne_dec _) (by repeat (first | (with_reducible first | exact Below.refl _ _ | assumption | exact Nat.le_refl _ | refine Below.drew ?_ | refine Below.alloc ?_ ?_ _ | refine Below.setCell ?_ ?_ _ | refine le_alloc ?_ | refine le_set ?_ | refine le_drew ?_ | refine below_step (by assumption) ?_ ?_ | refine le_below (by assumption) ?_) | (dsimp only; omega)))
  · go_wp2_with fail
    go_ret2
    exact retC_mk (by rw [HC.out, HA.out, if_pos rfl, show ((q : Int) + 1) = ((q + 1 : Nat) : Int) by omega, wrapN, Nat.mod_eq_of_lt (by have := HK.out; omega)]) (bne_dec _) (by repeat (first | (with_reducible first | exact Below.refl _ _ | assumption | exact Nat.le_refl _ | refine Below.drew ?_ | refine Below.alloc ?_ ?_ _ | refine Below.setCell ?_ ?_ _ | refine le_alloc ?_ | refine le_set ?_ | refine le_drew ?_ | refine below_step (by assumption) ?_ ?_ | refine le_below (by assumption) ?_) | (dsimp only; omega)))
end Go.Proofs.Yteinjalnkhfecaa
