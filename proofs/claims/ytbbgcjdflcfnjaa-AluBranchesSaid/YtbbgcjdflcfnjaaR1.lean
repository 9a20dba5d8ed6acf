/- The document's own answers: high, low, Wide, below, minus. -/
import Derived.Test.YtbbgcjdflcfnjaaF2
import Derived.LoopTactic
namespace Go.Proofs.Ytbbgcjdflcfnjaa
open Go.ChangeShapes Go.WideShapes Go.ChangeAt Go.RowKit
set_option linter.unusedVariables false
set_option linter.unusedSimpArgs false
def highV (wd a : Nat) : Bool := a / 2 ^ (wd - 1) % 2 == 1
theorem and_pow (a k : Nat) : a &&& 2 ^ k = a / 2 ^ k % 2 * 2 ^ k := by
  have h1 : (a &&& 2 ^ k) / 2 ^ k = a / 2 ^ k % 2 := by
    rw [Nat.and_div_two_pow, Nat.div_self (Nat.two_pow_pos k), show 1 = 2 ^ 1 - 1 from rfl, Nat.and_two_pow_sub_one_eq_mod]
  have h2 : (a &&& 2 ^ k) % 2 ^ k = 0 := by rw [Nat.and_mod_two_pow, Nat.mod_self]; simp
  have h3 := Nat.div_add_mod (a &&& 2 ^ k) (2 ^ k)
  rw [h1, h2, Nat.mul_comm] at h3; omega
theorem mod_step (a k : Nat) : a % 2 ^ (k + 1) = a % 2 ^ k + a / 2 ^ k % 2 * 2 ^ k := by
  rw [Nat.pow_succ, Nat.mod_mul, Nat.mul_comm (2 ^ k)]
theorem pow_lt64 (k : Nat) (h : k < 64) : 2 ^ k < 18446744073709551616 := by
  rw [show (18446744073709551616 : Nat) = 2 ^ 64 by decide]; exact Nat.pow_lt_pow_right (by decide) h
theorem pow_le64 (k : Nat) (h : k ≤ 64) : 2 ^ k ≤ 18446744073709551616 := by
  rw [show (18446744073709551616 : Nat) = 2 ^ 64 by decide]; exact Nat.pow_le_pow_right (by decide) h
set_option maxRecDepth 100000 in
theorem high_c (a wd : Nat) (ha : Hid (a < 18446744073709551616)) (h1 : 1 ≤ wd) (h2 : wd ≤ 64) (w : World) : Calls Try.prog 29 #[.int .u64 a, .int .i64 wd] w (RetB (highV wd a) w) := by
  obtain ⟨m, rfl⟩ : ∃ m, wd = m + 1 := ⟨wd - 1, by omega⟩
  have em : ((m + 1 : Nat) : Int) - 1 = (m : Int) := by omega
  have hm : (m : Int) ≤ 64 := by omega
  have hm0 : m ≤ 64 := by omega
  have hb : a / 2 ^ m < 18446744073709551616 := Nat.lt_of_le_of_lt (Nat.div_le_self _ _) ha.out
  have e1 : bits .and .u64 ((a : Int) / 2 ^ m) 1 = ((a / 2 ^ m % 2 : Nat) : Int) := by
    rw [srl64, show (1 : Int) = ((1 : Nat) : Int) from rfl, bits_and_u64_nat _ 1 hb (by decide), show 1 = 2 ^ 1 - 1 from rfl, Nat.and_two_pow_sub_one_eq_mod]
  have hv : Hid (highV (m + 1) a = (a / 2 ^ m % 2 == 1)) := rfl
  clear hb
  generalize a / 2 ^ m % 2 = x at *
  go_enter Try.func29, Try.ntmps29
  go_wp2_with fail
  go_ret
  exact retB_mk (by rw [hv.out, Bool.eq_iff_iff]; simp only [beq_iff_eq, decide_eq_true_eq]; omega) (by repeat (first | (with_reducible first | exact Below.refl _ _ | assumption | exact Nat.le_refl _ | refine Below.drew ?_ | refine Below.alloc ?_ ?_ _ | refine below_drewN ?_ _ | refine Below.setCell ?_ ?_ _ | refine le_alloc ?_ | refine le_set ?_ | refine le_drew ?_ | refine le_drewN ?_ | refine below_step (by assumption) ?_ ?_ | refine le_below (by assumption) ?_) | (dsimp only; omega)))
set_option maxRecDepth 100000 in
theorem low_c (a wd : Nat) (ha : Hid (a < 18446744073709551616)) (h2 : wd ≤ 64) (w : World) : Calls Try.prog 25 #[.int .u64 a, .int .i64 wd] w (RetV .u64 ((a % 2 ^ wd : Nat) : Int) w) := by
  go_enter Try.func25, Try.ntmps25
  go_wp2_with fail
  go_loopw [5, 6] (fun o i wr => ∃ k : Nat, k ≤ wd ∧ o = .int .u64 ((a % 2 ^ k : Nat) : Int) ∧ i = .int .i64 (k : Int) ∧ w = wr) (fun _ i _ => ((wd : Int) - intOf i).toNat)
  case atStart => exact ⟨0, by omega, by simp [Nat.mod_one], by simp, rfl⟩
  case round =>
    obtain ⟨k, hk, rfl, rfl, rfl⟩ := hrel
    by_cases hlt : k < wd
    · have hlt' : (k : Int) < (wd : Int) := by omega
      have hk6 : (k : Int) ≤ 64 := by omega
      have hp := pow_lt64 k (by omega)
      have e2 : IntKind.u64.wrap ((2 : Int) ^ k) = (2 : Int) ^ k := by rw [pow_cast, IntKind.wrap_u64]; generalize 2 ^ k = p at *; omega
      have e3 : bits .and .u64 (a : Int) ((2 : Int) ^ k) = ((a / 2 ^ k % 2 * 2 ^ k : Nat) : Int) := by rw [pow_cast, bits_and_u64_nat a _ ha.out hp, and_pow]
      have HS : Hid (a % 2 ^ (k + 1) = a % 2 ^ k + a / 2 ^ k % 2 * 2 ^ k) := mod_step a k
      have hl : Hid (a % 2 ^ (k + 1) < 18446744073709551616) := Nat.lt_of_le_of_lt (Nat.mod_le _ _) ha.out
      have hkw : Hid (k < wd ∧ wd ≤ 64) := ⟨hlt, h2⟩
      generalize a / 2 ^ k % 2 * 2 ^ k = x at *
      generalize a % 2 ^ k = y at *
      clear hlt hk h2 hp
      go_wp2_with fail
      go_roundw
      case rel =>
        have h20 := hl.out; rw [HS.out] at h20; have hkk := hkw.out
        exact ⟨k + 1, by omega, by rw [HS.out]; congr 1; (try rw [IntKind.wrap_u64]); omega, by first | rfl | (congr 1; omega) | (congr 1; rw [IntWalk.i64_in _ (by omega)]; omega), by first | rfl | trivial⟩
      case measure =>
        have hkk := hkw.out
        first | (simp [intOf]; done) | (simp [intOf]; omega)
    · have hk' : k = wd := by omega
      have hlt' : ¬ (k : Int) < (wd : Int) := by omega
      subst hk'
      go_wp2_with fail
      go_ret
      exact retV_mk rfl (by repeat (first | (with_reducible first | exact Below.refl _ _ | assumption | exact Nat.le_refl _ | refine Below.drew ?_ | refine Below.alloc ?_ ?_ _ | refine below_drewN ?_ _ | refine Below.setCell ?_ ?_ _ | refine le_alloc ?_ | refine le_set ?_ | refine le_drew ?_ | refine le_drewN ?_ | refine below_step (by assumption) ?_ ?_ | refine le_below (by assumption) ?_) | (dsimp only; omega)))
end Go.Proofs.Ytbbgcjdflcfnjaa
