/- The document's own answers: product, divide. -/
import Derived.Test.YtbbgcjdflcfnjaaR2
namespace Go.Proofs.Ytbbgcjdflcfnjaa
open Go.ChangeShapes Go.WideShapes Go.ChangeAt Go.RowKit
set_option linter.unusedVariables false
set_option linter.unusedSimpArgs false
theorem div_step (n m : Nat) : n / 2 ^ m = 2 * (n / 2 ^ (m + 1)) + n / 2 ^ m % 2 := by
  rw [Nat.pow_succ, ← Nat.div_div_eq_div_mul]; omega
theorem mul_bound (a b m : Nat) (ha : a < 18446744073709551616) (hb : b < 18446744073709551616) : a * (b / 2 ^ m) < 18446744073709551616 * 18446744073709551616 :=
  Nat.mul_lt_mul'' ha (Nat.lt_of_le_of_lt (Nat.div_le_self _ _) hb)
theorem prod_step (a x bit : Nat) : a * (2 * x + bit) = 2 * (a * x) + a * bit := by rw [Nat.mul_add, Nat.mul_left_comm]
theorem bit_form (b j : Nat) (hb : b < 18446744073709551616) : bits .and .u64 ((b : Int) / 2 ^ j) 1 = ((b / 2 ^ j % 2 : Nat) : Int) := by
  rw [srl64, show (1 : Int) = ((1 : Nat) : Int) from rfl, bits_and_u64_nat _ 1 (Nat.lt_of_le_of_lt (Nat.div_le_self _ _) hb) (by decide), show 1 = 2 ^ 1 - 1 from rfl, Nat.and_two_pow_sub_one_eq_mod]
set_option maxRecDepth 100000 in
set_option maxHeartbeats 4000000 in
theorem product_c (a b : Nat) (ha : Hid (a < 18446744073709551616)) (hb : Hid (b < 18446744073709551616)) (w : World) : Calls Try.prog 27 #[.int .u64 a, .int .u64 b] w (RetP (a * b / 18446744073709551616) (a * b % 18446744073709551616) w) := by
  go_enter Try.func27, Try.ntmps27
  go_wp2_with fail
  go_loopw [6, 7, 8] (fun h l i wr => ∃ m : Nat, m ≤ 64 ∧ h = .int .u64 ((a * (b / 2 ^ m) / 18446744073709551616 : Nat) : Int) ∧ l = .int .u64 ((a * (b / 2 ^ m) % 18446744073709551616 : Nat) : Int) ∧ i = .int .i64 ((m : Int) - 1) ∧ w = wr) (fun _ _ i _ => (intOf i + 1).toNat)
  case atStart =>
    have h0 : b / 2 ^ 64 = 0 := Nat.div_eq_of_lt hb.out
    exact ⟨64, by omega, by rw [h0]; simp, by rw [h0]; simp, rfl, rfl⟩
  case round =>
    obtain ⟨m, hm, rfl, rfl, rfl, rfl⟩ := hrel
    cases m with
    | zero =>
      have e0 : ((0 : Nat) : Int) - 1 = -1 := by decide
      have HE : Hid (b / 2 ^ 0 = b) := by show _ = _; simp
      rw [HE.out, e0]
      go_wp2_with fail
      exact bodyPost_ret (v := .tuple #[_, _]) (by simp [results, Try.results27, go_sem] <;> (first | rfl | (repeat' (first | rfl | apply And.intro)))) rfl (retP_mk rfl rfl (by repeat (first | (with_reducible first | exact Below.refl _ _ | assumption | exact Nat.le_refl _ | refine Below.drew ?_ | refine Below.alloc ?_ ?_ _ | refine below_drewN ?_ _ | refine Below.setCell ?_ ?_ _ | refine le_alloc ?_ | refine le_set ?_ | refine le_drew ?_ | refine le_drewN ?_ | refine below_step (by assumption) ?_ ?_ | refine le_below (by assumption) ?_) | (dsimp only; omega))))
    | succ j =>
      have ei : ((j + 1 : Nat) : Int) - 1 = (j : Int) := by omega
      have hj : (j : Int) ≤ 64 := by omega
      have hj0 : 0 ≤ (j : Int) := by omega
      have hbit := bit_form b j hb.out
      have hst := prod_step a (b / 2 ^ (j + 1)) (b / 2 ^ j % 2)
      rw [← div_step b j] at hst
      have hB1 := mul_bound a b j ha.out hb.out
      have hB0 := mul_bound a b (j + 1) ha.out hb.out
      have hjm : Hid (j < 64) := by show _ < _; omega
      have h2 : b / 2 ^ j % 2 = 0 ∨ b / 2 ^ j % 2 = 1 := Nat.mod_two_eq_zero_or_one _
      obtain ⟨Y, hY⟩ : ∃ Y, Y = a * (b / 2 ^ j) := ⟨_, rfl⟩
      rw [← hY] at hst hB1
      have HYY := Lib.hid hY; clear hY
      generalize a * (b / 2 ^ (j + 1)) = X at *
      generalize b / 2 ^ j % 2 = bt at *
      clear hm
      rw [ei]
      obtain ⟨h', hh'⟩ : ∃ h' : Nat, h' = 2 * X / 18446744073709551616 := ⟨_, rfl⟩
      obtain ⟨l', hl'⟩ : ∃ l' : Nat, l' = 2 * X % 18446744073709551616 := ⟨_, rfl⟩
      have E1 : IntKind.u64.wrap (IntKind.u64.wrap (((X / 18446744073709551616 : Nat) : Int) * 2) + ((X % 18446744073709551616 : Nat) : Int) / 9223372036854775808) = (h' : Int) := by
        rw [IntKind.wrap_u64, IntKind.wrap_u64]; rcases h2 with rfl | rfl <;> (rw [hh']; omega)
      have E2 : IntKind.u64.wrap (((X % 18446744073709551616 : Nat) : Int) * 2) = (l' : Int) := by rw [IntKind.wrap_u64]; omega
      obtain ⟨x1, hx1⟩ : ∃ x1 : Nat, x1 = X / 18446744073709551616 := ⟨_, rfl⟩
      obtain ⟨x0, hx0⟩ : ∃ x0 : Nat, x0 = X % 18446744073709551616 := ⟨_, rfl⟩
      rw [← hx1, ← hx0] at E1
      rw [← hx0] at E2
      rw [← hx1, ← hx0]
      rcases h2 with rfl | rfl
      · have HY : Hid (h' = Y / 18446744073709551616 ∧ l' = Y % 18446744073709551616) := ⟨by omega, by omega⟩
        clear hst hB1 hB0 hh' hl' hx1 hx0
        go_wp2_with fail
        go_roundw
        case rel =>
          have hjj := hjm.out
          exact ⟨j, by omega, by rw [HY.out.1, HYY.out], by rw [HY.out.2, HYY.out], by first | rfl | (congr 1; omega) | (congr 1; rw [IntWalk.i64_in _ (by omega)]), by first | rfl | trivial⟩
        case measure =>
          have hjj := hjm.out
          first | (simp [intOf]; done) | (simp [intOf]; omega)
      · obtain ⟨s, hs⟩ : ∃ s : Nat, s = Y % 18446744073709551616 := ⟨_, rfl⟩
        have E3 : IntKind.u64.wrap ((l' : Int) + (a : Int)) = (s : Int) := by rw [IntKind.wrap_u64]; omega
        have haa := ha.out
        by_cases hc : s < l'
        · have hc' : (s : Int) < (l' : Int) := by omega
          obtain ⟨h2', hh2⟩ : ∃ h2' : Nat, h2' = Y / 18446744073709551616 := ⟨_, rfl⟩
          have E4 : IntKind.u64.wrap ((h' : Int) + 1) = (h2' : Int) := by rw [IntKind.wrap_u64]; omega
          have HY : Hid (h2' = Y / 18446744073709551616 ∧ s = Y % 18446744073709551616) := ⟨hh2, hs⟩
          clear hst hB1 hB0 hh' hl' hc hs hh2 haa hx1 hx0
          go_wp2_with fail
          go_roundw
          case rel =>
            have hjj := hjm.out
            exact ⟨j, by omega, by rw [HY.out.1, HYY.out], by rw [HY.out.2, HYY.out], by first | rfl | (congr 1; omega) | (congr 1; rw [IntWalk.i64_in _ (by omega)]), by first | rfl | trivial⟩
          case measure =>
            have hjj := hjm.out
            first | (simp [intOf]; done) | (simp [intOf]; omega)
        · have hc' : decide ((s : Int) < (l' : Int)) = false := decide_eq_false (by omega)
          have hc2 : ¬ (s : Int) < (l' : Int) := by omega
          have HY : Hid (h' = Y / 18446744073709551616 ∧ s = Y % 18446744073709551616) := ⟨by omega, hs⟩
          clear hst hB1 hB0 hh' hl' hc hs haa hx1 hx0
          go_wp2_with fail
          go_roundw
          case rel =>
            have hjj := hjm.out
            exact ⟨j, by omega, by rw [HY.out.1, HYY.out], by rw [HY.out.2, HYY.out], by first | rfl | (congr 1; omega) | (congr 1; rw [IntWalk.i64_in _ (by omega)]), by first | rfl | trivial⟩
          case measure =>
            have hjj := hjm.out
            first | (simp [intOf]; done) | (simp [intOf]; omega)
end Go.Proofs.Ytbbgcjdflcfnjaa
