/- The document's own answers: divide. -/
import Derived.Test.YtbbgcjdflcfnjaaR3
namespace Go.Proofs.Ytbbgcjdflcfnjaa
open Go.ChangeShapes Go.WideShapes Go.ChangeAt Go.RowKit
set_option linter.unusedVariables false
set_option linter.unusedSimpArgs false
theorem dm_unique {n k d m : Nat} (hk : 0 < k) (h : m + k * d = n) (hm : m < k) : n / k = d ∧ n % k = m := by
  constructor
  · rw [← h, Nat.add_mul_div_left _ _ hk, Nat.div_eq_of_lt hm, Nat.zero_add]
  · rw [← h, Nat.add_mul_mod_self_left, Nat.mod_eq_of_lt hm]
theorem div_ge (X b bit : Nat) (hb : 0 < b) (h1 : bit < 2) (h : b ≤ 2 * (X % b) + bit) : (2 * X + bit) / b = 2 * (X / b) + 1 ∧ (2 * X + bit) % b = 2 * (X % b) + bit - b := by
  have e := Nat.div_add_mod X b
  have hr := Nat.mod_lt X hb
  refine dm_unique hb ?_ (by omega)
  rw [Nat.mul_add, Nat.mul_left_comm]; generalize b * (X / b) = t at *; omega
theorem div_lt (X b bit : Nat) (hb : 0 < b) (h1 : bit < 2) (h : 2 * (X % b) + bit < b) : (2 * X + bit) / b = 2 * (X / b) ∧ (2 * X + bit) % b = 2 * (X % b) + bit := by
  have e := Nat.div_add_mod X b
  refine dm_unique hb ?_ h
  rw [Nat.mul_left_comm]; generalize b * (X / b) = t at *; omega
set_option maxRecDepth 100000 in
set_option maxHeartbeats 4000000 in
theorem divide_c (a b wd : Nat) (ha : Hid (a < 18446744073709551616)) (hb : Hid (b < 18446744073709551616)) (hz : Hid (0 < b)) (hw : Hid (wd ≤ 64)) (haw : Hid (a < 2 ^ wd)) (w : World) : Calls Try.prog 41 #[.int .u64 a, .int .u64 b, .int .i64 wd] w (RetP (a / b) (a % b) w) := by
  have hw1 : (wd : Int) ≤ 64 := by have := hw.out; omega
  have hw0 : Hid (wrap64 ((wd : Int) - 1) = (wd : Int) - 1) := by have := hw.out; show _ = _; rw [← IntWalk.i64_left, IntKind.wrap_i64]; omega
  clear hw1
  go_enter Try.func41, Try.ntmps41
  go_wp2_with fail
  go_loopw [8, 9, 10] (fun q r i wr => ∃ m : Nat, m ≤ wd ∧ q = .int .u64 ((a / 2 ^ m / b : Nat) : Int) ∧ r = .int .u64 ((a / 2 ^ m % b : Nat) : Int) ∧ i = .int .i64 ((m : Int) - 1) ∧ w = wr) (fun _ _ i _ => (intOf i + 1).toNat)
  case atStart =>
    have h0 : a / 2 ^ wd = 0 := Nat.div_eq_of_lt haw.out
    exact ⟨wd, by omega, by rw [h0]; simp, by rw [h0]; simp, by first | rfl | exact congrArg (Value.int .i64) hw0.out, rfl⟩
  case round =>
    obtain ⟨m, hm, rfl, rfl, rfl, rfl⟩ := hrel
    cases m with
    | zero =>
      have e0 : ((0 : Nat) : Int) - 1 = -1 := by decide
      have HE : Hid (a / 2 ^ 0 = a) := by show _ = _; simp
      rw [HE.out, e0]
      go_wp2_with fail
      exact bodyPost_ret (v := .tuple #[_, _]) (by simp [results, Try.results41, go_sem] <;> (first | rfl | (repeat' (first | rfl | apply And.intro)))) rfl (retP_mk rfl rfl (by repeat (first | (with_reducible first | exact Below.refl _ _ | assumption | exact Nat.le_refl _ | refine Below.drew ?_ | refine Below.alloc ?_ ?_ _ | refine below_drewN ?_ _ | refine Below.setCell ?_ ?_ _ | refine le_alloc ?_ | refine le_set ?_ | refine le_drew ?_ | refine le_drewN ?_ | refine below_step (by assumption) ?_ ?_ | refine le_below (by assumption) ?_) | (dsimp only; omega))))
    | succ j =>
      have ei : ((j + 1 : Nat) : Int) - 1 = (j : Int) := by omega
      have hj64 : j < 64 := by have := hw.out; omega
      have hj : (j : Int) ≤ 64 := by omega
      have hj0 : 0 ≤ (j : Int) := by omega
      have hbit := bit_form a j ha.out
      have hst := div_step a j
      have hY : a / 2 ^ j < 18446744073709551616 := Nat.lt_of_le_of_lt (Nat.div_le_self _ _) ha.out
      have hjm : Hid (j < 64 ∧ j + 1 ≤ wd) := ⟨hj64, hm⟩
      have h2 : a / 2 ^ j % 2 < 2 := Nat.mod_lt _ (by decide)
      have hge := div_ge (a / 2 ^ (j + 1)) b (a / 2 ^ j % 2) hz.out h2
      have hlt := div_lt (a / 2 ^ (j + 1)) b (a / 2 ^ j % 2) hz.out h2
      rw [← hst] at hge hlt
      have hq1 : a / 2 ^ j / b < 18446744073709551616 := Nat.lt_of_le_of_lt (Nat.div_le_self _ _) hY
      have hr0 := Nat.mod_lt (a / 2 ^ (j + 1)) hz.out
      have hbb := hb.out
      obtain ⟨Q, hQ⟩ : ∃ Q, Q = a / 2 ^ j / b := ⟨_, rfl⟩
      obtain ⟨R, hR⟩ : ∃ R, R = a / 2 ^ j % b := ⟨_, rfl⟩
      rw [← hQ, ← hR] at hge hlt
      rw [← hQ] at hq1
      have HQ := Lib.hid hQ
      have HR := Lib.hid hR
      clear hQ hR hst hY
      rw [ei]
      generalize a / 2 ^ (j + 1) / b = q at *
      generalize a / 2 ^ (j + 1) % b = r at *
      generalize a / 2 ^ j % 2 = bt at *
      clear hm
      obtain ⟨r1, hr1⟩ : ∃ r1 : Nat, r1 = (2 * r + bt) % 18446744073709551616 := ⟨_, rfl⟩
      obtain ⟨q1, hq2⟩ : ∃ q1 : Nat, q1 = 2 * q := ⟨_, rfl⟩
      have E1 : IntKind.u64.wrap (IntKind.u64.wrap ((r : Int) * 2) + (bt : Int)) = (r1 : Int) := by
        rw [IntKind.wrap_u64, IntKind.wrap_u64]; omega
      by_cases hc : b ≤ 2 * r + bt
      · obtain ⟨g1, g2⟩ := hge hc
        have E2 : IntKind.u64.wrap ((q : Int) * 2) = (q1 : Int) := by rw [IntKind.wrap_u64]; omega
        have E3 : IntKind.u64.wrap ((q1 : Int) + 1) = (Q : Int) := by rw [IntKind.wrap_u64]; omega
        have E4 : IntKind.u64.wrap ((r1 : Int) - (b : Int)) = (R : Int) := by rw [IntKind.wrap_u64]; omega
        by_cases ho : 9223372036854775808 ≤ r
        · have eo : ((r : Int) / 9223372036854775808 == 1) = true := by rw [beq_iff_eq]; omega
          clear hge hlt hc ho g1 g2 hr1 hq2 hq1 hr0 hbb h2 hj64
          go_wp2_with fail
          go_roundw
          case rel =>
            have hjj := hjm.out
            exact ⟨j, by omega, by rw [HQ.out], by rw [HR.out], by first | rfl | (congr 1; omega) | (congr 1; rw [IntWalk.i64_in _ (by omega)]), by first | rfl | trivial⟩
          case measure =>
            have hjj := hjm.out
            first | (simp [intOf]; done) | (simp [intOf]; omega)
        · have eo : ((r : Int) / 9223372036854775808 == 1) = false := by rw [beq_eq_false_iff_ne]; omega
          have hc' : (b : Int) ≤ (r1 : Int) := by omega
          clear hge hlt hc ho g1 g2 hr1 hq2 hq1 hr0 hbb h2 hj64
          go_wp2_with fail
          go_roundw
          case rel =>
            have hjj := hjm.out
            exact ⟨j, by omega, by rw [HQ.out], by rw [HR.out], by first | rfl | (congr 1; omega) | (congr 1; rw [IntWalk.i64_in _ (by omega)]), by first | rfl | trivial⟩
          case measure =>
            have hjj := hjm.out
            first | (simp [intOf]; done) | (simp [intOf]; omega)
      · obtain ⟨g1, g2⟩ := hlt (by omega)
        have E2 : IntKind.u64.wrap ((q : Int) * 2) = (Q : Int) := by rw [IntKind.wrap_u64]; omega
        have eo : ((r : Int) / 9223372036854775808 == 1) = false := by rw [beq_eq_false_iff_ne]; omega
        have hc' : ¬ (b : Int) ≤ (r1 : Int) := by omega
        have hc2 : decide ((b : Int) ≤ (r1 : Int)) = false := decide_eq_false hc'
        have hRR : r1 = R := by omega
        subst hRR
        clear hge hlt hc g1 g2 hr1 hq2 hq1 hr0 hbb h2 hj64
        go_wp2_with fail
        go_roundw
        case rel =>
          have hjj := hjm.out
          exact ⟨j, by omega, by rw [HQ.out], by rw [HR.out], by first | rfl | (congr 1; omega) | (congr 1; rw [IntWalk.i64_in _ (by omega)]), by first | rfl | trivial⟩
        case measure =>
          have hjj := hjm.out
          first | (simp [intOf]; done) | (simp [intOf]; omega)
end Go.Proofs.Ytbbgcjdflcfnjaa
