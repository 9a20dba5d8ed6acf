/- The document's own answers: Wide, below, minus. -/
import Derived.Test.YtbbgcjdflcfnjaaR1
namespace Go.Proofs.Ytbbgcjdflcfnjaa
open Go.ChangeShapes Go.WideShapes Go.ChangeAt Go.RowKit
set_option linter.unusedVariables false
set_option linter.unusedSimpArgs false
def wideV (wd a : Nat) : Nat := if highV wd (a % 2 ^ wd) then a % 2 ^ wd + (18446744073709551616 - 2 ^ wd) else a % 2 ^ wd
def belowV (wd a b : Nat) (s : Bool) : Bool := if s && (highV wd a != highV wd b) then highV wd a else decide (a < b)
def minusV (wd a : Nat) : Nat := (18446744073709551616 - a) % 18446744073709551616 % 2 ^ wd
set_option maxRecDepth 100000 in
theorem wide_no (a wd l : Nat) (h2 : wd ≤ 64)
    (D1 : Hid (∀ w, Calls Try.prog 25 #[.int .u64 a, .int .i64 wd] w (RetV .u64 (l : Int) w)))
    (D2 : Hid (∀ w, Calls Try.prog 29 #[.int .u64 l, .int .i64 wd] w (RetB false w)))
    (w : World) : Calls Try.prog 26 #[.int .u64 a, .int .i64 wd] w (RetV .u64 (l : Int) w) := by
  by_cases h : wd < 64
  · have h' : (wd : Int) < 64 := by omega
    go_enter Try.func26, Try.ntmps26
    go_wp2_with fail
    refine (D1.out _).mono ?_; rintro e w1 ⟨rfl, hb1⟩
    go_wp2_with fail
    refine (D2.out _).mono ?_; rintro e w2 ⟨rfl, hb2⟩
    go_wp2_with fail
    refine wp_loop_once ?_
    go_wp2_with fail
    go_ret
    exact retV_mk rfl (by repeat (first | (with_reducible first | exact Below.refl _ _ | assumption | exact Nat.le_refl _ | refine Below.drew ?_ | refine Below.alloc ?_ ?_ _ | refine below_drewN ?_ _ | refine Below.setCell ?_ ?_ _ | refine le_alloc ?_ | refine le_set ?_ | refine le_drew ?_ | refine le_drewN ?_ | refine below_step (by assumption) ?_ ?_ | refine le_below (by assumption) ?_) | (dsimp only; omega)))
  · have h' : ¬ (wd : Int) < 64 := by omega
    go_enter Try.func26, Try.ntmps26
    go_wp2_with fail
    refine (D1.out _).mono ?_; rintro e w1 ⟨rfl, hb1⟩
    go_wp2_with fail
    refine (D2.out _).mono ?_; rintro e w2 ⟨rfl, hb2⟩
    go_wp2_with fail
    refine wp_loop_once ?_
    go_wp2_with fail
    go_ret
    exact retV_mk rfl (by repeat (first | (with_reducible first | exact Below.refl _ _ | assumption | exact Nat.le_refl _ | refine Below.drew ?_ | refine Below.alloc ?_ ?_ _ | refine below_drewN ?_ _ | refine Below.setCell ?_ ?_ _ | refine le_alloc ?_ | refine le_set ?_ | refine le_drew ?_ | refine le_drewN ?_ | refine below_step (by assumption) ?_ ?_ | refine le_below (by assumption) ?_) | (dsimp only; omega)))

theorem wide_step (l k wd : Nat) (h1 : wd ≤ k) (h2 : k < 64) (hl : l < 2 ^ wd) : l + (2 ^ k - 2 ^ wd) + 2 ^ k = l + (2 ^ (k + 1) - 2 ^ wd) ∧ l + (2 ^ (k + 1) - 2 ^ wd) < 18446744073709551616 := by
  have e1 : 2 ^ wd ≤ 2 ^ k := Nat.pow_le_pow_right (by decide) h1
  have e2 : 2 ^ (k + 1) ≤ 18446744073709551616 := pow_le64 (k + 1) (by omega)
  rw [Nat.pow_succ] at *
  generalize 2 ^ wd = p at *
  generalize 2 ^ k = q at *
  omega
set_option maxRecDepth 100000 in
theorem wide_yes (a wd l : Nat) (h2 : wd ≤ 64) (hl : l < 2 ^ wd)
    (D1 : Hid (∀ w, Calls Try.prog 25 #[.int .u64 a, .int .i64 wd] w (RetV .u64 (l : Int) w)))
    (D2 : Hid (∀ w, Calls Try.prog 29 #[.int .u64 l, .int .i64 wd] w (RetB true w)))
    (w : World) : Calls Try.prog 26 #[.int .u64 a, .int .i64 wd] w (RetV .u64 ((l + (18446744073709551616 - 2 ^ wd) : Nat) : Int) w) := by
  have HL := Lib.hid hl; clear hl
  go_enter Try.func26, Try.ntmps26
  go_wp2_with fail
  refine (D1.out _).mono ?_; rintro e w1 ⟨rfl, hb1⟩
  go_wp2_with fail
  refine (D2.out _).mono ?_; rintro e w2 ⟨rfl, hb2⟩
  go_wp2_with fail
  have HB : Hid (Below w.heap.size w w2) := by show Below _ _ _; exact (by repeat (first | (with_reducible first | exact Below.refl _ _ | assumption | exact Nat.le_refl _ | refine Below.drew ?_ | refine Below.alloc ?_ ?_ _ | refine below_drewN ?_ _ | refine Below.setCell ?_ ?_ _ | refine le_alloc ?_ | refine le_set ?_ | refine le_drew ?_ | refine le_drewN ?_ | refine below_step (by assumption) ?_ ?_ | refine le_below (by assumption) ?_) | (dsimp only; omega)))
  clear hb1 hb2
  go_loopw [5, 7] (fun o i wr => ∃ k : Nat, wd ≤ k ∧ k ≤ 64 ∧ o = .int .u64 ((l + (2 ^ k - 2 ^ wd) : Nat) : Int) ∧ i = .int .i64 (k : Int) ∧ w2 = wr) (fun _ i _ => ((64 : Int) - intOf i).toNat)
  case atStart => exact ⟨wd, by omega, h2, by congr 2; omega, rfl, rfl⟩
  case round =>
    obtain ⟨k, hk1, hk2, rfl, rfl, rfl⟩ := hrel
    by_cases hlt : k < 64
    · have hlt' : (k : Int) < 64 := by omega
      have hk6 : (k : Int) ≤ 64 := by omega
      have hp := pow_lt64 k (by omega)
      have e2 : IntKind.u64.wrap ((2 : Int) ^ k) = (2 : Int) ^ k := by rw [pow_cast, IntKind.wrap_u64]; generalize 2 ^ k = p at *; omega
      have HS := Lib.hid (wide_step l k wd hk1 hlt HL.out)
      have hkw : Hid (wd ≤ k ∧ k < 64) := ⟨hk1, hlt⟩
      have HP : Hid ((2 : Int) ^ k = ((2 ^ k : Nat) : Int)) := pow_cast k
      generalize l + (2 ^ k - 2 ^ wd) = x at *
      clear hlt hk1 hk2 h2 hp
      go_wp2_with fail
      go_roundw
      case rel =>
        have h20 := HS.out; have hkk := hkw.out; have hpp := HP.out
        exact ⟨k + 1, by omega, by omega, by congr 1; (try rw [IntKind.wrap_u64]); rw [hpp]; generalize 2 ^ k = p at *; omega, by first | rfl | (congr 1; omega) | (congr 1; rw [IntWalk.i64_in _ (by omega)]; omega), by first | rfl | trivial⟩
      case measure =>
        have hkk := hkw.out
        first | (simp [intOf]; done) | (simp [intOf]; omega)
    · have hk' : k = 64 := by omega
      have hlt' : ¬ (k : Int) < 64 := by omega
      subst hk'
      go_wp2_with fail
      go_ret
      exact retV_mk rfl HB.out
theorem wide_c (a wd : Nat) (ha : Hid (a < 18446744073709551616)) (h1 : 1 ≤ wd) (h2 : wd ≤ 64) (w : World) : Calls Try.prog 26 #[.int .u64 a, .int .i64 wd] w (RetV .u64 ((wideV wd a : Nat) : Int) w) := by
  have hl : a % 2 ^ wd < 18446744073709551616 := Nat.lt_of_le_of_lt (Nat.mod_le _ _) ha.out
  have hw : wideV wd a = if highV wd (a % 2 ^ wd) then a % 2 ^ wd + (18446744073709551616 - 2 ^ wd) else a % 2 ^ wd := rfl
  have D1 := Lib.hid (fun w => low_c a wd ha h2 w)
  have D2 := Lib.hid (fun w => high_c (a % 2 ^ wd) wd hl h1 h2 w)
  cases hh : highV wd (a % 2 ^ wd) with
  | false => rw [hh] at D2; rw [hw, hh, if_neg (by decide)]; exact wide_no a wd _ h2 D1 D2 w
  | true => rw [hh] at D2; rw [hw, hh, if_pos rfl]; exact wide_yes a wd _ h2 (Nat.mod_lt _ (Nat.two_pow_pos wd)) D1 D2 w
set_option maxRecDepth 100000 in
theorem below_c (a b wd : Nat) (s : Bool) (ha : Hid (a < 18446744073709551616)) (hb : Hid (b < 18446744073709551616)) (h1 : 1 ≤ wd) (h2 : wd ≤ 64) (w : World) : Calls Try.prog 28 #[.int .u64 a, .int .u64 b, .int .i64 wd, .bool s] w (RetB (belowV wd a b s) w) := by
  have hv : Hid (belowV wd a b s = if s && (highV wd a != highV wd b) then highV wd a else decide (a < b)) := rfl
  have D1 := Lib.hid (fun w => high_c a wd ha h1 h2 w)
  have D2 := Lib.hid (fun w => high_c b wd hb h1 h2 w)
  generalize highV wd a = x at *
  generalize highV wd b = y at *
  clear h1 h2
  cases s <;> cases x <;> cases y
  all_goals (
    go_enter Try.func28, Try.ntmps28
    go_wp2_with fail
    refine (D1.out _).mono ?_; rintro e w1 ⟨rfl, hb1⟩
    go_wp2_with fail
    refine (D2.out _).mono ?_; rintro e w2 ⟨rfl, hb2⟩
    go_wp2_with fail
    go_ret
    exact retB_mk (by rw [hv.out]; first | rfl | (simp; done) | (simp; omega)) (by repeat (first | (with_reducible first | exact Below.refl _ _ | assumption | exact Nat.le_refl _ | refine Below.drew ?_ | refine Below.alloc ?_ ?_ _ | refine below_drewN ?_ _ | refine Below.setCell ?_ ?_ _ | refine le_alloc ?_ | refine le_set ?_ | refine le_drew ?_ | refine le_drewN ?_ | refine below_step (by assumption) ?_ ?_ | refine le_below (by assumption) ?_) | (dsimp only; omega))))
theorem not_nat (a n : Nat) (h : a < 2 ^ n) : (2 ^ n - 1) ^^^ a = 2 ^ n - (a + 1) := by
  apply Nat.eq_of_testBit_eq
  intro i
  rw [Nat.testBit_xor, Nat.testBit_two_pow_sub_succ h, Nat.testBit_two_pow_sub_one]
  by_cases hi : i < n
  · simp [hi]
  · have : a.testBit i = false := Nat.testBit_lt_two_pow (Nat.lt_of_lt_of_le h (Nat.pow_le_pow_right (by decide) (by omega)))
    simp [hi, this]
theorem not64 (a : Nat) (h : a < 18446744073709551616) : bits .xor .u64 IntKind.u64.max (a : Int) = ((18446744073709551615 - a : Nat) : Int) := by
  rw [show IntKind.u64.max = ((18446744073709551615 : Nat) : Int) by rfl, bits_xor_u64_nat _ a (by decide) h]
  have := not_nat a 64 h
  rw [show (2 : Nat) ^ 64 = 18446744073709551616 by decide] at this
  simp only [Nat.reduceSub] at this
  rw [this]; omega
set_option maxRecDepth 100000 in
theorem minus_c (a wd : Nat) (ha : Hid (a < 18446744073709551616)) (h2 : wd ≤ 64) (w : World) : Calls Try.prog 46 #[.int .u64 a, .int .i64 wd] w (RetV .u64 ((minusV wd a : Nat) : Int) w) := by
  have hm : (18446744073709551616 - a) % 18446744073709551616 < 18446744073709551616 := Nat.mod_lt _ (by decide)
  have D1 := Lib.hid (fun w => low_c ((18446744073709551616 - a) % 18446744073709551616) wd hm h2 w)
  have e1 : IntKind.u64.wrap (bits .xor .u64 IntKind.u64.max (a : Int) + 1) = (((18446744073709551616 - a) % 18446744073709551616 : Nat) : Int) := by
    have := ha.out; rw [not64 a this, IntKind.wrap_u64]; omega
  have E1 := Lib.hid e1; clear e1
  clear hm h2
  have hv : Hid (minusV wd a = (18446744073709551616 - a) % 18446744073709551616 % 2 ^ wd) := rfl
  generalize (18446744073709551616 - a) % 18446744073709551616 = x at *
  go_enter Try.func46, Try.ntmps46
  go_wp2_with fail
  rw [E1.out]
  refine (D1.out _).mono ?_; rintro e w1 ⟨rfl, hb1⟩
  go_wp2_with fail
  go_ret
  exact retV_mk (by rw [hv.out]; first | rfl | simp) (by repeat (first | (with_reducible first | exact Below.refl _ _ | assumption | exact Nat.le_refl _ | refine Below.drew ?_ | refine Below.alloc ?_ ?_ _ | refine below_drewN ?_ _ | refine Below.setCell ?_ ?_ _ | refine le_alloc ?_ | refine le_set ?_ | refine le_drew ?_ | refine le_drewN ?_ | refine below_step (by assumption) ?_ ?_ | refine le_below (by assumption) ?_) | (dsimp only; omega)))
end Go.Proofs.Ytbbgcjdflcfnjaa
