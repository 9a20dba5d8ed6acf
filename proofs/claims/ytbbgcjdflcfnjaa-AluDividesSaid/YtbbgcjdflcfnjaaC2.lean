/- AluDivides, of whatever its calls tell. -/
import Derived.Test.YtbbgcjdflcfnjaaF2
import Derived.BigGuardPart
namespace Go.Proofs.Ytbbgcjdflcfnjaa
open Go.ChangeShapes Go.WideShapes Go.ChangeAt Go.RowKit
set_option linter.unusedVariables false
set_option linter.unusedSimpArgs false
def distV (a : Nat) : Nat := if a < 9223372036854775808 then a else 18446744073709551616 - a
set_option maxRecDepth 100000 in
theorem distance_c (a : Nat) (ha : Hid (a < 18446744073709551616)) (w : World) : Calls Try.prog 20 #[.int .u64 a] w (RetV .u64 ((distV a : Nat) : Int) w) := by
  have h := ha.out
  by_cases hl : a < 9223372036854775808
  · have hd : Hid (distV a = a) := if_pos hl
    have e : ((a : Int) / 9223372036854775808 == 1) = false := by rw [beq_eq_false_iff_ne]; omega
    clear h hl
    go_enter Try.func20, Try.ntmps20
    go_wp2
    go_ret
    exact retV_mk (by rw [hd.out]) (by repeat (first | (with_reducible first | exact Below.refl _ _ | assumption | exact Nat.le_refl _ | refine Below.drew ?_ | refine Below.alloc ?_ ?_ _ | refine below_drewN ?_ _ | refine Below.setCell ?_ ?_ _ | refine le_alloc ?_ | refine le_set ?_ | refine le_drew ?_ | refine le_drewN ?_ | refine below_step (by assumption) ?_ ?_ | refine le_below (by assumption) ?_) | (dsimp only; omega)))
  · have hd : Hid (distV a = 18446744073709551616 - a) := if_neg hl
    have e : ((a : Int) / 9223372036854775808 == 1) = true := by rw [beq_iff_eq]; omega
    have HL := Lib.hid hl
    clear h hl
    go_enter Try.func20, Try.ntmps20
    go_wp2
    go_ret
    exact retV_mk (by rw [hd.out]; have h1 := ha.out; have h2 := HL.out; (try rw [IntKind.wrap_u64]); omega) (by repeat (first | (with_reducible first | exact Below.refl _ _ | assumption | exact Nat.le_refl _ | refine Below.drew ?_ | refine Below.alloc ?_ ?_ _ | refine below_drewN ?_ _ | refine Below.setCell ?_ ?_ _ | refine le_alloc ?_ | refine le_set ?_ | refine le_drew ?_ | refine le_drewN ?_ | refine below_step (by assumption) ?_ ?_ | refine le_below (by assumption) ?_) | (dsimp only; omega)))
set_option maxRecDepth 100000 in
theorem divides_zero (a : Nat)
    (D1 : Hid (∀ v, Calls Try.prog 11 #[.int .i64 27, .bool false, .int .u64 a, .int .u64 0] v (RetN 18446744073709551615 true v)))
    (D2 : Hid (∀ v, Calls Try.prog 11 #[.int .i64 29, .bool false, .int .u64 a, .int .u64 0] v (RetN a true v)))
    (D3 : Hid (∀ v, Calls Try.prog 11 #[.int .i64 28, .bool false, .int .u64 a, .int .u64 0] v (RetN 18446744073709551615 true v)))
    (D4 : Hid (∀ v, Calls Try.prog 11 #[.int .i64 30, .bool false, .int .u64 a, .int .u64 0] v (RetN a true v)))
    (w : World) : Calls Try.prog 7 #[.int .u64 a, .int .u64 0] w (RetB true w) := by
  go_enter Try.func7, Try.ntmps7
  go_wp2_with fail
  refine (D1.out _).mono ?_; rintro e w1 ⟨rfl, hb1⟩
  go_wp2_with fail
  refine (D2.out _).mono ?_; rintro e w2 ⟨rfl, hb2⟩
  go_wp2_with fail
  refine (D3.out _).mono ?_; rintro e w3 ⟨rfl, hb3⟩
  go_wp2_with fail
  refine (D4.out _).mono ?_; rintro e w4 ⟨rfl, hb4⟩
  go_wp2_with fail
  refine (fixed_c _).mono ?_; rintro e w7 ⟨rfl, hb7⟩
  go_wp2_with fail
  go_ret
  exact retB_mk (by first | rfl | simp) (by repeat (first | (with_reducible first | exact Below.refl _ _ | assumption | exact Nat.le_refl _ | refine Below.drew ?_ | refine Below.alloc ?_ ?_ _ | refine below_drewN ?_ _ | refine Below.setCell ?_ ?_ _ | refine le_alloc ?_ | refine le_set ?_ | refine le_drew ?_ | refine le_drewN ?_ | refine below_step (by assumption) ?_ ?_ | refine le_below (by assumption) ?_) | (dsimp only; omega)))
set_option maxRecDepth 100000 in
set_option maxHeartbeats 4000000 in
theorem divides_core (a b q r u v dr db : Nat) (x1 : Bool)
    (D1 : Hid (∀ v, Calls Try.prog 11 #[.int .i64 27, .bool false, .int .u64 a, .int .u64 b] v (RetN q true v)))
    (D2 : Hid (∀ v, Calls Try.prog 11 #[.int .i64 29, .bool false, .int .u64 a, .int .u64 b] v (RetN r true v)))
    (D3 : Hid (∀ v, Calls Try.prog 11 #[.int .i64 28, .bool false, .int .u64 a, .int .u64 b] v (RetN u true v)))
    (D4 : Hid (∀ y, Calls Try.prog 11 #[.int .i64 30, .bool false, .int .u64 a, .int .u64 b] y (RetN v true y)))
    (D5 : Hid (∀ v, Calls Try.prog 20 #[.int .u64 r] v (RetV .u64 (dr : Int) v)))
    (D6 : Hid (∀ v, Calls Try.prog 20 #[.int .u64 b] v (RetV .u64 (db : Int) v)))
    (e0 : ((b : Int) == 0) = false)
    (eq : IntKind.u64.wrap (IntKind.u64.wrap ((q : Int) * (b : Int)) + (r : Int)) = (a : Int))
    (eu : IntKind.u64.wrap (IntKind.u64.wrap ((u : Int) * (b : Int)) + (v : Int)) = (a : Int))
    (k1 : (v : Int) < (b : Int)) (k2 : (u : Int) ≤ (a : Int)) (k3 : (dr : Int) < (db : Int))
    (e1 : ((r : Int) == 0) = x1) (e2 : x1 = false → ((r : Int) / 9223372036854775808 == (a : Int) / 9223372036854775808) = true)
    (w : World) : Calls Try.prog 7 #[.int .u64 a, .int .u64 b] w (RetB true w) := by
  cases x1
  all_goals (
    first | (have k4 := e2 rfl) | skip
    clear e2
    go_enter Try.func7, Try.ntmps7
    go_wp2_with fail
    refine (D1.out _).mono ?_; rintro e w1 ⟨rfl, hb1⟩
    go_wp2_with fail
    refine (D2.out _).mono ?_; rintro e w2 ⟨rfl, hb2⟩
    go_wp2_with fail
    refine (D3.out _).mono ?_; rintro e w3 ⟨rfl, hb3⟩
    go_wp2_with fail
    refine (D4.out _).mono ?_; rintro e w4 ⟨rfl, hb4⟩
    go_wp2_with fail
    refine (fixed_c _).mono ?_; rintro e w7 ⟨rfl, hb7⟩
    go_wp2_with fail
    refine (D5.out _).mono ?_; rintro e w8 ⟨rfl, hb8⟩
    go_wp2_with fail
    refine (D6.out _).mono ?_; rintro e w9 ⟨rfl, hb9⟩
    go_wp2_with fail
    go_ret
    exact retB_mk (by first | rfl | simp) (by repeat (first | (with_reducible first | exact Below.refl _ _ | assumption | exact Nat.le_refl _ | refine Below.drew ?_ | refine Below.alloc ?_ ?_ _ | refine below_drewN ?_ _ | refine Below.setCell ?_ ?_ _ | refine le_alloc ?_ | refine le_set ?_ | refine le_drew ?_ | refine le_drewN ?_ | refine below_step (by assumption) ?_ ?_ | refine le_below (by assumption) ?_) | (dsimp only; omega))))
end Go.Proofs.Ytbbgcjdflcfnjaa
