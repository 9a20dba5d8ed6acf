/- The document's own answers: Atomic. -/
import Derived.Test.YtbbgcjdflcfnjaaR8
namespace Go.Proofs.Ytbbgcjdflcfnjaa
open Go.ChangeShapes Go.WideShapes Go.ChangeAt Go.RowKit
set_option linter.unusedVariables false
set_option linter.unusedSimpArgs false
set_option maxRecDepth 100000 in
set_option maxHeartbeats 1000000 in
theorem at4_40 (a b a1 b1 : Nat) (ha : Hid (a1 < 4294967296)) (hb : Hid (b1 < 4294967296)) (D1 : Hid (∀ w, Calls Try.prog 25 #[.int .u64 a, .int .i64 32] w (RetV .u64 (a1 : Int) w)))
    (D2 : Hid (∀ w, Calls Try.prog 25 #[.int .u64 b, .int .i64 32] w (RetV .u64 (b1 : Int) w)))
    (D3 : Hid (∀ w, Calls Try.prog 28 #[.int .u64 a1, .int .u64 b1, .int .i64 32, .bool true] w (RetB (decide (sgn H32 a1 < sgn H32 b1)) w)))
    (w : World) : Calls Try.prog 17 #[.int .i64 40, .int .i64 4, .int .u64 a, .int .u64 b] w (RetO .u64 (swapV H32 40 a1 b1) w) := by
  have hv : Hid (swapV H32 40 a1 b1 = some b1) := rfl
  generalize decide (sgn H32 a1 < sgn H32 b1) = l at *
  go_enter Try.func17, Try.ntmps17
  go_wp2_with fail
  refine (D1.out _).mono ?_; rintro e w1 ⟨rfl, hb1⟩
  go_wp2_with fail
  refine (D2.out _).mono ?_; rintro e w2 ⟨rfl, hb2⟩
  go_wp2_with fail
  refine (D3.out _).mono ?_; rintro e w3 ⟨rfl, hb3⟩
  go_wp2_with fail
  go_ret2
  exact retO_mk _ hv.out rfl rfl (by repeat (first | (with_reducible first | exact Below.refl _ _ | assumption | exact Nat.le_refl _ | refine Below.drew ?_ | refine Below.alloc ?_ ?_ _ | refine below_drewN ?_ _ | refine Below.setCell ?_ ?_ _ | refine le_alloc ?_ | refine le_set ?_ | refine le_drew ?_ | refine le_drewN ?_ | refine below_step (by assumption) ?_ ?_ | refine le_below (by assumption) ?_) | (dsimp only; omega)))
set_option maxRecDepth 100000 in
set_option maxHeartbeats 1000000 in
theorem at4_41 (a b a1 b1 : Nat) (ha : Hid (a1 < 4294967296)) (hb : Hid (b1 < 4294967296)) (D1 : Hid (∀ w, Calls Try.prog 25 #[.int .u64 a, .int .i64 32] w (RetV .u64 (a1 : Int) w)))
    (D2 : Hid (∀ w, Calls Try.prog 25 #[.int .u64 b, .int .i64 32] w (RetV .u64 (b1 : Int) w)))
    (D3 : Hid (∀ w, Calls Try.prog 28 #[.int .u64 a1, .int .u64 b1, .int .i64 32, .bool true] w (RetB (decide (sgn H32 a1 < sgn H32 b1)) w)))
    (w : World) : Calls Try.prog 17 #[.int .i64 41, .int .i64 4, .int .u64 a, .int .u64 b] w (RetO .u64 (swapV H32 41 a1 b1) w) := by
  have hv : Hid (swapV H32 41 a1 b1 = some ((a1 + b1) % 4294967296)) := rfl
  have h1 := ha.out; have h2 := hb.out
  have E : IntKind.u64.wrap ((a1 : Int) + (b1 : Int)) = (((a1 + b1) % 18446744073709551616 : Nat) : Int) := by rw [IntKind.wrap_u64]; omega
  have D4 : Hid (∀ w, Calls Try.prog 25 #[.int .u64 ((a1 + b1) % 18446744073709551616 : Nat), .int .i64 32] w (RetV .u64 (((a1 + b1) % 4294967296 : Nat) : Int) w)) := by
    show ∀ w, _
    intro w
    have h := low_c ((a1 + b1) % 18446744073709551616) 32 (Nat.mod_lt _ (by decide)) (by decide) w
    rw [show (a1 + b1) % 18446744073709551616 % 2 ^ 32 = (a1 + b1) % 4294967296 by omega] at h
    exact h
  obtain ⟨r, hr⟩ : ∃ r, r = (a1 + b1) % 4294967296 := ⟨_, rfl⟩
  obtain ⟨x, hx⟩ : ∃ x, x = (a1 + b1) % 18446744073709551616 := ⟨_, rfl⟩
  rw [← hr] at hv
  rw [← hx] at E
  rw [← hr, ← hx] at D4
  clear hx
  clear hr h1 h2
  generalize decide (sgn H32 a1 < sgn H32 b1) = l at *
  go_enter Try.func17, Try.ntmps17
  go_wp2_with fail
  refine (D1.out _).mono ?_; rintro e w1 ⟨rfl, hb1⟩
  go_wp2_with fail
  refine (D2.out _).mono ?_; rintro e w2 ⟨rfl, hb2⟩
  go_wp2_with fail
  refine (D3.out _).mono ?_; rintro e w3 ⟨rfl, hb3⟩
  go_wp2_with fail
  refine (D4.out _).mono ?_; rintro e w4 ⟨rfl, hb4⟩
  go_wp2_with fail
  go_ret2
  exact retO_mk _ hv.out rfl rfl (by repeat (first | (with_reducible first | exact Below.refl _ _ | assumption | exact Nat.le_refl _ | refine Below.drew ?_ | refine Below.alloc ?_ ?_ _ | refine below_drewN ?_ _ | refine Below.setCell ?_ ?_ _ | refine le_alloc ?_ | refine le_set ?_ | refine le_drew ?_ | refine le_drewN ?_ | refine below_step (by assumption) ?_ ?_ | refine le_below (by assumption) ?_) | (dsimp only; omega)))
set_option maxRecDepth 100000 in
set_option maxHeartbeats 1000000 in
theorem at4_42 (a b a1 b1 : Nat) (ha : Hid (a1 < 4294967296)) (hb : Hid (b1 < 4294967296)) (D1 : Hid (∀ w, Calls Try.prog 25 #[.int .u64 a, .int .i64 32] w (RetV .u64 (a1 : Int) w)))
    (D2 : Hid (∀ w, Calls Try.prog 25 #[.int .u64 b, .int .i64 32] w (RetV .u64 (b1 : Int) w)))
    (D3 : Hid (∀ w, Calls Try.prog 28 #[.int .u64 a1, .int .u64 b1, .int .i64 32, .bool true] w (RetB (decide (sgn H32 a1 < sgn H32 b1)) w)))
    (w : World) : Calls Try.prog 17 #[.int .i64 42, .int .i64 4, .int .u64 a, .int .u64 b] w (RetO .u64 (swapV H32 42 a1 b1) w) := by
  have hv : Hid (swapV H32 42 a1 b1 = some (a1 ^^^ b1)) := rfl
  obtain ⟨x, y, e1, e2, e3⟩ := xor_forms a1 b1 (Nat.lt_of_lt_of_le ha.out (by decide)) (Nat.lt_of_lt_of_le hb.out (by decide))
  generalize a1 ^^^ b1 = z at *
  generalize decide (sgn H32 a1 < sgn H32 b1) = l at *
  go_enter Try.func17, Try.ntmps17
  go_wp2_with fail
  refine (D1.out _).mono ?_; rintro e w1 ⟨rfl, hb1⟩
  go_wp2_with fail
  refine (D2.out _).mono ?_; rintro e w2 ⟨rfl, hb2⟩
  go_wp2_with fail
  refine (D3.out _).mono ?_; rintro e w3 ⟨rfl, hb3⟩
  go_wp2_with fail
  go_ret2
  exact retO_mk _ hv.out rfl rfl (by repeat (first | (with_reducible first | exact Below.refl _ _ | assumption | exact Nat.le_refl _ | refine Below.drew ?_ | refine Below.alloc ?_ ?_ _ | refine below_drewN ?_ _ | refine Below.setCell ?_ ?_ _ | refine le_alloc ?_ | refine le_set ?_ | refine le_drew ?_ | refine le_drewN ?_ | refine below_step (by assumption) ?_ ?_ | refine le_below (by assumption) ?_) | (dsimp only; omega)))
set_option maxRecDepth 100000 in
set_option maxHeartbeats 1000000 in
theorem at4_43 (a b a1 b1 : Nat) (ha : Hid (a1 < 4294967296)) (hb : Hid (b1 < 4294967296)) (D1 : Hid (∀ w, Calls Try.prog 25 #[.int .u64 a, .int .i64 32] w (RetV .u64 (a1 : Int) w)))
    (D2 : Hid (∀ w, Calls Try.prog 25 #[.int .u64 b, .int .i64 32] w (RetV .u64 (b1 : Int) w)))
    (D3 : Hid (∀ w, Calls Try.prog 28 #[.int .u64 a1, .int .u64 b1, .int .i64 32, .bool true] w (RetB (decide (sgn H32 a1 < sgn H32 b1)) w)))
    (w : World) : Calls Try.prog 17 #[.int .i64 43, .int .i64 4, .int .u64 a, .int .u64 b] w (RetO .u64 (swapV H32 43 a1 b1) w) := by
  have hv : Hid (swapV H32 43 a1 b1 = some (a1 &&& b1)) := rfl
  have e1 : bits .and .u64 (a1 : Int) (b1 : Int) = ((a1 &&& b1 : Nat) : Int) := bits_and_u64_nat a1 b1 (Nat.lt_of_lt_of_le ha.out (by decide)) (Nat.lt_of_lt_of_le hb.out (by decide))
  generalize a1 &&& b1 = z at *
  generalize decide (sgn H32 a1 < sgn H32 b1) = l at *
  go_enter Try.func17, Try.ntmps17
  go_wp2_with fail
  refine (D1.out _).mono ?_; rintro e w1 ⟨rfl, hb1⟩
  go_wp2_with fail
  refine (D2.out _).mono ?_; rintro e w2 ⟨rfl, hb2⟩
  go_wp2_with fail
  refine (D3.out _).mono ?_; rintro e w3 ⟨rfl, hb3⟩
  go_wp2_with fail
  go_ret2
  exact retO_mk _ hv.out rfl rfl (by repeat (first | (with_reducible first | exact Below.refl _ _ | assumption | exact Nat.le_refl _ | refine Below.drew ?_ | refine Below.alloc ?_ ?_ _ | refine below_drewN ?_ _ | refine Below.setCell ?_ ?_ _ | refine le_alloc ?_ | refine le_set ?_ | refine le_drew ?_ | refine le_drewN ?_ | refine below_step (by assumption) ?_ ?_ | refine le_below (by assumption) ?_) | (dsimp only; omega)))
set_option maxRecDepth 100000 in
set_option maxHeartbeats 1000000 in
theorem at4_44 (a b a1 b1 : Nat) (ha : Hid (a1 < 4294967296)) (hb : Hid (b1 < 4294967296)) (D1 : Hid (∀ w, Calls Try.prog 25 #[.int .u64 a, .int .i64 32] w (RetV .u64 (a1 : Int) w)))
    (D2 : Hid (∀ w, Calls Try.prog 25 #[.int .u64 b, .int .i64 32] w (RetV .u64 (b1 : Int) w)))
    (D3 : Hid (∀ w, Calls Try.prog 28 #[.int .u64 a1, .int .u64 b1, .int .i64 32, .bool true] w (RetB (decide (sgn H32 a1 < sgn H32 b1)) w)))
    (w : World) : Calls Try.prog 17 #[.int .i64 44, .int .i64 4, .int .u64 a, .int .u64 b] w (RetO .u64 (swapV H32 44 a1 b1) w) := by
  have hv : Hid (swapV H32 44 a1 b1 = some (a1 ||| b1)) := rfl
  have e1 : bits .or .u64 (a1 : Int) (b1 : Int) = ((a1 ||| b1 : Nat) : Int) := bits_or_u64_nat a1 b1 (Nat.lt_of_lt_of_le ha.out (by decide)) (Nat.lt_of_lt_of_le hb.out (by decide))
  generalize a1 ||| b1 = z at *
  generalize decide (sgn H32 a1 < sgn H32 b1) = l at *
  go_enter Try.func17, Try.ntmps17
  go_wp2_with fail
  refine (D1.out _).mono ?_; rintro e w1 ⟨rfl, hb1⟩
  go_wp2_with fail
  refine (D2.out _).mono ?_; rintro e w2 ⟨rfl, hb2⟩
  go_wp2_with fail
  refine (D3.out _).mono ?_; rintro e w3 ⟨rfl, hb3⟩
  go_wp2_with fail
  go_ret2
  exact retO_mk _ hv.out rfl rfl (by repeat (first | (with_reducible first | exact Below.refl _ _ | assumption | exact Nat.le_refl _ | refine Below.drew ?_ | refine Below.alloc ?_ ?_ _ | refine below_drewN ?_ _ | refine Below.setCell ?_ ?_ _ | refine le_alloc ?_ | refine le_set ?_ | refine le_drew ?_ | refine le_drewN ?_ | refine below_step (by assumption) ?_ ?_ | refine le_below (by assumption) ?_) | (dsimp only; omega)))
set_option maxRecDepth 100000 in
set_option maxHeartbeats 1000000 in
theorem at4_45 (a b a1 b1 : Nat) (ha : Hid (a1 < 4294967296)) (hb : Hid (b1 < 4294967296)) (D1 : Hid (∀ w, Calls Try.prog 25 #[.int .u64 a, .int .i64 32] w (RetV .u64 (a1 : Int) w)))
    (D2 : Hid (∀ w, Calls Try.prog 25 #[.int .u64 b, .int .i64 32] w (RetV .u64 (b1 : Int) w)))
    (D3 : Hid (∀ w, Calls Try.prog 28 #[.int .u64 a1, .int .u64 b1, .int .i64 32, .bool true] w (RetB (decide (sgn H32 a1 < sgn H32 b1)) w)))
    (w : World) : Calls Try.prog 17 #[.int .i64 45, .int .i64 4, .int .u64 a, .int .u64 b] w (RetO .u64 (swapV H32 45 a1 b1) w) := by
  have hv : Hid (swapV H32 45 a1 b1 = some (if sgn H32 a1 < sgn H32 b1 then a1 else b1)) := rfl
  by_cases hl : sgn H32 a1 < sgn H32 b1
  · rw [decide_eq_true hl] at D3
    rw [if_pos hl] at hv
    clear hl
    go_enter Try.func17, Try.ntmps17
    go_wp2_with fail
    refine (D1.out _).mono ?_; rintro e w1 ⟨rfl, hb1⟩
    go_wp2_with fail
    refine (D2.out _).mono ?_; rintro e w2 ⟨rfl, hb2⟩
    go_wp2_with fail
    refine (D3.out _).mono ?_; rintro e w3 ⟨rfl, hb3⟩
    go_wp2_with fail
    go_ret2
    exact retO_mk _ hv.out rfl rfl (by repeat (first | (with_reducible first | exact Below.refl _ _ | assumption | exact Nat.le_refl _ | refine Below.drew ?_ | refine Below.alloc ?_ ?_ _ | refine below_drewN ?_ _ | refine Below.setCell ?_ ?_ _ | refine le_alloc ?_ | refine le_set ?_ | refine le_drew ?_ | refine le_drewN ?_ | refine below_step (by assumption) ?_ ?_ | refine le_below (by assumption) ?_) | (dsimp only; omega)))
  · rw [decide_eq_false hl] at D3
    rw [if_neg hl] at hv
    clear hl
    go_enter Try.func17, Try.ntmps17
    go_wp2_with fail
    refine (D1.out _).mono ?_; rintro e w1 ⟨rfl, hb1⟩
    go_wp2_with fail
    refine (D2.out _).mono ?_; rintro e w2 ⟨rfl, hb2⟩
    go_wp2_with fail
    refine (D3.out _).mono ?_; rintro e w3 ⟨rfl, hb3⟩
    go_wp2_with fail
    go_ret2
    exact retO_mk _ hv.out rfl rfl (by repeat (first | (with_reducible first | exact Below.refl _ _ | assumption | exact Nat.le_refl _ | refine Below.drew ?_ | refine Below.alloc ?_ ?_ _ | refine below_drewN ?_ _ | refine Below.setCell ?_ ?_ _ | refine le_alloc ?_ | refine le_set ?_ | refine le_drew ?_ | refine le_drewN ?_ | refine below_step (by assumption) ?_ ?_ | refine le_below (by assumption) ?_) | (dsimp only; omega)))
set_option maxRecDepth 100000 in
set_option maxHeartbeats 1000000 in
theorem at4_46 (a b a1 b1 : Nat) (ha : Hid (a1 < 4294967296)) (hb : Hid (b1 < 4294967296)) (D1 : Hid (∀ w, Calls Try.prog 25 #[.int .u64 a, .int .i64 32] w (RetV .u64 (a1 : Int) w)))
    (D2 : Hid (∀ w, Calls Try.prog 25 #[.int .u64 b, .int .i64 32] w (RetV .u64 (b1 : Int) w)))
    (D3 : Hid (∀ w, Calls Try.prog 28 #[.int .u64 a1, .int .u64 b1, .int .i64 32, .bool true] w (RetB (decide (sgn H32 a1 < sgn H32 b1)) w)))
    (w : World) : Calls Try.prog 17 #[.int .i64 46, .int .i64 4, .int .u64 a, .int .u64 b] w (RetO .u64 (swapV H32 46 a1 b1) w) := by
  have hv : Hid (swapV H32 46 a1 b1 = some (if sgn H32 a1 < sgn H32 b1 then b1 else a1)) := rfl
  by_cases hl : sgn H32 a1 < sgn H32 b1
  · rw [decide_eq_true hl] at D3
    rw [if_pos hl] at hv
    clear hl
    go_enter Try.func17, Try.ntmps17
    go_wp2_with fail
    refine (D1.out _).mono ?_; rintro e w1 ⟨rfl, hb1⟩
    go_wp2_with fail
    refine (D2.out _).mono ?_; rintro e w2 ⟨rfl, hb2⟩
    go_wp2_with fail
    refine (D3.out _).mono ?_; rintro e w3 ⟨rfl, hb3⟩
    go_wp2_with fail
    go_ret2
    exact retO_mk _ hv.out rfl rfl (by repeat (first | (with_reducible first | exact Below.refl _ _ | assumption | exact Nat.le_refl _ | refine Below.drew ?_ | refine Below.alloc ?_ ?_ _ | refine below_drewN ?_ _ | refine Below.setCell ?_ ?_ _ | refine le_alloc ?_ | refine le_set ?_ | refine le_drew ?_ | refine le_drewN ?_ | refine below_step (by assumption) ?_ ?_ | refine le_below (by assumption) ?_) | (dsimp only; omega)))
  · rw [decide_eq_false hl] at D3
    rw [if_neg hl] at hv
    clear hl
    go_enter Try.func17, Try.ntmps17
    go_wp2_with fail
    refine (D1.out _).mono ?_; rintro e w1 ⟨rfl, hb1⟩
    go_wp2_with fail
    refine (D2.out _).mono ?_; rintro e w2 ⟨rfl, hb2⟩
    go_wp2_with fail
    refine (D3.out _).mono ?_; rintro e w3 ⟨rfl, hb3⟩
    go_wp2_with fail
    go_ret2
    exact retO_mk _ hv.out rfl rfl (by repeat (first | (with_reducible first | exact Below.refl _ _ | assumption | exact Nat.le_refl _ | refine Below.drew ?_ | refine Below.alloc ?_ ?_ _ | refine below_drewN ?_ _ | refine Below.setCell ?_ ?_ _ | refine le_alloc ?_ | refine le_set ?_ | refine le_drew ?_ | refine le_drewN ?_ | refine below_step (by assumption) ?_ ?_ | refine le_below (by assumption) ?_) | (dsimp only; omega)))
set_option maxRecDepth 100000 in
set_option maxHeartbeats 1000000 in
theorem at4_47 (a b a1 b1 : Nat) (ha : Hid (a1 < 4294967296)) (hb : Hid (b1 < 4294967296)) (D1 : Hid (∀ w, Calls Try.prog 25 #[.int .u64 a, .int .i64 32] w (RetV .u64 (a1 : Int) w)))
    (D2 : Hid (∀ w, Calls Try.prog 25 #[.int .u64 b, .int .i64 32] w (RetV .u64 (b1 : Int) w)))
    (D3 : Hid (∀ w, Calls Try.prog 28 #[.int .u64 a1, .int .u64 b1, .int .i64 32, .bool true] w (RetB (decide (sgn H32 a1 < sgn H32 b1)) w)))
    (w : World) : Calls Try.prog 17 #[.int .i64 47, .int .i64 4, .int .u64 a, .int .u64 b] w (RetO .u64 (swapV H32 47 a1 b1) w) := by
  have hv : Hid (swapV H32 47 a1 b1 = some (if a1 < b1 then a1 else b1)) := rfl
  generalize decide (sgn H32 a1 < sgn H32 b1) = l at *
  by_cases hl : a1 < b1
  · rw [if_pos hl] at hv
    have hl' : decide ((a1 : Int) < (b1 : Int)) = true := decide_eq_true (by omega)
    have hl2 : (a1 : Int) < (b1 : Int) := by omega
    have hl3 : ¬ (b1 : Int) ≤ (a1 : Int) := by omega
    clear hl
    go_enter Try.func17, Try.ntmps17
    go_wp2_with fail
    refine (D1.out _).mono ?_; rintro e w1 ⟨rfl, hb1⟩
    go_wp2_with fail
    refine (D2.out _).mono ?_; rintro e w2 ⟨rfl, hb2⟩
    go_wp2_with fail
    refine (D3.out _).mono ?_; rintro e w3 ⟨rfl, hb3⟩
    go_wp2_with fail
    go_ret2
    exact retO_mk _ hv.out rfl rfl (by repeat (first | (with_reducible first | exact Below.refl _ _ | assumption | exact Nat.le_refl _ | refine Below.drew ?_ | refine Below.alloc ?_ ?_ _ | refine below_drewN ?_ _ | refine Below.setCell ?_ ?_ _ | refine le_alloc ?_ | refine le_set ?_ | refine le_drew ?_ | refine le_drewN ?_ | refine below_step (by assumption) ?_ ?_ | refine le_below (by assumption) ?_) | (dsimp only; omega)))
  · rw [if_neg hl] at hv
    have hl' : decide ((a1 : Int) < (b1 : Int)) = false := decide_eq_false (by omega)
    have hl2 : ¬ (a1 : Int) < (b1 : Int) := by omega
    have hl3 : (b1 : Int) ≤ (a1 : Int) := by omega
    have hl4 : decide (a1 < b1) = false := decide_eq_false hl
    clear hl
    go_enter Try.func17, Try.ntmps17
    go_wp2_with fail
    refine (D1.out _).mono ?_; rintro e w1 ⟨rfl, hb1⟩
    go_wp2_with fail
    refine (D2.out _).mono ?_; rintro e w2 ⟨rfl, hb2⟩
    go_wp2_with fail
    refine (D3.out _).mono ?_; rintro e w3 ⟨rfl, hb3⟩
    go_wp2_with fail
    go_ret2
    exact retO_mk _ hv.out rfl rfl (by repeat (first | (with_reducible first | exact Below.refl _ _ | assumption | exact Nat.le_refl _ | refine Below.drew ?_ | refine Below.alloc ?_ ?_ _ | refine below_drewN ?_ _ | refine Below.setCell ?_ ?_ _ | refine le_alloc ?_ | refine le_set ?_ | refine le_drew ?_ | refine le_drewN ?_ | refine below_step (by assumption) ?_ ?_ | refine le_below (by assumption) ?_) | (dsimp only; omega)))
set_option maxRecDepth 100000 in
set_option maxHeartbeats 1000000 in
theorem at4_48 (a b a1 b1 : Nat) (ha : Hid (a1 < 4294967296)) (hb : Hid (b1 < 4294967296)) (D1 : Hid (∀ w, Calls Try.prog 25 #[.int .u64 a, .int .i64 32] w (RetV .u64 (a1 : Int) w)))
    (D2 : Hid (∀ w, Calls Try.prog 25 #[.int .u64 b, .int .i64 32] w (RetV .u64 (b1 : Int) w)))
    (D3 : Hid (∀ w, Calls Try.prog 28 #[.int .u64 a1, .int .u64 b1, .int .i64 32, .bool true] w (RetB (decide (sgn H32 a1 < sgn H32 b1)) w)))
    (w : World) : Calls Try.prog 17 #[.int .i64 48, .int .i64 4, .int .u64 a, .int .u64 b] w (RetO .u64 (swapV H32 48 a1 b1) w) := by
  have hv : Hid (swapV H32 48 a1 b1 = some (if a1 < b1 then b1 else a1)) := rfl
  generalize decide (sgn H32 a1 < sgn H32 b1) = l at *
  by_cases hl : a1 < b1
  · rw [if_pos hl] at hv
    have hl' : decide ((a1 : Int) < (b1 : Int)) = true := decide_eq_true (by omega)
    have hl2 : (a1 : Int) < (b1 : Int) := by omega
    have hl3 : ¬ (b1 : Int) ≤ (a1 : Int) := by omega
    clear hl
    go_enter Try.func17, Try.ntmps17
    go_wp2_with fail
    refine (D1.out _).mono ?_; rintro e w1 ⟨rfl, hb1⟩
    go_wp2_with fail
    refine (D2.out _).mono ?_; rintro e w2 ⟨rfl, hb2⟩
    go_wp2_with fail
    refine (D3.out _).mono ?_; rintro e w3 ⟨rfl, hb3⟩
    go_wp2_with fail
    go_ret2
    exact retO_mk _ hv.out rfl rfl (by repeat (first | (with_reducible first | exact Below.refl _ _ | assumption | exact Nat.le_refl _ | refine Below.drew ?_ | refine Below.alloc ?_ ?_ _ | refine below_drewN ?_ _ | refine Below.setCell ?_ ?_ _ | refine le_alloc ?_ | refine le_set ?_ | refine le_drew ?_ | refine le_drewN ?_ | refine below_step (by assumption) ?_ ?_ | refine le_below (by assumption) ?_) | (dsimp only; omega)))
  · rw [if_neg hl] at hv
    have hl' : decide ((a1 : Int) < (b1 : Int)) = false := decide_eq_false (by omega)
    have hl2 : ¬ (a1 : Int) < (b1 : Int) := by omega
    have hl3 : (b1 : Int) ≤ (a1 : Int) := by omega
    have hl4 : decide (a1 < b1) = false := decide_eq_false hl
    clear hl
    go_enter Try.func17, Try.ntmps17
    go_wp2_with fail
    refine (D1.out _).mono ?_; rintro e w1 ⟨rfl, hb1⟩
    go_wp2_with fail
    refine (D2.out _).mono ?_; rintro e w2 ⟨rfl, hb2⟩
    go_wp2_with fail
    refine (D3.out _).mono ?_; rintro e w3 ⟨rfl, hb3⟩
    go_wp2_with fail
    go_ret2
    exact retO_mk _ hv.out rfl rfl (by repeat (first | (with_reducible first | exact Below.refl _ _ | assumption | exact Nat.le_refl _ | refine Below.drew ?_ | refine Below.alloc ?_ ?_ _ | refine below_drewN ?_ _ | refine Below.setCell ?_ ?_ _ | refine le_alloc ?_ | refine le_set ?_ | refine le_drew ?_ | refine le_drewN ?_ | refine below_step (by assumption) ?_ ?_ | refine le_below (by assumption) ?_) | (dsimp only; omega)))
set_option maxRecDepth 100000 in
set_option maxHeartbeats 1000000 in
theorem at4_no (k : Int) (a b a1 b1 : Nat) (h40 : ¬ k = 40) (h41 : ¬ k = 41) (h42 : ¬ k = 42) (h43 : ¬ k = 43) (h44 : ¬ k = 44) (h45 : ¬ k = 45) (h46 : ¬ k = 46) (h47 : ¬ k = 47) (h48 : ¬ k = 48) (D1 : Hid (∀ w, Calls Try.prog 25 #[.int .u64 a, .int .i64 32] w (RetV .u64 (a1 : Int) w)))
    (D2 : Hid (∀ w, Calls Try.prog 25 #[.int .u64 b, .int .i64 32] w (RetV .u64 (b1 : Int) w)))
    (D3 : Hid (∀ w, Calls Try.prog 28 #[.int .u64 a1, .int .u64 b1, .int .i64 32, .bool true] w (RetB (decide (sgn H32 a1 < sgn H32 b1)) w)))
    (w : World) : Calls Try.prog 17 #[.int .i64 k, .int .i64 4, .int .u64 a, .int .u64 b] w (RetO .u64 (swapV H32 k a1 b1) w) := by
  have hv : Hid (swapV H32 k a1 b1 = none) := by show _ = _; unfold swapV; rw [if_neg h40, if_neg h41, if_neg h42, if_neg h43, if_neg h44, if_neg h45, if_neg h46, if_neg h47, if_neg h48]
  generalize decide (sgn H32 a1 < sgn H32 b1) = l at *
  go_enter Try.func17, Try.ntmps17
  go_wp2_with fail
  refine (D1.out _).mono ?_; rintro e w1 ⟨rfl, hb1⟩
  go_wp2_with fail
  refine (D2.out _).mono ?_; rintro e w2 ⟨rfl, hb2⟩
  go_wp2_with fail
  refine (D3.out _).mono ?_; rintro e w3 ⟨rfl, hb3⟩
  go_wp2_with fail
  go_ret2
  exact retO_no hv.out rfl rfl (by repeat (first | (with_reducible first | exact Below.refl _ _ | assumption | exact Nat.le_refl _ | refine Below.drew ?_ | refine Below.alloc ?_ ?_ _ | refine below_drewN ?_ _ | refine Below.setCell ?_ ?_ _ | refine le_alloc ?_ | refine le_set ?_ | refine le_drew ?_ | refine le_drewN ?_ | refine below_step (by assumption) ?_ ?_ | refine le_below (by assumption) ?_) | (dsimp only; omega)))
theorem at4_c (k : Int) (a b : Nat) (ha : Hid (a < 18446744073709551616)) (hb : Hid (b < 18446744073709551616)) (w : World) : Calls Try.prog 17 #[.int .i64 k, .int .i64 4, .int .u64 a, .int .u64 b] w (RetO .u64 (atomV k 4 a b) w) := by
  have h1 : a % 4294967296 < 4294967296 := Nat.mod_lt _ (by decide)
  have h2 : b % 4294967296 < 4294967296 := Nat.mod_lt _ (by decide)
  have ev : atomV k 4 a b = swapV H32 k (a % 4294967296) (b % 4294967296) := rfl
  have D1 : Hid (∀ w, Calls Try.prog 25 #[.int .u64 a, .int .i64 32] w (RetV .u64 ((a % 4294967296 : Nat) : Int) w)) := fun w => low_c a 32 ha (by decide) w
  have D2 : Hid (∀ w, Calls Try.prog 25 #[.int .u64 b, .int .i64 32] w (RetV .u64 ((b % 4294967296 : Nat) : Int) w)) := fun w => low_c b 32 hb (by decide) w
  have D3 : Hid (∀ w, Calls Try.prog 28 #[.int .u64 (a % 4294967296 : Nat), .int .u64 (b % 4294967296 : Nat), .int .i64 32, .bool true] w (RetB (decide (sgn H32 (a % 4294967296) < sgn H32 (b % 4294967296))) w)) := by
    show ∀ w, _
    rw [← below_eq 32 H32 _ _ wd32 h1 h2]; exact fun w => below_c _ _ 32 true (Nat.lt_of_lt_of_le h1 (by decide)) (Nat.lt_of_lt_of_le h2 (by decide)) (by decide) (by decide) w
  rw [ev]
  by_cases h40 : k = 40
  · subst h40; exact at4_40 a b _ _ h1 h2 D1 D2 D3 w
  by_cases h41 : k = 41
  · subst h41; exact at4_41 a b _ _ h1 h2 D1 D2 D3 w
  by_cases h42 : k = 42
  · subst h42; exact at4_42 a b _ _ h1 h2 D1 D2 D3 w
  by_cases h43 : k = 43
  · subst h43; exact at4_43 a b _ _ h1 h2 D1 D2 D3 w
  by_cases h44 : k = 44
  · subst h44; exact at4_44 a b _ _ h1 h2 D1 D2 D3 w
  by_cases h45 : k = 45
  · subst h45; exact at4_45 a b _ _ h1 h2 D1 D2 D3 w
  by_cases h46 : k = 46
  · subst h46; exact at4_46 a b _ _ h1 h2 D1 D2 D3 w
  by_cases h47 : k = 47
  · subst h47; exact at4_47 a b _ _ h1 h2 D1 D2 D3 w
  by_cases h48 : k = 48
  · subst h48; exact at4_48 a b _ _ h1 h2 D1 D2 D3 w
  exact at4_no k a b _ _ h40 h41 h42 h43 h44 h45 h46 h47 h48 D1 D2 D3 w
set_option maxRecDepth 100000 in
set_option maxHeartbeats 1000000 in
theorem at8_40 (a b a1 b1 : Nat) (ha : Hid (a1 < 18446744073709551616)) (hb : Hid (b1 < 18446744073709551616)) (D1 : Hid (∀ w, Calls Try.prog 25 #[.int .u64 a, .int .i64 64] w (RetV .u64 (a1 : Int) w)))
    (D2 : Hid (∀ w, Calls Try.prog 25 #[.int .u64 b, .int .i64 64] w (RetV .u64 (b1 : Int) w)))
    (D3 : Hid (∀ w, Calls Try.prog 28 #[.int .u64 a1, .int .u64 b1, .int .i64 64, .bool true] w (RetB (decide (sgn H64 a1 < sgn H64 b1)) w)))
    (w : World) : Calls Try.prog 17 #[.int .i64 40, .int .i64 8, .int .u64 a, .int .u64 b] w (RetO .u64 (swapV H64 40 a1 b1) w) := by
  have hv : Hid (swapV H64 40 a1 b1 = some b1) := rfl
  generalize decide (sgn H64 a1 < sgn H64 b1) = l at *
  go_enter Try.func17, Try.ntmps17
  go_wp2_with fail
  refine (D1.out _).mono ?_; rintro e w1 ⟨rfl, hb1⟩
  go_wp2_with fail
  refine (D2.out _).mono ?_; rintro e w2 ⟨rfl, hb2⟩
  go_wp2_with fail
  refine (D3.out _).mono ?_; rintro e w3 ⟨rfl, hb3⟩
  go_wp2_with fail
  go_ret2
  exact retO_mk _ hv.out rfl rfl (by repeat (first | (with_reducible first | exact Below.refl _ _ | assumption | exact Nat.le_refl _ | refine Below.drew ?_ | refine Below.alloc ?_ ?_ _ | refine below_drewN ?_ _ | refine Below.setCell ?_ ?_ _ | refine le_alloc ?_ | refine le_set ?_ | refine le_drew ?_ | refine le_drewN ?_ | refine below_step (by assumption) ?_ ?_ | refine le_below (by assumption) ?_) | (dsimp only; omega)))
set_option maxRecDepth 100000 in
set_option maxHeartbeats 1000000 in
theorem at8_41 (a b a1 b1 : Nat) (ha : Hid (a1 < 18446744073709551616)) (hb : Hid (b1 < 18446744073709551616)) (D1 : Hid (∀ w, Calls Try.prog 25 #[.int .u64 a, .int .i64 64] w (RetV .u64 (a1 : Int) w)))
    (D2 : Hid (∀ w, Calls Try.prog 25 #[.int .u64 b, .int .i64 64] w (RetV .u64 (b1 : Int) w)))
    (D3 : Hid (∀ w, Calls Try.prog 28 #[.int .u64 a1, .int .u64 b1, .int .i64 64, .bool true] w (RetB (decide (sgn H64 a1 < sgn H64 b1)) w)))
    (w : World) : Calls Try.prog 17 #[.int .i64 41, .int .i64 8, .int .u64 a, .int .u64 b] w (RetO .u64 (swapV H64 41 a1 b1) w) := by
  have hv : Hid (swapV H64 41 a1 b1 = some ((a1 + b1) % 18446744073709551616)) := rfl
  have h1 := ha.out; have h2 := hb.out
  have E : IntKind.u64.wrap ((a1 : Int) + (b1 : Int)) = (((a1 + b1) % 18446744073709551616 : Nat) : Int) := by rw [IntKind.wrap_u64]; omega
  have D4 : Hid (∀ w, Calls Try.prog 25 #[.int .u64 ((a1 + b1) % 18446744073709551616 : Nat), .int .i64 64] w (RetV .u64 (((a1 + b1) % 18446744073709551616 : Nat) : Int) w)) := by
    show ∀ w, _
    intro w
    have h := low_c ((a1 + b1) % 18446744073709551616) 64 (Nat.mod_lt _ (by decide)) (by decide) w
    rw [show (a1 + b1) % 18446744073709551616 % 2 ^ 64 = (a1 + b1) % 18446744073709551616 by omega] at h
    exact h
  obtain ⟨r, hr⟩ : ∃ r, r = (a1 + b1) % 18446744073709551616 := ⟨_, rfl⟩
  rw [← hr] at hv E D4
  clear hr h1 h2
  generalize decide (sgn H64 a1 < sgn H64 b1) = l at *
  go_enter Try.func17, Try.ntmps17
  go_wp2_with fail
  refine (D1.out _).mono ?_; rintro e w1 ⟨rfl, hb1⟩
  go_wp2_with fail
  refine (D2.out _).mono ?_; rintro e w2 ⟨rfl, hb2⟩
  go_wp2_with fail
  refine (D3.out _).mono ?_; rintro e w3 ⟨rfl, hb3⟩
  go_wp2_with fail
  refine (D4.out _).mono ?_; rintro e w4 ⟨rfl, hb4⟩
  go_wp2_with fail
  go_ret2
  exact retO_mk _ hv.out rfl rfl (by repeat (first | (with_reducible first | exact Below.refl _ _ | assumption | exact Nat.le_refl _ | refine Below.drew ?_ | refine Below.alloc ?_ ?_ _ | refine below_drewN ?_ _ | refine Below.setCell ?_ ?_ _ | refine le_alloc ?_ | refine le_set ?_ | refine le_drew ?_ | refine le_drewN ?_ | refine below_step (by assumption) ?_ ?_ | refine le_below (by assumption) ?_) | (dsimp only; omega)))
set_option maxRecDepth 100000 in
set_option maxHeartbeats 1000000 in
theorem at8_42 (a b a1 b1 : Nat) (ha : Hid (a1 < 18446744073709551616)) (hb : Hid (b1 < 18446744073709551616)) (D1 : Hid (∀ w, Calls Try.prog 25 #[.int .u64 a, .int .i64 64] w (RetV .u64 (a1 : Int) w)))
    (D2 : Hid (∀ w, Calls Try.prog 25 #[.int .u64 b, .int .i64 64] w (RetV .u64 (b1 : Int) w)))
    (D3 : Hid (∀ w, Calls Try.prog 28 #[.int .u64 a1, .int .u64 b1, .int .i64 64, .bool true] w (RetB (decide (sgn H64 a1 < sgn H64 b1)) w)))
    (w : World) : Calls Try.prog 17 #[.int .i64 42, .int .i64 8, .int .u64 a, .int .u64 b] w (RetO .u64 (swapV H64 42 a1 b1) w) := by
  have hv : Hid (swapV H64 42 a1 b1 = some (a1 ^^^ b1)) := rfl
  obtain ⟨x, y, e1, e2, e3⟩ := xor_forms a1 b1 (Nat.lt_of_lt_of_le ha.out (by decide)) (Nat.lt_of_lt_of_le hb.out (by decide))
  generalize a1 ^^^ b1 = z at *
  generalize decide (sgn H64 a1 < sgn H64 b1) = l at *
  go_enter Try.func17, Try.ntmps17
  go_wp2_with fail
  refine (D1.out _).mono ?_; rintro e w1 ⟨rfl, hb1⟩
  go_wp2_with fail
  refine (D2.out _).mono ?_; rintro e w2 ⟨rfl, hb2⟩
  go_wp2_with fail
  refine (D3.out _).mono ?_; rintro e w3 ⟨rfl, hb3⟩
  go_wp2_with fail
  go_ret2
  exact retO_mk _ hv.out rfl rfl (by repeat (first | (with_reducible first | exact Below.refl _ _ | assumption | exact Nat.le_refl _ | refine Below.drew ?_ | refine Below.alloc ?_ ?_ _ | refine below_drewN ?_ _ | refine Below.setCell ?_ ?_ _ | refine le_alloc ?_ | refine le_set ?_ | refine le_drew ?_ | refine le_drewN ?_ | refine below_step (by assumption) ?_ ?_ | refine le_below (by assumption) ?_) | (dsimp only; omega)))
set_option maxRecDepth 100000 in
set_option maxHeartbeats 1000000 in
theorem at8_43 (a b a1 b1 : Nat) (ha : Hid (a1 < 18446744073709551616)) (hb : Hid (b1 < 18446744073709551616)) (D1 : Hid (∀ w, Calls Try.prog 25 #[.int .u64 a, .int .i64 64] w (RetV .u64 (a1 : Int) w)))
    (D2 : Hid (∀ w, Calls Try.prog 25 #[.int .u64 b, .int .i64 64] w (RetV .u64 (b1 : Int) w)))
    (D3 : Hid (∀ w, Calls Try.prog 28 #[.int .u64 a1, .int .u64 b1, .int .i64 64, .bool true] w (RetB (decide (sgn H64 a1 < sgn H64 b1)) w)))
    (w : World) : Calls Try.prog 17 #[.int .i64 43, .int .i64 8, .int .u64 a, .int .u64 b] w (RetO .u64 (swapV H64 43 a1 b1) w) := by
  have hv : Hid (swapV H64 43 a1 b1 = some (a1 &&& b1)) := rfl
  have e1 : bits .and .u64 (a1 : Int) (b1 : Int) = ((a1 &&& b1 : Nat) : Int) := bits_and_u64_nat a1 b1 (Nat.lt_of_lt_of_le ha.out (by decide)) (Nat.lt_of_lt_of_le hb.out (by decide))
  generalize a1 &&& b1 = z at *
  generalize decide (sgn H64 a1 < sgn H64 b1) = l at *
  go_enter Try.func17, Try.ntmps17
  go_wp2_with fail
  refine (D1.out _).mono ?_; rintro e w1 ⟨rfl, hb1⟩
  go_wp2_with fail
  refine (D2.out _).mono ?_; rintro e w2 ⟨rfl, hb2⟩
  go_wp2_with fail
  refine (D3.out _).mono ?_; rintro e w3 ⟨rfl, hb3⟩
  go_wp2_with fail
  go_ret2
  exact retO_mk _ hv.out rfl rfl (by repeat (first | (with_reducible first | exact Below.refl _ _ | assumption | exact Nat.le_refl _ | refine Below.drew ?_ | refine Below.alloc ?_ ?_ _ | refine below_drewN ?_ _ | refine Below.setCell ?_ ?_ _ | refine le_alloc ?_ | refine le_set ?_ | refine le_drew ?_ | refine le_drewN ?_ | refine below_step (by assumption) ?_ ?_ | refine le_below (by assumption) ?_) | (dsimp only; omega)))
set_option maxRecDepth 100000 in
set_option maxHeartbeats 1000000 in
theorem at8_44 (a b a1 b1 : Nat) (ha : Hid (a1 < 18446744073709551616)) (hb : Hid (b1 < 18446744073709551616)) (D1 : Hid (∀ w, Calls Try.prog 25 #[.int .u64 a, .int .i64 64] w (RetV .u64 (a1 : Int) w)))
    (D2 : Hid (∀ w, Calls Try.prog 25 #[.int .u64 b, .int .i64 64] w (RetV .u64 (b1 : Int) w)))
    (D3 : Hid (∀ w, Calls Try.prog 28 #[.int .u64 a1, .int .u64 b1, .int .i64 64, .bool true] w (RetB (decide (sgn H64 a1 < sgn H64 b1)) w)))
    (w : World) : Calls Try.prog 17 #[.int .i64 44, .int .i64 8, .int .u64 a, .int .u64 b] w (RetO .u64 (swapV H64 44 a1 b1) w) := by
  have hv : Hid (swapV H64 44 a1 b1 = some (a1 ||| b1)) := rfl
  have e1 : bits .or .u64 (a1 : Int) (b1 : Int) = ((a1 ||| b1 : Nat) : Int) := bits_or_u64_nat a1 b1 (Nat.lt_of_lt_of_le ha.out (by decide)) (Nat.lt_of_lt_of_le hb.out (by decide))
  generalize a1 ||| b1 = z at *
  generalize decide (sgn H64 a1 < sgn H64 b1) = l at *
  go_enter Try.func17, Try.ntmps17
  go_wp2_with fail
  refine (D1.out _).mono ?_; rintro e w1 ⟨rfl, hb1⟩
  go_wp2_with fail
  refine (D2.out _).mono ?_; rintro e w2 ⟨rfl, hb2⟩
  go_wp2_with fail
  refine (D3.out _).mono ?_; rintro e w3 ⟨rfl, hb3⟩
  go_wp2_with fail
  go_ret2
  exact retO_mk _ hv.out rfl rfl (by repeat (first | (with_reducible first | exact Below.refl _ _ | assumption | exact Nat.le_refl _ | refine Below.drew ?_ | refine Below.alloc ?_ ?_ _ | refine below_drewN ?_ _ | refine Below.setCell ?_ ?_ _ | refine le_alloc ?_ | refine le_set ?_ | refine le_drew ?_ | refine le_drewN ?_ | refine below_step (by assumption) ?_ ?_ | refine le_below (by assumption) ?_) | (dsimp only; omega)))
set_option maxRecDepth 100000 in
set_option maxHeartbeats 1000000 in
theorem at8_45 (a b a1 b1 : Nat) (ha : Hid (a1 < 18446744073709551616)) (hb : Hid (b1 < 18446744073709551616)) (D1 : Hid (∀ w, Calls Try.prog 25 #[.int .u64 a, .int .i64 64] w (RetV .u64 (a1 : Int) w)))
    (D2 : Hid (∀ w, Calls Try.prog 25 #[.int .u64 b, .int .i64 64] w (RetV .u64 (b1 : Int) w)))
    (D3 : Hid (∀ w, Calls Try.prog 28 #[.int .u64 a1, .int .u64 b1, .int .i64 64, .bool true] w (RetB (decide (sgn H64 a1 < sgn H64 b1)) w)))
    (w : World) : Calls Try.prog 17 #[.int .i64 45, .int .i64 8, .int .u64 a, .int .u64 b] w (RetO .u64 (swapV H64 45 a1 b1) w) := by
  have hv : Hid (swapV H64 45 a1 b1 = some (if sgn H64 a1 < sgn H64 b1 then a1 else b1)) := rfl
  by_cases hl : sgn H64 a1 < sgn H64 b1
  · rw [decide_eq_true hl] at D3
    rw [if_pos hl] at hv
    clear hl
    go_enter Try.func17, Try.ntmps17
    go_wp2_with fail
    refine (D1.out _).mono ?_; rintro e w1 ⟨rfl, hb1⟩
    go_wp2_with fail
    refine (D2.out _).mono ?_; rintro e w2 ⟨rfl, hb2⟩
    go_wp2_with fail
    refine (D3.out _).mono ?_; rintro e w3 ⟨rfl, hb3⟩
    go_wp2_with fail
    go_ret2
    exact retO_mk _ hv.out rfl rfl (by repeat (first | (with_reducible first | exact Below.refl _ _ | assumption | exact Nat.le_refl _ | refine Below.drew ?_ | refine Below.alloc ?_ ?_ _ | refine below_drewN ?_ _ | refine Below.setCell ?_ ?_ _ | refine le_alloc ?_ | refine le_set ?_ | refine le_drew ?_ | refine le_drewN ?_ | refine below_step (by assumption) ?_ ?_ | refine le_below (by assumption) ?_) | (dsimp only; omega)))
  · rw [decide_eq_false hl] at D3
    rw [if_neg hl] at hv
    clear hl
    go_enter Try.func17, Try.ntmps17
    go_wp2_with fail
    refine (D1.out _).mono ?_; rintro e w1 ⟨rfl, hb1⟩
    go_wp2_with fail
    refine (D2.out _).mono ?_; rintro e w2 ⟨rfl, hb2⟩
    go_wp2_with fail
    refine (D3.out _).mono ?_; rintro e w3 ⟨rfl, hb3⟩
    go_wp2_with fail
    go_ret2
    exact retO_mk _ hv.out rfl rfl (by repeat (first | (with_reducible first | exact Below.refl _ _ | assumption | exact Nat.le_refl _ | refine Below.drew ?_ | refine Below.alloc ?_ ?_ _ | refine below_drewN ?_ _ | refine Below.setCell ?_ ?_ _ | refine le_alloc ?_ | refine le_set ?_ | refine le_drew ?_ | refine le_drewN ?_ | refine below_step (by assumption) ?_ ?_ | refine le_below (by assumption) ?_) | (dsimp only; omega)))
set_option maxRecDepth 100000 in
set_option maxHeartbeats 1000000 in
theorem at8_46 (a b a1 b1 : Nat) (ha : Hid (a1 < 18446744073709551616)) (hb : Hid (b1 < 18446744073709551616)) (D1 : Hid (∀ w, Calls Try.prog 25 #[.int .u64 a, .int .i64 64] w (RetV .u64 (a1 : Int) w)))
    (D2 : Hid (∀ w, Calls Try.prog 25 #[.int .u64 b, .int .i64 64] w (RetV .u64 (b1 : Int) w)))
    (D3 : Hid (∀ w, Calls Try.prog 28 #[.int .u64 a1, .int .u64 b1, .int .i64 64, .bool true] w (RetB (decide (sgn H64 a1 < sgn H64 b1)) w)))
    (w : World) : Calls Try.prog 17 #[.int .i64 46, .int .i64 8, .int .u64 a, .int .u64 b] w (RetO .u64 (swapV H64 46 a1 b1) w) := by
  have hv : Hid (swapV H64 46 a1 b1 = some (if sgn H64 a1 < sgn H64 b1 then b1 else a1)) := rfl
  by_cases hl : sgn H64 a1 < sgn H64 b1
  · rw [decide_eq_true hl] at D3
    rw [if_pos hl] at hv
    clear hl
    go_enter Try.func17, Try.ntmps17
    go_wp2_with fail
    refine (D1.out _).mono ?_; rintro e w1 ⟨rfl, hb1⟩
    go_wp2_with fail
    refine (D2.out _).mono ?_; rintro e w2 ⟨rfl, hb2⟩
    go_wp2_with fail
    refine (D3.out _).mono ?_; rintro e w3 ⟨rfl, hb3⟩
    go_wp2_with fail
    go_ret2
    exact retO_mk _ hv.out rfl rfl (by repeat (first | (with_reducible first | exact Below.refl _ _ | assumption | exact Nat.le_refl _ | refine Below.drew ?_ | refine Below.alloc ?_ ?_ _ | refine below_drewN ?_ _ | refine Below.setCell ?_ ?_ _ | refine le_alloc ?_ | refine le_set ?_ | refine le_drew ?_ | refine le_drewN ?_ | refine below_step (by assumption) ?_ ?_ | refine le_below (by assumption) ?_) | (dsimp only; omega)))
  · rw [decide_eq_false hl] at D3
    rw [if_neg hl] at hv
    clear hl
    go_enter Try.func17, Try.ntmps17
    go_wp2_with fail
    refine (D1.out _).mono ?_; rintro e w1 ⟨rfl, hb1⟩
    go_wp2_with fail
    refine (D2.out _).mono ?_; rintro e w2 ⟨rfl, hb2⟩
    go_wp2_with fail
    refine (D3.out _).mono ?_; rintro e w3 ⟨rfl, hb3⟩
    go_wp2_with fail
    go_ret2
    exact retO_mk _ hv.out rfl rfl (by repeat (first | (with_reducible first | exact Below.refl _ _ | assumption | exact Nat.le_refl _ | refine Below.drew ?_ | refine Below.alloc ?_ ?_ _ | refine below_drewN ?_ _ | refine Below.setCell ?_ ?_ _ | refine le_alloc ?_ | refine le_set ?_ | refine le_drew ?_ | refine le_drewN ?_ | refine below_step (by assumption) ?_ ?_ | refine le_below (by assumption) ?_) | (dsimp only; omega)))
set_option maxRecDepth 100000 in
set_option maxHeartbeats 1000000 in
theorem at8_47 (a b a1 b1 : Nat) (ha : Hid (a1 < 18446744073709551616)) (hb : Hid (b1 < 18446744073709551616)) (D1 : Hid (∀ w, Calls Try.prog 25 #[.int .u64 a, .int .i64 64] w (RetV .u64 (a1 : Int) w)))
    (D2 : Hid (∀ w, Calls Try.prog 25 #[.int .u64 b, .int .i64 64] w (RetV .u64 (b1 : Int) w)))
    (D3 : Hid (∀ w, Calls Try.prog 28 #[.int .u64 a1, .int .u64 b1, .int .i64 64, .bool true] w (RetB (decide (sgn H64 a1 < sgn H64 b1)) w)))
    (w : World) : Calls Try.prog 17 #[.int .i64 47, .int .i64 8, .int .u64 a, .int .u64 b] w (RetO .u64 (swapV H64 47 a1 b1) w) := by
  have hv : Hid (swapV H64 47 a1 b1 = some (if a1 < b1 then a1 else b1)) := rfl
  generalize decide (sgn H64 a1 < sgn H64 b1) = l at *
  by_cases hl : a1 < b1
  · rw [if_pos hl] at hv
    have hl' : decide ((a1 : Int) < (b1 : Int)) = true := decide_eq_true (by omega)
    have hl2 : (a1 : Int) < (b1 : Int) := by omega
    have hl3 : ¬ (b1 : Int) ≤ (a1 : Int) := by omega
    clear hl
    go_enter Try.func17, Try.ntmps17
    go_wp2_with fail
    refine (D1.out _).mono ?_; rintro e w1 ⟨rfl, hb1⟩
    go_wp2_with fail
    refine (D2.out _).mono ?_; rintro e w2 ⟨rfl, hb2⟩
    go_wp2_with fail
    refine (D3.out _).mono ?_; rintro e w3 ⟨rfl, hb3⟩
    go_wp2_with fail
    go_ret2
    exact retO_mk _ hv.out rfl rfl (by repeat (first | (with_reducible first | exact Below.refl _ _ | assumption | exact Nat.le_refl _ | refine Below.drew ?_ | refine Below.alloc ?_ ?_ _ | refine below_drewN ?_ _ | refine Below.setCell ?_ ?_ _ | refine le_alloc ?_ | refine le_set ?_ | refine le_drew ?_ | refine le_drewN ?_ | refine below_step (by assumption) ?_ ?_ | refine le_below (by assumption) ?_) | (dsimp only; omega)))
  · rw [if_neg hl] at hv
    have hl' : decide ((a1 : Int) < (b1 : Int)) = false := decide_eq_false (by omega)
    have hl2 : ¬ (a1 : Int) < (b1 : Int) := by omega
    have hl3 : (b1 : Int) ≤ (a1 : Int) := by omega
    have hl4 : decide (a1 < b1) = false := decide_eq_false hl
    clear hl
    go_enter Try.func17, Try.ntmps17
    go_wp2_with fail
    refine (D1.out _).mono ?_; rintro e w1 ⟨rfl, hb1⟩
    go_wp2_with fail
    refine (D2.out _).mono ?_; rintro e w2 ⟨rfl, hb2⟩
    go_wp2_with fail
    refine (D3.out _).mono ?_; rintro e w3 ⟨rfl, hb3⟩
    go_wp2_with fail
    go_ret2
    exact retO_mk _ hv.out rfl rfl (by repeat (first | (with_reducible first | exact Below.refl _ _ | assumption | exact Nat.le_refl _ | refine Below.drew ?_ | refine Below.alloc ?_ ?_ _ | refine below_drewN ?_ _ | refine Below.setCell ?_ ?_ _ | refine le_alloc ?_ | refine le_set ?_ | refine le_drew ?_ | refine le_drewN ?_ | refine below_step (by assumption) ?_ ?_ | refine le_below (by assumption) ?_) | (dsimp only; omega)))
set_option maxRecDepth 100000 in
set_option maxHeartbeats 1000000 in
theorem at8_48 (a b a1 b1 : Nat) (ha : Hid (a1 < 18446744073709551616)) (hb : Hid (b1 < 18446744073709551616)) (D1 : Hid (∀ w, Calls Try.prog 25 #[.int .u64 a, .int .i64 64] w (RetV .u64 (a1 : Int) w)))
    (D2 : Hid (∀ w, Calls Try.prog 25 #[.int .u64 b, .int .i64 64] w (RetV .u64 (b1 : Int) w)))
    (D3 : Hid (∀ w, Calls Try.prog 28 #[.int .u64 a1, .int .u64 b1, .int .i64 64, .bool true] w (RetB (decide (sgn H64 a1 < sgn H64 b1)) w)))
    (w : World) : Calls Try.prog 17 #[.int .i64 48, .int .i64 8, .int .u64 a, .int .u64 b] w (RetO .u64 (swapV H64 48 a1 b1) w) := by
  have hv : Hid (swapV H64 48 a1 b1 = some (if a1 < b1 then b1 else a1)) := rfl
  generalize decide (sgn H64 a1 < sgn H64 b1) = l at *
  by_cases hl : a1 < b1
  · rw [if_pos hl] at hv
    have hl' : decide ((a1 : Int) < (b1 : Int)) = true := decide_eq_true (by omega)
    have hl2 : (a1 : Int) < (b1 : Int) := by omega
    have hl3 : ¬ (b1 : Int) ≤ (a1 : Int) := by omega
    clear hl
    go_enter Try.func17, Try.ntmps17
    go_wp2_with fail
    refine (D1.out _).mono ?_; rintro e w1 ⟨rfl, hb1⟩
    go_wp2_with fail
    refine (D2.out _).mono ?_; rintro e w2 ⟨rfl, hb2⟩
    go_wp2_with fail
    refine (D3.out _).mono ?_; rintro e w3 ⟨rfl, hb3⟩
    go_wp2_with fail
    go_ret2
    exact retO_mk _ hv.out rfl rfl (by repeat (first | (with_reducible first | exact Below.refl _ _ | assumption | exact Nat.le_refl _ | refine Below.drew ?_ | refine Below.alloc ?_ ?_ _ | refine below_drewN ?_ _ | refine Below.setCell ?_ ?_ _ | refine le_alloc ?_ | refine le_set ?_ | refine le_drew ?_ | refine le_drewN ?_ | refine below_step (by assumption) ?_ ?_ | refine le_below (by assumption) ?_) | (dsimp only; omega)))
  · rw [if_neg hl] at hv
    have hl' : decide ((a1 : Int) < (b1 : Int)) = false := decide_eq_false (by omega)
    have hl2 : ¬ (a1 : Int) < (b1 : Int) := by omega
    have hl3 : (b1 : Int) ≤ (a1 : Int) := by omega
    have hl4 : decide (a1 < b1) = false := decide_eq_false hl
    clear hl
    go_enter Try.func17, Try.ntmps17
    go_wp2_with fail
    refine (D1.out _).mono ?_; rintro e w1 ⟨rfl, hb1⟩
    go_wp2_with fail
    refine (D2.out _).mono ?_; rintro e w2 ⟨rfl, hb2⟩
    go_wp2_with fail
    refine (D3.out _).mono ?_; rintro e w3 ⟨rfl, hb3⟩
    go_wp2_with fail
    go_ret2
    exact retO_mk _ hv.out rfl rfl (by repeat (first | (with_reducible first | exact Below.refl _ _ | assumption | exact Nat.le_refl _ | refine Below.drew ?_ | refine Below.alloc ?_ ?_ _ | refine below_drewN ?_ _ | refine Below.setCell ?_ ?_ _ | refine le_alloc ?_ | refine le_set ?_ | refine le_drew ?_ | refine le_drewN ?_ | refine below_step (by assumption) ?_ ?_ | refine le_below (by assumption) ?_) | (dsimp only; omega)))
set_option maxRecDepth 100000 in
set_option maxHeartbeats 1000000 in
theorem at8_no (k : Int) (a b a1 b1 : Nat) (h40 : ¬ k = 40) (h41 : ¬ k = 41) (h42 : ¬ k = 42) (h43 : ¬ k = 43) (h44 : ¬ k = 44) (h45 : ¬ k = 45) (h46 : ¬ k = 46) (h47 : ¬ k = 47) (h48 : ¬ k = 48) (D1 : Hid (∀ w, Calls Try.prog 25 #[.int .u64 a, .int .i64 64] w (RetV .u64 (a1 : Int) w)))
    (D2 : Hid (∀ w, Calls Try.prog 25 #[.int .u64 b, .int .i64 64] w (RetV .u64 (b1 : Int) w)))
    (D3 : Hid (∀ w, Calls Try.prog 28 #[.int .u64 a1, .int .u64 b1, .int .i64 64, .bool true] w (RetB (decide (sgn H64 a1 < sgn H64 b1)) w)))
    (w : World) : Calls Try.prog 17 #[.int .i64 k, .int .i64 8, .int .u64 a, .int .u64 b] w (RetO .u64 (swapV H64 k a1 b1) w) := by
  have hv : Hid (swapV H64 k a1 b1 = none) := by show _ = _; unfold swapV; rw [if_neg h40, if_neg h41, if_neg h42, if_neg h43, if_neg h44, if_neg h45, if_neg h46, if_neg h47, if_neg h48]
  generalize decide (sgn H64 a1 < sgn H64 b1) = l at *
  go_enter Try.func17, Try.ntmps17
  go_wp2_with fail
  refine (D1.out _).mono ?_; rintro e w1 ⟨rfl, hb1⟩
  go_wp2_with fail
  refine (D2.out _).mono ?_; rintro e w2 ⟨rfl, hb2⟩
  go_wp2_with fail
  refine (D3.out _).mono ?_; rintro e w3 ⟨rfl, hb3⟩
  go_wp2_with fail
  go_ret2
  exact retO_no hv.out rfl rfl (by repeat (first | (with_reducible first | exact Below.refl _ _ | assumption | exact Nat.le_refl _ | refine Below.drew ?_ | refine Below.alloc ?_ ?_ _ | refine below_drewN ?_ _ | refine Below.setCell ?_ ?_ _ | refine le_alloc ?_ | refine le_set ?_ | refine le_drew ?_ | refine le_drewN ?_ | refine below_step (by assumption) ?_ ?_ | refine le_below (by assumption) ?_) | (dsimp only; omega)))
theorem at8_c (k : Int) (a b : Nat) (ha : Hid (a < 18446744073709551616)) (hb : Hid (b < 18446744073709551616)) (w : World) : Calls Try.prog 17 #[.int .i64 k, .int .i64 8, .int .u64 a, .int .u64 b] w (RetO .u64 (atomV k 8 a b) w) := by
  have h1 : a % 18446744073709551616 < 18446744073709551616 := Nat.mod_lt _ (by decide)
  have h2 : b % 18446744073709551616 < 18446744073709551616 := Nat.mod_lt _ (by decide)
  have ev : atomV k 8 a b = swapV H64 k (a % 18446744073709551616) (b % 18446744073709551616) := by rw [Nat.mod_eq_of_lt ha.out, Nat.mod_eq_of_lt hb.out]; rfl
  have D1 : Hid (∀ w, Calls Try.prog 25 #[.int .u64 a, .int .i64 64] w (RetV .u64 ((a % 18446744073709551616 : Nat) : Int) w)) := fun w => low_c a 64 ha (by decide) w
  have D2 : Hid (∀ w, Calls Try.prog 25 #[.int .u64 b, .int .i64 64] w (RetV .u64 ((b % 18446744073709551616 : Nat) : Int) w)) := fun w => low_c b 64 hb (by decide) w
  have D3 : Hid (∀ w, Calls Try.prog 28 #[.int .u64 (a % 18446744073709551616 : Nat), .int .u64 (b % 18446744073709551616 : Nat), .int .i64 64, .bool true] w (RetB (decide (sgn H64 (a % 18446744073709551616) < sgn H64 (b % 18446744073709551616))) w)) := by
    show ∀ w, _
    rw [← below_eq 64 H64 _ _ wd64 h1 h2]; exact fun w => below_c _ _ 64 true (Nat.lt_of_lt_of_le h1 (by decide)) (Nat.lt_of_lt_of_le h2 (by decide)) (by decide) (by decide) w
  rw [ev]
  by_cases h40 : k = 40
  · subst h40; exact at8_40 a b _ _ h1 h2 D1 D2 D3 w
  by_cases h41 : k = 41
  · subst h41; exact at8_41 a b _ _ h1 h2 D1 D2 D3 w
  by_cases h42 : k = 42
  · subst h42; exact at8_42 a b _ _ h1 h2 D1 D2 D3 w
  by_cases h43 : k = 43
  · subst h43; exact at8_43 a b _ _ h1 h2 D1 D2 D3 w
  by_cases h44 : k = 44
  · subst h44; exact at8_44 a b _ _ h1 h2 D1 D2 D3 w
  by_cases h45 : k = 45
  · subst h45; exact at8_45 a b _ _ h1 h2 D1 D2 D3 w
  by_cases h46 : k = 46
  · subst h46; exact at8_46 a b _ _ h1 h2 D1 D2 D3 w
  by_cases h47 : k = 47
  · subst h47; exact at8_47 a b _ _ h1 h2 D1 D2 D3 w
  by_cases h48 : k = 48
  · subst h48; exact at8_48 a b _ _ h1 h2 D1 D2 D3 w
  exact at8_no k a b _ _ h40 h41 h42 h43 h44 h45 h46 h47 h48 D1 D2 D3 w
set_option maxRecDepth 100000 in
theorem atomicR_no (k s : Int) (a b : Nat) (h4 : ¬ s = 4) (h8 : ¬ s = 8) (w : World) : Calls Try.prog 17 #[.int .i64 k, .int .i64 s, .int .u64 a, .int .u64 b] w (RetO .u64 (atomV k s a b) w) := by
  have hv : Hid (atomV k s a b = none) := by show _ = _; unfold atomV; rw [if_neg h4, if_neg h8]
  have b4 : (s != 4) = true := by simp [h4]
  have b8 : (s != 8) = true := by simp [h8]
  clear h4 h8
  go_enter Try.func17, Try.ntmps17
  go_wp2_with fail
  go_ret2
  exact retO_no hv.out rfl rfl (by repeat (first | (with_reducible first | exact Below.refl _ _ | assumption | exact Nat.le_refl _ | refine Below.drew ?_ | refine Below.alloc ?_ ?_ _ | refine below_drewN ?_ _ | refine Below.setCell ?_ ?_ _ | refine le_alloc ?_ | refine le_set ?_ | refine le_drew ?_ | refine le_drewN ?_ | refine below_step (by assumption) ?_ ?_ | refine le_below (by assumption) ?_) | (dsimp only; omega)))
theorem atomicR_c (k s : Int) (a b : Nat) (ha : Hid (a < 18446744073709551616)) (hb : Hid (b < 18446744073709551616)) (w : World) : Calls Try.prog 17 #[.int .i64 k, .int .i64 s, .int .u64 a, .int .u64 b] w (RetO .u64 (atomV k s a b) w) := by
  by_cases h4 : s = 4
  · subst h4; exact at4_c k a b ha hb w
  by_cases h8 : s = 8
  · subst h8; exact at8_c k a b ha hb w
  exact atomicR_no k s a b h4 h8 w
end Go.Proofs.Ytbbgcjdflcfnjaa
