/- The contract of the reference's Class. -/
import Derived.Test.YtbcfndgceapbjaaB9
namespace Go.Proofs.Ytbcfndgceapbjaa
open Go.ChangeShapes Go.WideShapes Go.ChangeAt Go.RowKit
set_option linter.unusedVariables false
set_option linter.unusedSimpArgs false
theorem mask_4' (a : Nat) (ha : Hid (a < 18446744073709551616)) (w : World) : Calls Try.prog 33 #[.int .i64 4, .int .u64 a] w (RetU (maskN false a) w) := rmask_c 4 false rfl a ha w
theorem mask_8' (a : Nat) (ha : Hid (a < 18446744073709551616)) (w : World) : Calls Try.prog 33 #[.int .i64 8, .int .u64 a] w (RetU (maskN true a) w) := rmask_c 8 true rfl a ha w
set_option maxRecDepth 100000 in
set_option maxHeartbeats 2000000 in
theorem RClass_4 (a : Nat) (ha : Hid (a < 18446744073709551616)) (w : World) : Calls Try.prog 25 #[.int .i64 4, .int .u64 a] w (RetU (2 ^ (clsV false a).toNat) w) := by
  have HC : Hid (clsV false a = clsX 2143289344 2139095040 8388608 (farN false a) (minusN false a)) := rfl
  have HX : Hid (farN false a < 2147483648) := Nat.mod_lt _ (by decide)
  have HS : Hid (sigX false a = decide (2139095040 < farN false a ∧ farN false a < 2143289344)) := rfl
  have HN : Hid (nanX false a = decide (2139095040 < farN false a)) := rfl
  have HI : Hid (infX false a = decide (farN false a = 2139095040)) := rfl
  have HZ : Hid (zeroX false a = decide (farN false a = 0)) := rfl
  have HFC := Lib.hid (far_clear false a)
  have HNT : Hid (noughtV false true = signB false) := rfl
  go_enter Try.func25, Try.ntmps25
  go_wp2_with fail
  refine (right_4 _).mono ?_; rintro e w1 ⟨rfl, hb1⟩
  go_wp2_with fail
  refine (sig_4 a ha _).mono ?_; rintro e w2 ⟨rfl, hb2⟩
  generalize hx : farN false a = x at *
  have HXX := Lib.hid hx; clear hx
  by_cases c1 : 2139095040 < x ∧ x < 2143289344
  · have E : Hid (clsV false a = 8) := by show _ = _; rw [HC.out]; unfold clsX; rw [if_neg (show ¬ 2143289344 ≤ x by omega), if_pos c1.1]
    rw [show sigX false a = true from HS.out.trans (decide_eq_true c1)]
    go_wp2_with fail
    go_ret
    exact retU_mk (by rw [E.out]; rfl) (by repeat (first | (with_reducible first | exact Below.refl _ _ | assumption | exact Nat.le_refl _ | refine Below.drew ?_ | refine Below.alloc ?_ ?_ _ | refine Below.setCell ?_ ?_ _ | refine le_alloc ?_ | refine le_set ?_ | refine le_drew ?_ | refine below_step (by assumption) ?_ ?_ | refine le_below (by assumption) ?_) | (dsimp only; omega)))
  · rw [show sigX false a = false from HS.out.trans (decide_eq_false c1)]
    go_wp2_with fail
    refine (nan_4 a ha _).mono ?_; rintro e w3 ⟨rfl, hb3⟩
    by_cases c2 : 2139095040 < x
    · have E : Hid (clsV false a = 9) := by show _ = _; rw [HC.out]; unfold clsX; rw [if_pos (show 2143289344 ≤ x by omega)]
      rw [show nanX false a = true from HN.out.trans (decide_eq_true c2)]
      clear c1 c2
      go_wp2_with fail
      go_ret
      exact retU_mk (by rw [E.out]; rfl) (by repeat (first | (with_reducible first | exact Below.refl _ _ | assumption | exact Nat.le_refl _ | refine Below.drew ?_ | refine Below.alloc ?_ ?_ _ | refine Below.setCell ?_ ?_ _ | refine le_alloc ?_ | refine le_set ?_ | refine le_drew ?_ | refine below_step (by assumption) ?_ ?_ | refine le_below (by assumption) ?_) | (dsimp only; omega)))
    · rw [show nanX false a = false from HN.out.trans (decide_eq_false c2)]
      have hle : x ≤ 2139095040 := by omega
      have HLE := Lib.hid hle
      clear c1 c2 hle
      go_wp2_with fail
      refine (mask_4' a ha _).mono ?_; rintro e w4 ⟨rfl, hb4⟩
      go_wp2_with fail
      refine (nought_4 true _).mono ?_; rintro e w5 ⟨rfl, hb5⟩
      rw [HNT.out]
      go_wp2_with fail
      rw [HFC.out]
      refine (inf_4 a ha _).mono ?_; rintro e w6 ⟨rfl, hb6⟩
      by_cases c3 : x = 2139095040
      · rw [show infX false a = true from HI.out.trans (decide_eq_true c3)]
        have C3 := Lib.hid c3; clear c3
        go_wp2_with fail
        refine (minused_4 a ha _).mono ?_; rintro e w9 ⟨rfl, hb9⟩
        generalize minusN false a = mi at *
        cases mi
        · have E : Hid (clsV false a = 7) := by show _ = _; rw [HC.out]; unfold clsX; rw [if_neg (show ¬ 2143289344 ≤ x by have := C3.out; omega), if_neg (show ¬ 2139095040 < x by have := C3.out; omega), if_pos C3.out]; rfl
          go_wp2_with fail
          go_ret
          exact retU_mk (by rw [E.out]; rfl) (by repeat (first | (with_reducible first | exact Below.refl _ _ | assumption | exact Nat.le_refl _ | refine Below.drew ?_ | refine Below.alloc ?_ ?_ _ | refine Below.setCell ?_ ?_ _ | refine le_alloc ?_ | refine le_set ?_ | refine le_drew ?_ | refine below_step (by assumption) ?_ ?_ | refine le_below (by assumption) ?_) | (dsimp only; omega)))
        · have E : Hid (clsV false a = 0) := by show _ = _; rw [HC.out]; unfold clsX; rw [if_neg (show ¬ 2143289344 ≤ x by have := C3.out; omega), if_neg (show ¬ 2139095040 < x by have := C3.out; omega), if_pos C3.out]; rfl
          go_wp2_with fail
          go_ret
          exact retU_mk (by rw [E.out]; rfl) (by repeat (first | (with_reducible first | exact Below.refl _ _ | assumption | exact Nat.le_refl _ | refine Below.drew ?_ | refine Below.alloc ?_ ?_ _ | refine Below.setCell ?_ ?_ _ | refine le_alloc ?_ | refine le_set ?_ | refine le_drew ?_ | refine below_step (by assumption) ?_ ?_ | refine le_below (by assumption) ?_) | (dsimp only; omega)))
      · rw [show infX false a = false from HI.out.trans (decide_eq_false c3)]
        have C3 := Lib.hid c3; clear c3
        go_wp2_with fail
        refine (zero_4 a ha _).mono ?_; rintro e w7 ⟨rfl, hb7⟩
        by_cases c4 : x = 0
        · rw [show zeroX false a = true from HZ.out.trans (decide_eq_true c4)]
          have C4 := Lib.hid c4; clear c4
          go_wp2_with fail
          refine (minused_4 a ha _).mono ?_; rintro e w9 ⟨rfl, hb9⟩
          generalize minusN false a = mi at *
          cases mi
          · have E : Hid (clsV false a = 4) := by show _ = _; rw [HC.out]; unfold clsX; rw [if_neg (show ¬ 2143289344 ≤ x by have := C4.out; omega), if_neg (show ¬ 2139095040 < x by have := C4.out; omega), if_neg C3.out, if_neg (show ¬ 8388608 ≤ x by have := C4.out; omega), if_neg (show ¬ x ≠ 0 by have := C4.out; omega)]; rfl
            go_wp2_with fail
            go_ret
            exact retU_mk (by rw [E.out]; rfl) (by repeat (first | (with_reducible first | exact Below.refl _ _ | assumption | exact Nat.le_refl _ | refine Below.drew ?_ | refine Below.alloc ?_ ?_ _ | refine Below.setCell ?_ ?_ _ | refine le_alloc ?_ | refine le_set ?_ | refine le_drew ?_ | refine below_step (by assumption) ?_ ?_ | refine le_below (by assumption) ?_) | (dsimp only; omega)))
          · have E : Hid (clsV false a = 3) := by show _ = _; rw [HC.out]; unfold clsX; rw [if_neg (show ¬ 2143289344 ≤ x by have := C4.out; omega), if_neg (show ¬ 2139095040 < x by have := C4.out; omega), if_neg C3.out, if_neg (show ¬ 8388608 ≤ x by have := C4.out; omega), if_neg (show ¬ x ≠ 0 by have := C4.out; omega)]; rfl
            go_wp2_with fail
            go_ret
            exact retU_mk (by rw [E.out]; rfl) (by repeat (first | (with_reducible first | exact Below.refl _ _ | assumption | exact Nat.le_refl _ | refine Below.drew ?_ | refine Below.alloc ?_ ?_ _ | refine Below.setCell ?_ ?_ _ | refine le_alloc ?_ | refine le_set ?_ | refine le_drew ?_ | refine below_step (by assumption) ?_ ?_ | refine le_below (by assumption) ?_) | (dsimp only; omega)))
        · rw [show zeroX false a = false from HZ.out.trans (decide_eq_false c4)]
          have C4 := Lib.hid c4; clear c4
          by_cases c5 : x < 8388608
          · have g5 : ((x : Int) / 8388608 == 0) = true := by rw [beq_iff_eq]; omega
            have C5 := Lib.hid c5; clear c5
            go_wp2_with fail
            refine (minused_4 a ha _).mono ?_; rintro e w9 ⟨rfl, hb9⟩
            generalize minusN false a = mi at *
            cases mi
            · have E : Hid (clsV false a = 5) := by show _ = _; rw [HC.out]; unfold clsX; rw [if_neg (show ¬ 2143289344 ≤ x by have := C5.out; omega), if_neg (show ¬ 2139095040 < x by have := C5.out; omega), if_neg C3.out, if_neg (show ¬ 8388608 ≤ x by have := C5.out; omega), if_pos C4.out]; rfl
              go_wp2_with fail
              go_ret
              exact retU_mk (by rw [E.out]; rfl) (by repeat (first | (with_reducible first | exact Below.refl _ _ | assumption | exact Nat.le_refl _ | refine Below.drew ?_ | refine Below.alloc ?_ ?_ _ | refine Below.setCell ?_ ?_ _ | refine le_alloc ?_ | refine le_set ?_ | refine le_drew ?_ | refine below_step (by assumption) ?_ ?_ | refine le_below (by assumption) ?_) | (dsimp only; omega)))
            · have E : Hid (clsV false a = 2) := by show _ = _; rw [HC.out]; unfold clsX; rw [if_neg (show ¬ 2143289344 ≤ x by have := C5.out; omega), if_neg (show ¬ 2139095040 < x by have := C5.out; omega), if_neg C3.out, if_neg (show ¬ 8388608 ≤ x by have := C5.out; omega), if_pos C4.out]; rfl
              go_wp2_with fail
              go_ret
              exact retU_mk (by rw [E.out]; rfl) (by repeat (first | (with_reducible first | exact Below.refl _ _ | assumption | exact Nat.le_refl _ | refine Below.drew ?_ | refine Below.alloc ?_ ?_ _ | refine Below.setCell ?_ ?_ _ | refine le_alloc ?_ | refine le_set ?_ | refine le_drew ?_ | refine below_step (by assumption) ?_ ?_ | refine le_below (by assumption) ?_) | (dsimp only; omega)))
          · have g5 : ((x : Int) / 8388608 == 0) = false := by rw [beq_eq_false_iff_ne]; omega
            have C5 := Lib.hid c5; clear c5
            go_wp2_with fail
            refine (minused_4 a ha _).mono ?_; rintro e w9 ⟨rfl, hb9⟩
            generalize minusN false a = mi at *
            cases mi
            · have E : Hid (clsV false a = 6) := by show _ = _; rw [HC.out]; unfold clsX; rw [if_neg (show ¬ 2143289344 ≤ x by have := HLE.out; omega), if_neg (show ¬ 2139095040 < x by have := HLE.out; omega), if_neg C3.out, if_pos (show 8388608 ≤ x by have := C5.out; omega)]; rfl
              go_wp2_with fail
              go_ret
              exact retU_mk (by rw [E.out]; rfl) (by repeat (first | (with_reducible first | exact Below.refl _ _ | assumption | exact Nat.le_refl _ | refine Below.drew ?_ | refine Below.alloc ?_ ?_ _ | refine Below.setCell ?_ ?_ _ | refine le_alloc ?_ | refine le_set ?_ | refine le_drew ?_ | refine below_step (by assumption) ?_ ?_ | refine le_below (by assumption) ?_) | (dsimp only; omega)))
            · have E : Hid (clsV false a = 1) := by show _ = _; rw [HC.out]; unfold clsX; rw [if_neg (show ¬ 2143289344 ≤ x by have := HLE.out; omega), if_neg (show ¬ 2139095040 < x by have := HLE.out; omega), if_neg C3.out, if_pos (show 8388608 ≤ x by have := C5.out; omega)]; rfl
              go_wp2_with fail
              go_ret
              exact retU_mk (by rw [E.out]; rfl) (by repeat (first | (with_reducible first | exact Below.refl _ _ | assumption | exact Nat.le_refl _ | refine Below.drew ?_ | refine Below.alloc ?_ ?_ _ | refine Below.setCell ?_ ?_ _ | refine le_alloc ?_ | refine le_set ?_ | refine le_drew ?_ | refine below_step (by assumption) ?_ ?_ | refine le_below (by assumption) ?_) | (dsimp only; omega)))
set_option maxRecDepth 100000 in
set_option maxHeartbeats 2000000 in
theorem RClass_8 (a : Nat) (ha : Hid (a < 18446744073709551616)) (w : World) : Calls Try.prog 25 #[.int .i64 8, .int .u64 a] w (RetU (2 ^ (clsV true a).toNat) w) := by
  have HC : Hid (clsV true a = clsX 9221120237041090560 9218868437227405312 4503599627370496 (farN true a) (minusN true a)) := rfl
  have HX : Hid (farN true a < 9223372036854775808) := Nat.mod_lt _ (by decide)
  have HS : Hid (sigX true a = decide (9218868437227405312 < farN true a ∧ farN true a < 9221120237041090560)) := rfl
  have HN : Hid (nanX true a = decide (9218868437227405312 < farN true a)) := rfl
  have HI : Hid (infX true a = decide (farN true a = 9218868437227405312)) := rfl
  have HZ : Hid (zeroX true a = decide (farN true a = 0)) := rfl
  have HFC := Lib.hid (far_clear true a)
  have HNT : Hid (noughtV true true = signB true) := rfl
  go_enter Try.func25, Try.ntmps25
  go_wp2_with fail
  refine (right_8 _).mono ?_; rintro e w1 ⟨rfl, hb1⟩
  go_wp2_with fail
  refine (sig_8 a ha _).mono ?_; rintro e w2 ⟨rfl, hb2⟩
  generalize hx : farN true a = x at *
  have HXX := Lib.hid hx; clear hx
  by_cases c1 : 9218868437227405312 < x ∧ x < 9221120237041090560
  · have E : Hid (clsV true a = 8) := by show _ = _; rw [HC.out]; unfold clsX; rw [if_neg (show ¬ 9221120237041090560 ≤ x by omega), if_pos c1.1]
    rw [show sigX true a = true from HS.out.trans (decide_eq_true c1)]
    go_wp2_with fail
    go_ret
    exact retU_mk (by rw [E.out]; rfl) (by repeat (first | (with_reducible first | exact Below.refl _ _ | assumption | exact Nat.le_refl _ | refine Below.drew ?_ | refine Below.alloc ?_ ?_ _ | refine Below.setCell ?_ ?_ _ | refine le_alloc ?_ | refine le_set ?_ | refine le_drew ?_ | refine below_step (by assumption) ?_ ?_ | refine le_below (by assumption) ?_) | (dsimp only; omega)))
  · rw [show sigX true a = false from HS.out.trans (decide_eq_false c1)]
    go_wp2_with fail
    refine (nan_8 a ha _).mono ?_; rintro e w3 ⟨rfl, hb3⟩
    by_cases c2 : 9218868437227405312 < x
    · have E : Hid (clsV true a = 9) := by show _ = _; rw [HC.out]; unfold clsX; rw [if_pos (show 9221120237041090560 ≤ x by omega)]
      rw [show nanX true a = true from HN.out.trans (decide_eq_true c2)]
      clear c1 c2
      go_wp2_with fail
      go_ret
      exact retU_mk (by rw [E.out]; rfl) (by repeat (first | (with_reducible first | exact Below.refl _ _ | assumption | exact Nat.le_refl _ | refine Below.drew ?_ | refine Below.alloc ?_ ?_ _ | refine Below.setCell ?_ ?_ _ | refine le_alloc ?_ | refine le_set ?_ | refine le_drew ?_ | refine below_step (by assumption) ?_ ?_ | refine le_below (by assumption) ?_) | (dsimp only; omega)))
    · rw [show nanX true a = false from HN.out.trans (decide_eq_false c2)]
      have hle : x ≤ 9218868437227405312 := by omega
      have HLE := Lib.hid hle
      clear c1 c2 hle
      go_wp2_with fail
      refine (mask_8' a ha _).mono ?_; rintro e w4 ⟨rfl, hb4⟩
      go_wp2_with fail
      refine (nought_8 true _).mono ?_; rintro e w5 ⟨rfl, hb5⟩
      rw [HNT.out]
      go_wp2_with fail
      rw [HFC.out]
      refine (inf_8 a ha _).mono ?_; rintro e w6 ⟨rfl, hb6⟩
      by_cases c3 : x = 9218868437227405312
      · rw [show infX true a = true from HI.out.trans (decide_eq_true c3)]
        have C3 := Lib.hid c3; clear c3
        go_wp2_with fail
        refine (minused_8 a ha _).mono ?_; rintro e w9 ⟨rfl, hb9⟩
        generalize minusN true a = mi at *
        cases mi
        · have E : Hid (clsV true a = 7) := by show _ = _; rw [HC.out]; unfold clsX; rw [if_neg (show ¬ 9221120237041090560 ≤ x by have := C3.out; omega), if_neg (show ¬ 9218868437227405312 < x by have := C3.out; omega), if_pos C3.out]; rfl
          go_wp2_with fail
          go_ret
          exact retU_mk (by rw [E.out]; rfl) (by repeat (first | (with_reducible first | exact Below.refl _ _ | assumption | exact Nat.le_refl _ | refine Below.drew ?_ | refine Below.alloc ?_ ?_ _ | refine Below.setCell ?_ ?_ _ | refine le_alloc ?_ | refine le_set ?_ | refine le_drew ?_ | refine below_step (by assumption) ?_ ?_ | refine le_below (by assumption) ?_) | (dsimp only; omega)))
        · have E : Hid (clsV true a = 0) := by show _ = _; rw [HC.out]; unfold clsX; rw [if_neg (show ¬ 9221120237041090560 ≤ x by have := C3.out; omega), if_neg (show ¬ 9218868437227405312 < x by have := C3.out; omega), if_pos C3.out]; rfl
          go_wp2_with fail
          go_ret
          exact retU_mk (by rw [E.out]; rfl) (by repeat (first | (with_reducible first | exact Below.refl _ _ | assumption | exact Nat.le_refl _ | refine Below.drew ?_ | refine Below.alloc ?_ ?_ _ | refine Below.setCell ?_ ?_ _ | refine le_alloc ?_ | refine le_set ?_ | refine le_drew ?_ | refine below_step (by assumption) ?_ ?_ | refine le_below (by assumption) ?_) | (dsimp only; omega)))
      · rw [show infX true a = false from HI.out.trans (decide_eq_false c3)]
        have C3 := Lib.hid c3; clear c3
        go_wp2_with fail
        refine (zero_8 a ha _).mono ?_; rintro e w7 ⟨rfl, hb7⟩
        by_cases c4 : x = 0
        · rw [show zeroX true a = true from HZ.out.trans (decide_eq_true c4)]
          have C4 := Lib.hid c4; clear c4
          go_wp2_with fail
          refine (minused_8 a ha _).mono ?_; rintro e w9 ⟨rfl, hb9⟩
          generalize minusN true a = mi at *
          cases mi
          · have E : Hid (clsV true a = 4) := by show _ = _; rw [HC.out]; unfold clsX; rw [if_neg (show ¬ 9221120237041090560 ≤ x by have := C4.out; omega), if_neg (show ¬ 9218868437227405312 < x by have := C4.out; omega), if_neg C3.out, if_neg (show ¬ 4503599627370496 ≤ x by have := C4.out; omega), if_neg (show ¬ x ≠ 0 by have := C4.out; omega)]; rfl
            go_wp2_with fail
            go_ret
            exact retU_mk (by rw [E.out]; rfl) (by repeat (first | (with_reducible first | exact Below.refl _ _ | assumption | exact Nat.le_refl _ | refine Below.drew ?_ | refine Below.alloc ?_ ?_ _ | refine Below.setCell ?_ ?_ _ | refine le_alloc ?_ | refine le_set ?_ | refine le_drew ?_ | refine below_step (by assumption) ?_ ?_ | refine le_below (by assumption) ?_) | (dsimp only; omega)))
          · have E : Hid (clsV true a = 3) := by show _ = _; rw [HC.out]; unfold clsX; rw [if_neg (show ¬ 9221120237041090560 ≤ x by have := C4.out; omega), if_neg (show ¬ 9218868437227405312 < x by have := C4.out; omega), if_neg C3.out, if_neg (show ¬ 4503599627370496 ≤ x by have := C4.out; omega), if_neg (show ¬ x ≠ 0 by have := C4.out; omega)]; rfl
            go_wp2_with fail
            go_ret
            exact retU_mk (by rw [E.out]; rfl) (by repeat (first | (with_reducible first | exact Below.refl _ _ | assumption | exact Nat.le_refl _ | refine Below.drew ?_ | refine Below.alloc ?_ ?_ _ | refine Below.setCell ?_ ?_ _ | refine le_alloc ?_ | refine le_set ?_ | refine le_drew ?_ | refine below_step (by assumption) ?_ ?_ | refine le_below (by assumption) ?_) | (dsimp only; omega)))
        · rw [show zeroX true a = false from HZ.out.trans (decide_eq_false c4)]
          have C4 := Lib.hid c4; clear c4
          by_cases c5 : x < 4503599627370496
          · have g5 : ((x : Int) / 4503599627370496 == 0) = true := by rw [beq_iff_eq]; omega
            have C5 := Lib.hid c5; clear c5
            go_wp2_with fail
            refine (minused_8 a ha _).mono ?_; rintro e w9 ⟨rfl, hb9⟩
            generalize minusN true a = mi at *
            cases mi
            · have E : Hid (clsV true a = 5) := by show _ = _; rw [HC.out]; unfold clsX; rw [if_neg (show ¬ 9221120237041090560 ≤ x by have := C5.out; omega), if_neg (show ¬ 9218868437227405312 < x by have := C5.out; omega), if_neg C3.out, if_neg (show ¬ 4503599627370496 ≤ x by have := C5.out; omega), if_pos C4.out]; rfl
              go_wp2_with fail
              go_ret
              exact retU_mk (by rw [E.out]; rfl) (by repeat (first | (with_reducible first | exact Below.refl _ _ | assumption | exact Nat.le_refl _ | refine Below.drew ?_ | refine Below.alloc ?_ ?_ _ | refine Below.setCell ?_ ?_ _ | refine le_alloc ?_ | refine le_set ?_ | refine le_drew ?_ | refine below_step (by assumption) ?_ ?_ | refine le_below (by assumption) ?_) | (dsimp only; omega)))
            · have E : Hid (clsV true a = 2) := by show _ = _; rw [HC.out]; unfold clsX; rw [if_neg (show ¬ 9221120237041090560 ≤ x by have := C5.out; omega), if_neg (show ¬ 9218868437227405312 < x by have := C5.out; omega), if_neg C3.out, if_neg (show ¬ 4503599627370496 ≤ x by have := C5.out; omega), if_pos C4.out]; rfl
              go_wp2_with fail
              go_ret
              exact retU_mk (by rw [E.out]; rfl) (by repeat (first | (with_reducible first | exact Below.refl _ _ | assumption | exact Nat.le_refl _ | refine Below.drew ?_ | refine Below.alloc ?_ ?_ _ | refine Below.setCell ?_ ?_ _ | refine le_alloc ?_ | refine le_set ?_ | refine le_drew ?_ | refine below_step (by assumption) ?_ ?_ | refine le_below (by assumption) ?_) | (dsimp only; omega)))
          · have g5 : ((x : Int) / 4503599627370496 == 0) = false := by rw [beq_eq_false_iff_ne]; omega
            have C5 := Lib.hid c5; clear c5
            go_wp2_with fail
            refine (minused_8 a ha _).mono ?_; rintro e w9 ⟨rfl, hb9⟩
            generalize minusN true a = mi at *
            cases mi
            · have E : Hid (clsV true a = 6) := by show _ = _; rw [HC.out]; unfold clsX; rw [if_neg (show ¬ 9221120237041090560 ≤ x by have := HLE.out; omega), if_neg (show ¬ 9218868437227405312 < x by have := HLE.out; omega), if_neg C3.out, if_pos (show 4503599627370496 ≤ x by have := C5.out; omega)]; rfl
              go_wp2_with fail
              go_ret
              exact retU_mk (by rw [E.out]; rfl) (by repeat (first | (with_reducible first | exact Below.refl _ _ | assumption | exact Nat.le_refl _ | refine Below.drew ?_ | refine Below.alloc ?_ ?_ _ | refine Below.setCell ?_ ?_ _ | refine le_alloc ?_ | refine le_set ?_ | refine le_drew ?_ | refine below_step (by assumption) ?_ ?_ | refine le_below (by assumption) ?_) | (dsimp only; omega)))
            · have E : Hid (clsV true a = 1) := by show _ = _; rw [HC.out]; unfold clsX; rw [if_neg (show ¬ 9221120237041090560 ≤ x by have := HLE.out; omega), if_neg (show ¬ 9218868437227405312 < x by have := HLE.out; omega), if_neg C3.out, if_pos (show 4503599627370496 ≤ x by have := C5.out; omega)]; rfl
              go_wp2_with fail
              go_ret
              exact retU_mk (by rw [E.out]; rfl) (by repeat (first | (with_reducible first | exact Below.refl _ _ | assumption | exact Nat.le_refl _ | refine Below.drew ?_ | refine Below.alloc ?_ ?_ _ | refine Below.setCell ?_ ?_ _ | refine le_alloc ?_ | refine le_set ?_ | refine le_drew ?_ | refine below_step (by assumption) ?_ ?_ | refine le_below (by assumption) ?_) | (dsimp only; omega)))
end Go.Proofs.Ytbcfndgceapbjaa
