/- The contract of placeImmediate. -/
import Derived.Test.YtlohpakcikkdmaaB2
import Derived.Test.YtlohpakcikkdmaaE1
namespace Go.Proofs.Ytlohpakcikkdmaa
open Go.ChangeShapes Go.WideShapes Go.ChangeAt Go.RowKit Go.Sort
set_option linter.unusedVariables false
set_option linter.unusedSimpArgs false

theorem pimm_0 (p : Nat) (i : Int) (hp : Hid (p < 4294967296)) (hq : p &&& 8128 = 0) (w : World) : Calls Try.prog 44 #[.int .u32 p, .int .i64 i] w (RetU (wImm p i) w) := by
  have HV : Hid (wImm p i = 0) := by show _ = _; unfold wImm; rw [hq]; rw [if_neg (by decide), if_neg (by decide), if_neg (by decide), if_neg (by decide), if_neg (by decide), if_neg (by decide), if_neg (by decide)]
  have e0 : bits .and .u32 (p : Int) 8128 = 0 := and_parts p 0 hp hq
  clear hq
  go_enter Try.func44, Try.ntmps44
  go_wp2_with fail
  go_ret
  refine retU_mk ?_ (by repeat (first | (with_reducible first | exact Below.refl _ _ | assumption | exact Nat.le_refl _ | refine Below.drew ?_ | refine Below.alloc ?_ ?_ _ | refine Below.setCell ?_ ?_ _ | refine le_alloc ?_ | refine le_set ?_ | refine le_drew ?_ | refine below_step (by assumption) ?_ ?_ | refine le_below (by assumption) ?_) | (dsimp only; omega)))
  rw [HV.out]
  try rfl

theorem pimm_64 (p : Nat) (i : Int) (hp : Hid (p < 4294967296)) (hq : p &&& 8128 = 64) (w : World) : Calls Try.prog 44 #[.int .u32 p, .int .i64 i] w (RetU (wImm p i) w) := by
  have HV : Hid (wImm p i = plN i 20 12) := by show _ = _; unfold wImm; rw [hq]; rw [if_pos rfl]
  have e0 : bits .and .u32 (p : Int) 8128 = 64 := and_parts p 64 hp hq
  clear hq
  go_enter Try.func44, Try.ntmps44
  go_wp2_with fail
  refine (place_20_12 _ _).mono ?_; rintro e w1 ⟨rfl, hb1⟩
  go_wp2_with fail
  go_ret
  refine retU_mk ?_ (by repeat (first | (with_reducible first | exact Below.refl _ _ | assumption | exact Nat.le_refl _ | refine Below.drew ?_ | refine Below.alloc ?_ ?_ _ | refine Below.setCell ?_ ?_ _ | refine le_alloc ?_ | refine le_set ?_ | refine le_drew ?_ | refine below_step (by assumption) ?_ ?_ | refine le_below (by assumption) ?_) | (dsimp only; omega)))
  rw [HV.out]
  try rfl

theorem pimm_128 (p : Nat) (i : Int) (hp : Hid (p < 4294967296)) (hq : p &&& 8128 = 128) (w : World) : Calls Try.prog 44 #[.int .u32 p, .int .i64 i] w (RetU (wImm p i) w) := by
  have HV : Hid (wImm p i = plN (i / 32) 25 7 ||| plN i 7 5) := by show _ = _; unfold wImm; rw [hq]; rw [if_neg (by decide), if_pos rfl]
  have e0 : bits .and .u32 (p : Int) 8128 = 128 := and_parts p 128 hp hq
  clear hq
  go_enter Try.func44, Try.ntmps44
  go_wp2_with fail
  refine (place_25_7 _ _).mono ?_; rintro e w1 ⟨rfl, hb1⟩
  go_wp2_with fail
  refine (place_7_5 _ _).mono ?_; rintro e w2 ⟨rfl, hb2⟩
  go_wp2_with fail
  go_ret
  refine retU_mk ?_ (by repeat (first | (with_reducible first | exact Below.refl _ _ | assumption | exact Nat.le_refl _ | refine Below.drew ?_ | refine Below.alloc ?_ ?_ _ | refine Below.setCell ?_ ?_ _ | refine le_alloc ?_ | refine le_set ?_ | refine le_drew ?_ | refine below_step (by assumption) ?_ ?_ | refine le_below (by assumption) ?_) | (dsimp only; omega)))
  rw [HV.out]
  exact u32_or_nat _ _ (plN_lt _ _ _ (by decide)) (plN_lt _ _ _ (by decide))

theorem pimm_256 (p : Nat) (i : Int) (hp : Hid (p < 4294967296)) (hq : p &&& 8128 = 256) (w : World) : Calls Try.prog 44 #[.int .u32 p, .int .i64 i] w (RetU (wImm p i) w) := by
  have HV : Hid (wImm p i = plN (i / 4096) 31 1 ||| plN (i / 2048) 7 1 ||| plN (i / 32) 25 6 ||| plN (i / 2) 8 4) := by show _ = _; unfold wImm; rw [hq]; rw [if_neg (by decide), if_neg (by decide), if_pos rfl]
  have e0 : bits .and .u32 (p : Int) 8128 = 256 := and_parts p 256 hp hq
  clear hq
  go_enter Try.func44, Try.ntmps44
  go_wp2_with fail
  refine (place_31_1 _ _).mono ?_; rintro e w1 ⟨rfl, hb1⟩
  go_wp2_with fail
  refine (place_7_1 _ _).mono ?_; rintro e w2 ⟨rfl, hb2⟩
  go_wp2_with fail
  refine (place_25_6 _ _).mono ?_; rintro e w3 ⟨rfl, hb3⟩
  go_wp2_with fail
  refine (place_8_4 _ _).mono ?_; rintro e w4 ⟨rfl, hb4⟩
  go_wp2_with fail
  go_ret
  refine retU_mk ?_ (by repeat (first | (with_reducible first | exact Below.refl _ _ | assumption | exact Nat.le_refl _ | refine Below.drew ?_ | refine Below.alloc ?_ ?_ _ | refine Below.setCell ?_ ?_ _ | refine le_alloc ?_ | refine le_set ?_ | refine le_drew ?_ | refine below_step (by assumption) ?_ ?_ | refine le_below (by assumption) ?_) | (dsimp only; omega)))
  rw [HV.out]
  have a := (plN_lt (i / 4096) 31 1 (by decide)); have b := (plN_lt (i / 2048) 7 1 (by decide)); have c := (plN_lt (i / 32) 25 6 (by decide)); have d := (plN_lt (i / 2) 8 4 (by decide))
  have ab := or_lt32 _ _ a b; have abc := or_lt32 _ _ ab c
  rw [u32_or_nat _ _ a b, u32_or_nat _ _ ab c, u32_or_nat _ _ abc d]

theorem pimm_512 (p : Nat) (i : Int) (hp : Hid (p < 4294967296)) (hq : p &&& 8128 = 512) (w : World) : Calls Try.prog 44 #[.int .u32 p, .int .i64 i] w (RetU (wImm p i) w) := by
  have HV : Hid (wImm p i = plN (i / 4096) 12 20) := by show _ = _; unfold wImm; rw [hq]; rw [if_neg (by decide), if_neg (by decide), if_neg (by decide), if_pos rfl]
  have e0 : bits .and .u32 (p : Int) 8128 = 512 := and_parts p 512 hp hq
  clear hq
  go_enter Try.func44, Try.ntmps44
  go_wp2_with fail
  refine (place_12_20 _ _).mono ?_; rintro e w1 ⟨rfl, hb1⟩
  go_wp2_with fail
  go_ret
  refine retU_mk ?_ (by repeat (first | (with_reducible first | exact Below.refl _ _ | assumption | exact Nat.le_refl _ | refine Below.drew ?_ | refine Below.alloc ?_ ?_ _ | refine Below.setCell ?_ ?_ _ | refine le_alloc ?_ | refine le_set ?_ | refine le_drew ?_ | refine below_step (by assumption) ?_ ?_ | refine le_below (by assumption) ?_) | (dsimp only; omega)))
  rw [HV.out]
  try rfl

theorem pimm_1024 (p : Nat) (i : Int) (hp : Hid (p < 4294967296)) (hq : p &&& 8128 = 1024) (w : World) : Calls Try.prog 44 #[.int .u32 p, .int .i64 i] w (RetU (wImm p i) w) := by
  have HV : Hid (wImm p i = plN (i / 1048576) 31 1 ||| plN (i / 4096) 12 8 ||| plN (i / 2048) 20 1 ||| plN (i / 2) 21 10) := by show _ = _; unfold wImm; rw [hq]; rw [if_neg (by decide), if_neg (by decide), if_neg (by decide), if_neg (by decide), if_pos rfl]
  have e0 : bits .and .u32 (p : Int) 8128 = 1024 := and_parts p 1024 hp hq
  clear hq
  go_enter Try.func44, Try.ntmps44
  go_wp2_with fail
  refine (place_31_1 _ _).mono ?_; rintro e w1 ⟨rfl, hb1⟩
  go_wp2_with fail
  refine (place_12_8 _ _).mono ?_; rintro e w2 ⟨rfl, hb2⟩
  go_wp2_with fail
  refine (place_20_1 _ _).mono ?_; rintro e w3 ⟨rfl, hb3⟩
  go_wp2_with fail
  refine (place_21_10 _ _).mono ?_; rintro e w4 ⟨rfl, hb4⟩
  go_wp2_with fail
  go_ret
  refine retU_mk ?_ (by repeat (first | (with_reducible first | exact Below.refl _ _ | assumption | exact Nat.le_refl _ | refine Below.drew ?_ | refine Below.alloc ?_ ?_ _ | refine Below.setCell ?_ ?_ _ | refine le_alloc ?_ | refine le_set ?_ | refine le_drew ?_ | refine below_step (by assumption) ?_ ?_ | refine le_below (by assumption) ?_) | (dsimp only; omega)))
  rw [HV.out]
  have a := (plN_lt (i / 1048576) 31 1 (by decide)); have b := (plN_lt (i / 4096) 12 8 (by decide)); have c := (plN_lt (i / 2048) 20 1 (by decide)); have d := (plN_lt (i / 2) 21 10 (by decide))
  have ab := or_lt32 _ _ a b; have abc := or_lt32 _ _ ab c
  rw [u32_or_nat _ _ a b, u32_or_nat _ _ ab c, u32_or_nat _ _ abc d]

theorem pimm_2048 (p : Nat) (i : Int) (hp : Hid (p < 4294967296)) (hq : p &&& 8128 = 2048) (w : World) : Calls Try.prog 44 #[.int .u32 p, .int .i64 i] w (RetU (wImm p i) w) := by
  have HV : Hid (wImm p i = plN i 20 6) := by show _ = _; unfold wImm; rw [hq]; rw [if_neg (by decide), if_neg (by decide), if_neg (by decide), if_neg (by decide), if_neg (by decide), if_pos rfl]
  have e0 : bits .and .u32 (p : Int) 8128 = 2048 := and_parts p 2048 hp hq
  clear hq
  go_enter Try.func44, Try.ntmps44
  go_wp2_with fail
  refine (place_20_6 _ _).mono ?_; rintro e w1 ⟨rfl, hb1⟩
  go_wp2_with fail
  go_ret
  refine retU_mk ?_ (by repeat (first | (with_reducible first | exact Below.refl _ _ | assumption | exact Nat.le_refl _ | refine Below.drew ?_ | refine Below.alloc ?_ ?_ _ | refine Below.setCell ?_ ?_ _ | refine le_alloc ?_ | refine le_set ?_ | refine le_drew ?_ | refine below_step (by assumption) ?_ ?_ | refine le_below (by assumption) ?_) | (dsimp only; omega)))
  rw [HV.out]
  try rfl

theorem pimm_4096 (p : Nat) (i : Int) (hp : Hid (p < 4294967296)) (hq : p &&& 8128 = 4096) (w : World) : Calls Try.prog 44 #[.int .u32 p, .int .i64 i] w (RetU (wImm p i) w) := by
  have HV : Hid (wImm p i = plN i 15 5) := by show _ = _; unfold wImm; rw [hq]; rw [if_neg (by decide), if_neg (by decide), if_neg (by decide), if_neg (by decide), if_neg (by decide), if_neg (by decide), if_pos rfl]
  have e0 : bits .and .u32 (p : Int) 8128 = 4096 := and_parts p 4096 hp hq
  clear hq
  go_enter Try.func44, Try.ntmps44
  go_wp2_with fail
  refine (place_15_5 _ _).mono ?_; rintro e w1 ⟨rfl, hb1⟩
  go_wp2_with fail
  go_ret
  refine retU_mk ?_ (by repeat (first | (with_reducible first | exact Below.refl _ _ | assumption | exact Nat.le_refl _ | refine Below.drew ?_ | refine Below.alloc ?_ ?_ _ | refine Below.setCell ?_ ?_ _ | refine le_alloc ?_ | refine le_set ?_ | refine le_drew ?_ | refine below_step (by assumption) ?_ ?_ | refine le_below (by assumption) ?_) | (dsimp only; omega)))
  rw [HV.out]
  try rfl

theorem placeImm_c (p : Nat) (i : Int) (hp : Hid (p < 4294967296)) (hq : Hid (OkImm p)) (w : World) : Calls Try.prog 44 #[.int .u32 p, .int .i64 i] w (RetU (wImm p i) w) := by
  rcases hq.out with h | h | h | h | h | h | h | h
  · exact pimm_0 p i hp h w
  · exact pimm_64 p i hp h w
  · exact pimm_128 p i hp h w
  · exact pimm_256 p i hp h w
  · exact pimm_512 p i hp h w
  · exact pimm_1024 p i hp h w
  · exact pimm_2048 p i hp h w
  · exact pimm_4096 p i hp h w
end Go.Proofs.Ytlohpakcikkdmaa
