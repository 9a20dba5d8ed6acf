/- The contracts of swapped, Atomic. -/
import Derived.Test.YtbbgcjdflcfnjaaB6
namespace Go.Proofs.Ytbbgcjdflcfnjaa
open Go.ChangeShapes Go.WideShapes Go.ChangeAt Go.RowKit
set_option linter.unusedVariables false
set_option linter.unusedSimpArgs false
theorem smin32 (a b : Nat) (ha : a < 4294967296) (hb : b < 4294967296) : min (sgn H32 a) (sgn H32 b) % 4294967296 = (((if sgn H32 a < sgn H32 b then a else b) : Nat) : Int) := by
  have e1 := sgn_mod H32 a ha; have e2 := sgn_mod H32 b hb
  rw [un32] at e1 e2
  split
  · rw [Int.min_eq_left (by omega), ← e1]; omega
  · rw [Int.min_eq_right (by omega), ← e2]; omega
theorem smax32 (a b : Nat) (ha : a < 4294967296) (hb : b < 4294967296) : max (sgn H32 a) (sgn H32 b) % 4294967296 = (((if sgn H32 a < sgn H32 b then b else a) : Nat) : Int) := by
  have e1 := sgn_mod H32 a ha; have e2 := sgn_mod H32 b hb
  rw [un32] at e1 e2
  split
  · rw [Int.max_eq_right (by omega), ← e2]; omega
  · rw [Int.max_eq_left (by omega), ← e1]; omega
theorem smin64 (a b : Nat) (ha : a < 18446744073709551616) (hb : b < 18446744073709551616) : min (sgn H64 a) (sgn H64 b) % 18446744073709551616 = (((if sgn H64 a < sgn H64 b then a else b) : Nat) : Int) := by
  have e1 := sgn_mod H64 a ha; have e2 := sgn_mod H64 b hb
  rw [un64] at e1 e2
  split
  · rw [Int.min_eq_left (by omega), ← e1]; omega
  · rw [Int.min_eq_right (by omega), ← e2]; omega
theorem smax64 (a b : Nat) (ha : a < 18446744073709551616) (hb : b < 18446744073709551616) : max (sgn H64 a) (sgn H64 b) % 18446744073709551616 = (((if sgn H64 a < sgn H64 b then b else a) : Nat) : Int) := by
  have e1 := sgn_mod H64 a ha; have e2 := sgn_mod H64 b hb
  rw [un64] at e1 e2
  split
  · rw [Int.max_eq_right (by omega), ← e2]; omega
  · rw [Int.max_eq_left (by omega), ← e1]; omega
theorem umin (a b : Nat) : min (a : Int) (b : Int) = (((if a < b then a else b) : Nat) : Int) := by split <;> omega
theorem umax (a b : Nat) : max (a : Int) (b : Int) = (((if a < b then b else a) : Nat) : Int) := by split <;> omega
set_option maxRecDepth 100000 in
theorem swap32_40 (a b : Nat) (ha : Hid (a < 4294967296)) (hb : Hid (b < 4294967296)) (w : World) : Calls Try.prog 30 #[.int .i64 40, .int .u32 a, .int .u32 b] w (RetO .u32 (swapV H32 40 a b) w) := by
  go_enter Try.func30, Try.ntmps30
  go_wp2_with fail
  go_ret2
  exact retO_mk _ (by rfl) rfl rfl (by repeat (first | (with_reducible first | exact Below.refl _ _ | assumption | exact Nat.le_refl _ | refine Below.drew ?_ | refine Below.alloc ?_ ?_ _ | refine below_drewN ?_ _ | refine Below.setCell ?_ ?_ _ | refine le_alloc ?_ | refine le_set ?_ | refine le_drew ?_ | refine le_drewN ?_ | refine below_step (by assumption) ?_ ?_ | refine le_below (by assumption) ?_) | (dsimp only; omega)))
set_option maxRecDepth 100000 in
theorem swap32_41 (a b : Nat) (ha : Hid (a < 4294967296)) (hb : Hid (b < 4294967296)) (w : World) : Calls Try.prog 30 #[.int .i64 41, .int .u32 a, .int .u32 b] w (RetO .u32 (swapV H32 41 a b) w) := by
  go_enter Try.func30, Try.ntmps30
  go_wp2_with fail
  go_ret2
  exact retO_mk _ (by rfl) (by (try simp only [IntKind.wrap_u64]); have h1 := ha.out; have h2 := hb.out; unfold H32; omega) rfl (by repeat (first | (with_reducible first | exact Below.refl _ _ | assumption | exact Nat.le_refl _ | refine Below.drew ?_ | refine Below.alloc ?_ ?_ _ | refine below_drewN ?_ _ | refine Below.setCell ?_ ?_ _ | refine le_alloc ?_ | refine le_set ?_ | refine le_drew ?_ | refine le_drewN ?_ | refine below_step (by assumption) ?_ ?_ | refine le_below (by assumption) ?_) | (dsimp only; omega)))
set_option maxRecDepth 100000 in
theorem swap32_42 (a b : Nat) (ha : Hid (a < 4294967296)) (hb : Hid (b < 4294967296)) (w : World) : Calls Try.prog 30 #[.int .i64 42, .int .u32 a, .int .u32 b] w (RetO .u32 (swapV H32 42 a b) w) := by
  go_enter Try.func30, Try.ntmps30
  go_wp2_with fail
  go_ret2
  exact retO_mk _ (by rfl) (by (try simp only [IntKind.wrap_u64]); exact u32_xor_nat a b ha.out hb.out) rfl (by repeat (first | (with_reducible first | exact Below.refl _ _ | assumption | exact Nat.le_refl _ | refine Below.drew ?_ | refine Below.alloc ?_ ?_ _ | refine below_drewN ?_ _ | refine Below.setCell ?_ ?_ _ | refine le_alloc ?_ | refine le_set ?_ | refine le_drew ?_ | refine le_drewN ?_ | refine below_step (by assumption) ?_ ?_ | refine le_below (by assumption) ?_) | (dsimp only; omega)))
set_option maxRecDepth 100000 in
theorem swap32_43 (a b : Nat) (ha : Hid (a < 4294967296)) (hb : Hid (b < 4294967296)) (w : World) : Calls Try.prog 30 #[.int .i64 43, .int .u32 a, .int .u32 b] w (RetO .u32 (swapV H32 43 a b) w) := by
  go_enter Try.func30, Try.ntmps30
  go_wp2_with fail
  go_ret2
  exact retO_mk _ (by rfl) (by (try simp only [IntKind.wrap_u64]); exact u32_and_nat a b ha.out hb.out) rfl (by repeat (first | (with_reducible first | exact Below.refl _ _ | assumption | exact Nat.le_refl _ | refine Below.drew ?_ | refine Below.alloc ?_ ?_ _ | refine below_drewN ?_ _ | refine Below.setCell ?_ ?_ _ | refine le_alloc ?_ | refine le_set ?_ | refine le_drew ?_ | refine le_drewN ?_ | refine below_step (by assumption) ?_ ?_ | refine le_below (by assumption) ?_) | (dsimp only; omega)))
set_option maxRecDepth 100000 in
theorem swap32_44 (a b : Nat) (ha : Hid (a < 4294967296)) (hb : Hid (b < 4294967296)) (w : World) : Calls Try.prog 30 #[.int .i64 44, .int .u32 a, .int .u32 b] w (RetO .u32 (swapV H32 44 a b) w) := by
  go_enter Try.func30, Try.ntmps30
  go_wp2_with fail
  go_ret2
  exact retO_mk _ (by rfl) (by (try simp only [IntKind.wrap_u64]); exact u32_or_nat a b ha.out hb.out) rfl (by repeat (first | (with_reducible first | exact Below.refl _ _ | assumption | exact Nat.le_refl _ | refine Below.drew ?_ | refine Below.alloc ?_ ?_ _ | refine below_drewN ?_ _ | refine Below.setCell ?_ ?_ _ | refine le_alloc ?_ | refine le_set ?_ | refine le_drew ?_ | refine le_drewN ?_ | refine below_step (by assumption) ?_ ?_ | refine le_below (by assumption) ?_) | (dsimp only; omega)))
set_option maxRecDepth 100000 in
theorem swap32_45 (a b : Nat) (ha : Hid (a < 4294967296)) (hb : Hid (b < 4294967296)) (w : World) : Calls Try.prog 30 #[.int .i64 45, .int .u32 a, .int .u32 b] w (RetO .u32 (swapV H32 45 a b) w) := by
  have hv : Hid (swapV H32 45 a b = some (if sgn H32 a < sgn H32 b then a else b)) := rfl
  have ea := Lib.hid (sw32 a ha.out); have eb := Lib.hid (sw32 b hb.out)
  go_enter Try.func30, Try.ntmps30
  go_wp2_with fail
  go_ret2
  exact retO_mk _ hv.out (by (try simp only [IntKind.wrap_u64]); rw [ea.out, eb.out]; exact smin32 a b ha.out hb.out) rfl (by repeat (first | (with_reducible first | exact Below.refl _ _ | assumption | exact Nat.le_refl _ | refine Below.drew ?_ | refine Below.alloc ?_ ?_ _ | refine below_drewN ?_ _ | refine Below.setCell ?_ ?_ _ | refine le_alloc ?_ | refine le_set ?_ | refine le_drew ?_ | refine le_drewN ?_ | refine below_step (by assumption) ?_ ?_ | refine le_below (by assumption) ?_) | (dsimp only; omega)))
set_option maxRecDepth 100000 in
theorem swap32_46 (a b : Nat) (ha : Hid (a < 4294967296)) (hb : Hid (b < 4294967296)) (w : World) : Calls Try.prog 30 #[.int .i64 46, .int .u32 a, .int .u32 b] w (RetO .u32 (swapV H32 46 a b) w) := by
  have hv : Hid (swapV H32 46 a b = some (if sgn H32 a < sgn H32 b then b else a)) := rfl
  have ea := Lib.hid (sw32 a ha.out); have eb := Lib.hid (sw32 b hb.out)
  go_enter Try.func30, Try.ntmps30
  go_wp2_with fail
  go_ret2
  exact retO_mk _ hv.out (by (try simp only [IntKind.wrap_u64]); rw [ea.out, eb.out]; exact smax32 a b ha.out hb.out) rfl (by repeat (first | (with_reducible first | exact Below.refl _ _ | assumption | exact Nat.le_refl _ | refine Below.drew ?_ | refine Below.alloc ?_ ?_ _ | refine below_drewN ?_ _ | refine Below.setCell ?_ ?_ _ | refine le_alloc ?_ | refine le_set ?_ | refine le_drew ?_ | refine le_drewN ?_ | refine below_step (by assumption) ?_ ?_ | refine le_below (by assumption) ?_) | (dsimp only; omega)))
set_option maxRecDepth 100000 in
theorem swap32_47 (a b : Nat) (ha : Hid (a < 4294967296)) (hb : Hid (b < 4294967296)) (w : World) : Calls Try.prog 30 #[.int .i64 47, .int .u32 a, .int .u32 b] w (RetO .u32 (swapV H32 47 a b) w) := by
  have hv : Hid (swapV H32 47 a b = some (if a < b then a else b)) := rfl
  go_enter Try.func30, Try.ntmps30
  go_wp2_with fail
  go_ret2
  exact retO_mk _ hv.out (by exact umin a b) rfl (by repeat (first | (with_reducible first | exact Below.refl _ _ | assumption | exact Nat.le_refl _ | refine Below.drew ?_ | refine Below.alloc ?_ ?_ _ | refine below_drewN ?_ _ | refine Below.setCell ?_ ?_ _ | refine le_alloc ?_ | refine le_set ?_ | refine le_drew ?_ | refine le_drewN ?_ | refine below_step (by assumption) ?_ ?_ | refine le_below (by assumption) ?_) | (dsimp only; omega)))
set_option maxRecDepth 100000 in
theorem swap32_48 (a b : Nat) (ha : Hid (a < 4294967296)) (hb : Hid (b < 4294967296)) (w : World) : Calls Try.prog 30 #[.int .i64 48, .int .u32 a, .int .u32 b] w (RetO .u32 (swapV H32 48 a b) w) := by
  have hv : Hid (swapV H32 48 a b = some (if a < b then b else a)) := rfl
  go_enter Try.func30, Try.ntmps30
  go_wp2_with fail
  go_ret2
  exact retO_mk _ hv.out (by exact umax a b) rfl (by repeat (first | (with_reducible first | exact Below.refl _ _ | assumption | exact Nat.le_refl _ | refine Below.drew ?_ | refine Below.alloc ?_ ?_ _ | refine below_drewN ?_ _ | refine Below.setCell ?_ ?_ _ | refine le_alloc ?_ | refine le_set ?_ | refine le_drew ?_ | refine le_drewN ?_ | refine below_step (by assumption) ?_ ?_ | refine le_below (by assumption) ?_) | (dsimp only; omega)))
set_option maxRecDepth 100000 in
theorem swap32_no (k : Int) (a b : Nat) (h40 : ¬ k = 40) (h41 : ¬ k = 41) (h42 : ¬ k = 42) (h43 : ¬ k = 43) (h44 : ¬ k = 44) (h45 : ¬ k = 45) (h46 : ¬ k = 46) (h47 : ¬ k = 47) (h48 : ¬ k = 48) (w : World) : Calls Try.prog 30 #[.int .i64 k, .int .u32 a, .int .u32 b] w (RetO .u32 (swapV H32 k a b) w) := by
  have hv : Hid (swapV H32 k a b = none) := by show _ = _; unfold swapV; rw [if_neg h40, if_neg h41, if_neg h42, if_neg h43, if_neg h44, if_neg h45, if_neg h46, if_neg h47, if_neg h48]
  go_enter Try.func30, Try.ntmps30
  go_wp2_with fail
  go_ret2
  exact retO_no hv.out rfl rfl (by repeat (first | (with_reducible first | exact Below.refl _ _ | assumption | exact Nat.le_refl _ | refine Below.drew ?_ | refine Below.alloc ?_ ?_ _ | refine below_drewN ?_ _ | refine Below.setCell ?_ ?_ _ | refine le_alloc ?_ | refine le_set ?_ | refine le_drew ?_ | refine le_drewN ?_ | refine below_step (by assumption) ?_ ?_ | refine le_below (by assumption) ?_) | (dsimp only; omega)))
theorem swap32_c (k : Int) (a b : Nat) (ha : Hid (a < 4294967296)) (hb : Hid (b < 4294967296)) (w : World) : Calls Try.prog 30 #[.int .i64 k, .int .u32 a, .int .u32 b] w (RetO .u32 (swapV H32 k a b) w) := by
  by_cases h40 : k = 40
  · subst h40; exact swap32_40 a b ha hb w
  by_cases h41 : k = 41
  · subst h41; exact swap32_41 a b ha hb w
  by_cases h42 : k = 42
  · subst h42; exact swap32_42 a b ha hb w
  by_cases h43 : k = 43
  · subst h43; exact swap32_43 a b ha hb w
  by_cases h44 : k = 44
  · subst h44; exact swap32_44 a b ha hb w
  by_cases h45 : k = 45
  · subst h45; exact swap32_45 a b ha hb w
  by_cases h46 : k = 46
  · subst h46; exact swap32_46 a b ha hb w
  by_cases h47 : k = 47
  · subst h47; exact swap32_47 a b ha hb w
  by_cases h48 : k = 48
  · subst h48; exact swap32_48 a b ha hb w
  exact swap32_no k a b h40 h41 h42 h43 h44 h45 h46 h47 h48 w
set_option maxRecDepth 100000 in
theorem swap64_40 (a b : Nat) (ha : Hid (a < 18446744073709551616)) (hb : Hid (b < 18446744073709551616)) (w : World) : Calls Try.prog 31 #[.int .i64 40, .int .u64 a, .int .u64 b] w (RetO .u64 (swapV H64 40 a b) w) := by
  go_enter Try.func31, Try.ntmps31
  go_wp2_with fail
  go_ret2
  exact retO_mk _ (by rfl) rfl rfl (by repeat (first | (with_reducible first | exact Below.refl _ _ | assumption | exact Nat.le_refl _ | refine Below.drew ?_ | refine Below.alloc ?_ ?_ _ | refine below_drewN ?_ _ | refine Below.setCell ?_ ?_ _ | refine le_alloc ?_ | refine le_set ?_ | refine le_drew ?_ | refine le_drewN ?_ | refine below_step (by assumption) ?_ ?_ | refine le_below (by assumption) ?_) | (dsimp only; omega)))
set_option maxRecDepth 100000 in
theorem swap64_41 (a b : Nat) (ha : Hid (a < 18446744073709551616)) (hb : Hid (b < 18446744073709551616)) (w : World) : Calls Try.prog 31 #[.int .i64 41, .int .u64 a, .int .u64 b] w (RetO .u64 (swapV H64 41 a b) w) := by
  go_enter Try.func31, Try.ntmps31
  go_wp2_with fail
  go_ret2
  exact retO_mk _ (by rfl) (by (try simp only [IntKind.wrap_u64]); have h1 := ha.out; have h2 := hb.out; unfold H64; omega) rfl (by repeat (first | (with_reducible first | exact Below.refl _ _ | assumption | exact Nat.le_refl _ | refine Below.drew ?_ | refine Below.alloc ?_ ?_ _ | refine below_drewN ?_ _ | refine Below.setCell ?_ ?_ _ | refine le_alloc ?_ | refine le_set ?_ | refine le_drew ?_ | refine le_drewN ?_ | refine below_step (by assumption) ?_ ?_ | refine le_below (by assumption) ?_) | (dsimp only; omega)))
set_option maxRecDepth 100000 in
theorem swap64_42 (a b : Nat) (ha : Hid (a < 18446744073709551616)) (hb : Hid (b < 18446744073709551616)) (w : World) : Calls Try.prog 31 #[.int .i64 42, .int .u64 a, .int .u64 b] w (RetO .u64 (swapV H64 42 a b) w) := by
  go_enter Try.func31, Try.ntmps31
  go_wp2_with fail
  go_ret2
  exact retO_mk _ (by rfl) (by (try simp only [IntKind.wrap_u64]); exact bits_xor_u64_nat a b ha.out hb.out) rfl (by repeat (first | (with_reducible first | exact Below.refl _ _ | assumption | exact Nat.le_refl _ | refine Below.drew ?_ | refine Below.alloc ?_ ?_ _ | refine below_drewN ?_ _ | refine Below.setCell ?_ ?_ _ | refine le_alloc ?_ | refine le_set ?_ | refine le_drew ?_ | refine le_drewN ?_ | refine below_step (by assumption) ?_ ?_ | refine le_below (by assumption) ?_) | (dsimp only; omega)))
set_option maxRecDepth 100000 in
theorem swap64_43 (a b : Nat) (ha : Hid (a < 18446744073709551616)) (hb : Hid (b < 18446744073709551616)) (w : World) : Calls Try.prog 31 #[.int .i64 43, .int .u64 a, .int .u64 b] w (RetO .u64 (swapV H64 43 a b) w) := by
  go_enter Try.func31, Try.ntmps31
  go_wp2_with fail
  go_ret2
  exact retO_mk _ (by rfl) (by (try simp only [IntKind.wrap_u64]); exact bits_and_u64_nat a b ha.out hb.out) rfl (by repeat (first | (with_reducible first | exact Below.refl _ _ | assumption | exact Nat.le_refl _ | refine Below.drew ?_ | refine Below.alloc ?_ ?_ _ | refine below_drewN ?_ _ | refine Below.setCell ?_ ?_ _ | refine le_alloc ?_ | refine le_set ?_ | refine le_drew ?_ | refine le_drewN ?_ | refine below_step (by assumption) ?_ ?_ | refine le_below (by assumption) ?_) | (dsimp only; omega)))
set_option maxRecDepth 100000 in
theorem swap64_44 (a b : Nat) (ha : Hid (a < 18446744073709551616)) (hb : Hid (b < 18446744073709551616)) (w : World) : Calls Try.prog 31 #[.int .i64 44, .int .u64 a, .int .u64 b] w (RetO .u64 (swapV H64 44 a b) w) := by
  go_enter Try.func31, Try.ntmps31
  go_wp2_with fail
  go_ret2
  exact retO_mk _ (by rfl) (by (try simp only [IntKind.wrap_u64]); exact bits_or_u64_nat a b ha.out hb.out) rfl (by repeat (first | (with_reducible first | exact Below.refl _ _ | assumption | exact Nat.le_refl _ | refine Below.drew ?_ | refine Below.alloc ?_ ?_ _ | refine below_drewN ?_ _ | refine Below.setCell ?_ ?_ _ | refine le_alloc ?_ | refine le_set ?_ | refine le_drew ?_ | refine le_drewN ?_ | refine below_step (by assumption) ?_ ?_ | refine le_below (by assumption) ?_) | (dsimp only; omega)))
set_option maxRecDepth 100000 in
theorem swap64_45 (a b : Nat) (ha : Hid (a < 18446744073709551616)) (hb : Hid (b < 18446744073709551616)) (w : World) : Calls Try.prog 31 #[.int .i64 45, .int .u64 a, .int .u64 b] w (RetO .u64 (swapV H64 45 a b) w) := by
  have hv : Hid (swapV H64 45 a b = some (if sgn H64 a < sgn H64 b then a else b)) := rfl
  have ea := Lib.hid (sw64 a ha.out); have eb := Lib.hid (sw64 b hb.out)
  go_enter Try.func31, Try.ntmps31
  go_wp2_with fail
  go_ret2
  exact retO_mk _ hv.out (by (try simp only [IntKind.wrap_u64]); rw [ea.out, eb.out]; exact smin64 a b ha.out hb.out) rfl (by repeat (first | (with_reducible first | exact Below.refl _ _ | assumption | exact Nat.le_refl _ | refine Below.drew ?_ | refine Below.alloc ?_ ?_ _ | refine below_drewN ?_ _ | refine Below.setCell ?_ ?_ _ | refine le_alloc ?_ | refine le_set ?_ | refine le_drew ?_ | refine le_drewN ?_ | refine below_step (by assumption) ?_ ?_ | refine le_below (by assumption) ?_) | (dsimp only; omega)))
set_option maxRecDepth 100000 in
theorem swap64_46 (a b : Nat) (ha : Hid (a < 18446744073709551616)) (hb : Hid (b < 18446744073709551616)) (w : World) : Calls Try.prog 31 #[.int .i64 46, .int .u64 a, .int .u64 b] w (RetO .u64 (swapV H64 46 a b) w) := by
  have hv : Hid (swapV H64 46 a b = some (if sgn H64 a < sgn H64 b then b else a)) := rfl
  have ea := Lib.hid (sw64 a ha.out); have eb := Lib.hid (sw64 b hb.out)
  go_enter Try.func31, Try.ntmps31
  go_wp2_with fail
  go_ret2
  exact retO_mk _ hv.out (by (try simp only [IntKind.wrap_u64]); rw [ea.out, eb.out]; exact smax64 a b ha.out hb.out) rfl (by repeat (first | (with_reducible first | exact Below.refl _ _ | assumption | exact Nat.le_refl _ | refine Below.drew ?_ | refine Below.alloc ?_ ?_ _ | refine below_drewN ?_ _ | refine Below.setCell ?_ ?_ _ | refine le_alloc ?_ | refine le_set ?_ | refine le_drew ?_ | refine le_drewN ?_ | refine below_step (by assumption) ?_ ?_ | refine le_below (by assumption) ?_) | (dsimp only; omega)))
set_option maxRecDepth 100000 in
theorem swap64_47 (a b : Nat) (ha : Hid (a < 18446744073709551616)) (hb : Hid (b < 18446744073709551616)) (w : World) : Calls Try.prog 31 #[.int .i64 47, .int .u64 a, .int .u64 b] w (RetO .u64 (swapV H64 47 a b) w) := by
  have hv : Hid (swapV H64 47 a b = some (if a < b then a else b)) := rfl
  go_enter Try.func31, Try.ntmps31
  go_wp2_with fail
  go_ret2
  exact retO_mk _ hv.out (by exact umin a b) rfl (by repeat (first | (with_reducible first | exact Below.refl _ _ | assumption | exact Nat.le_refl _ | refine Below.drew ?_ | refine Below.alloc ?_ ?_ _ | refine below_drewN ?_ _ | refine Below.setCell ?_ ?_ _ | refine le_alloc ?_ | refine le_set ?_ | refine le_drew ?_ | refine le_drewN ?_ | refine below_step (by assumption) ?_ ?_ | refine le_below (by assumption) ?_) | (dsimp only; omega)))
set_option maxRecDepth 100000 in
theorem swap64_48 (a b : Nat) (ha : Hid (a < 18446744073709551616)) (hb : Hid (b < 18446744073709551616)) (w : World) : Calls Try.prog 31 #[.int .i64 48, .int .u64 a, .int .u64 b] w (RetO .u64 (swapV H64 48 a b) w) := by
  have hv : Hid (swapV H64 48 a b = some (if a < b then b else a)) := rfl
  go_enter Try.func31, Try.ntmps31
  go_wp2_with fail
  go_ret2
  exact retO_mk _ hv.out (by exact umax a b) rfl (by repeat (first | (with_reducible first | exact Below.refl _ _ | assumption | exact Nat.le_refl _ | refine Below.drew ?_ | refine Below.alloc ?_ ?_ _ | refine below_drewN ?_ _ | refine Below.setCell ?_ ?_ _ | refine le_alloc ?_ | refine le_set ?_ | refine le_drew ?_ | refine le_drewN ?_ | refine below_step (by assumption) ?_ ?_ | refine le_below (by assumption) ?_) | (dsimp only; omega)))
set_option maxRecDepth 100000 in
theorem swap64_no (k : Int) (a b : Nat) (h40 : ¬ k = 40) (h41 : ¬ k = 41) (h42 : ¬ k = 42) (h43 : ¬ k = 43) (h44 : ¬ k = 44) (h45 : ¬ k = 45) (h46 : ¬ k = 46) (h47 : ¬ k = 47) (h48 : ¬ k = 48) (w : World) : Calls Try.prog 31 #[.int .i64 k, .int .u64 a, .int .u64 b] w (RetO .u64 (swapV H64 k a b) w) := by
  have hv : Hid (swapV H64 k a b = none) := by show _ = _; unfold swapV; rw [if_neg h40, if_neg h41, if_neg h42, if_neg h43, if_neg h44, if_neg h45, if_neg h46, if_neg h47, if_neg h48]
  go_enter Try.func31, Try.ntmps31
  go_wp2_with fail
  go_ret2
  exact retO_no hv.out rfl rfl (by repeat (first | (with_reducible first | exact Below.refl _ _ | assumption | exact Nat.le_refl _ | refine Below.drew ?_ | refine Below.alloc ?_ ?_ _ | refine below_drewN ?_ _ | refine Below.setCell ?_ ?_ _ | refine le_alloc ?_ | refine le_set ?_ | refine le_drew ?_ | refine le_drewN ?_ | refine below_step (by assumption) ?_ ?_ | refine le_below (by assumption) ?_) | (dsimp only; omega)))
theorem swap64_c (k : Int) (a b : Nat) (ha : Hid (a < 18446744073709551616)) (hb : Hid (b < 18446744073709551616)) (w : World) : Calls Try.prog 31 #[.int .i64 k, .int .u64 a, .int .u64 b] w (RetO .u64 (swapV H64 k a b) w) := by
  by_cases h40 : k = 40
  · subst h40; exact swap64_40 a b ha hb w
  by_cases h41 : k = 41
  · subst h41; exact swap64_41 a b ha hb w
  by_cases h42 : k = 42
  · subst h42; exact swap64_42 a b ha hb w
  by_cases h43 : k = 43
  · subst h43; exact swap64_43 a b ha hb w
  by_cases h44 : k = 44
  · subst h44; exact swap64_44 a b ha hb w
  by_cases h45 : k = 45
  · subst h45; exact swap64_45 a b ha hb w
  by_cases h46 : k = 46
  · subst h46; exact swap64_46 a b ha hb w
  by_cases h47 : k = 47
  · subst h47; exact swap64_47 a b ha hb w
  by_cases h48 : k = 48
  · subst h48; exact swap64_48 a b ha hb w
  exact swap64_no k a b h40 h41 h42 h43 h44 h45 h46 h47 h48 w
set_option maxRecDepth 100000 in
theorem atomic_4 (k : Int) (a b : Nat) (w : World) : Calls Try.prog 16 #[.int .i64 k, .int .i64 4, .int .u64 a, .int .u64 b] w (RetO .u64 (atomV k 4 a b) w) := by
  have hv : Hid (atomV k 4 a b = swapV H32 k (a % 4294967296) (b % 4294967296)) := rfl
  have e1 : (a : Int) % 4294967296 = ((a % 4294967296 : Nat) : Int) := low_conv a
  have e2 : (b : Int) % 4294967296 = ((b % 4294967296 : Nat) : Int) := low_conv b
  have h1 : Hid (a % 4294967296 < 4294967296) := Nat.mod_lt _ (by decide)
  have h2 : Hid (b % 4294967296 < 4294967296) := Nat.mod_lt _ (by decide)
  have hc := Lib.hid (fun w => swap32_c k (a % 4294967296) (b % 4294967296) h1 h2 w)
  have hl := Lib.hid (fun n => swapV_lt (half := H32) (j := 32) (k := k) (a := a % 4294967296) (b := b % 4294967296) (n := n) (by decide) h1.out h2.out)
  generalize a % 4294967296 = a1 at *
  generalize b % 4294967296 = b1 at *
  obtain ⟨o, ho⟩ : ∃ o, o = swapV H32 k a1 b1 := ⟨_, rfl⟩
  rw [← ho] at hc hv hl
  clear ho
  cases o with
  | none =>
    go_enter Try.func16, Try.ntmps16
    go_wp2_with fail
    (try rw [e1, e2])
    refine (hc.out _).mono ?_; rintro e u1 h; obtain ⟨rfl, hb1⟩ := retO_none h
    go_wp2_with fail
    go_ret2
    exact retO_no hv.out rfl rfl (by repeat (first | (with_reducible first | exact Below.refl _ _ | assumption | exact Nat.le_refl _ | refine Below.drew ?_ | refine Below.alloc ?_ ?_ _ | refine below_drewN ?_ _ | refine Below.setCell ?_ ?_ _ | refine le_alloc ?_ | refine le_set ?_ | refine le_drew ?_ | refine le_drewN ?_ | refine below_step (by assumption) ?_ ?_ | refine le_below (by assumption) ?_) | (dsimp only; omega)))
  | some n =>
    have hn : Hid (n < 4294967296) := hl.out n rfl
    go_enter Try.func16, Try.ntmps16
    go_wp2_with fail
    (try rw [e1, e2])
    refine (hc.out _).mono ?_; rintro e u1 h; obtain ⟨rfl, hb1⟩ := retO_some h
    go_wp2_with fail
    go_ret2
    exact retO_mk n hv.out (by have := hn.out; first | rfl | ((try simp only [IntKind.wrap_u64]); omega)) rfl (by repeat (first | (with_reducible first | exact Below.refl _ _ | assumption | exact Nat.le_refl _ | refine Below.drew ?_ | refine Below.alloc ?_ ?_ _ | refine below_drewN ?_ _ | refine Below.setCell ?_ ?_ _ | refine le_alloc ?_ | refine le_set ?_ | refine le_drew ?_ | refine le_drewN ?_ | refine below_step (by assumption) ?_ ?_ | refine le_below (by assumption) ?_) | (dsimp only; omega)))
set_option maxRecDepth 100000 in
theorem atomic_8 (k : Int) (a b : Nat) (ha : Hid (a < 18446744073709551616)) (hb : Hid (b < 18446744073709551616)) (w : World) : Calls Try.prog 16 #[.int .i64 k, .int .i64 8, .int .u64 a, .int .u64 b] w (RetO .u64 (atomV k 8 a b) w) := by
  have hv : Hid (atomV k 8 a b = swapV H64 k a b) := rfl
  have hc := Lib.hid (fun w => swap64_c k a b ha hb w)
  obtain ⟨o, ho⟩ : ∃ o, o = swapV H64 k a b := ⟨_, rfl⟩
  rw [← ho] at hc hv
  clear ho
  cases o with
  | none =>
    go_enter Try.func16, Try.ntmps16
    go_wp2_with fail
    refine (hc.out _).mono ?_; rintro e u1 h; obtain ⟨rfl, hb1⟩ := retO_none h
    go_wp2_with fail
    go_ret2
    exact retO_no hv.out rfl rfl (by repeat (first | (with_reducible first | exact Below.refl _ _ | assumption | exact Nat.le_refl _ | refine Below.drew ?_ | refine Below.alloc ?_ ?_ _ | refine below_drewN ?_ _ | refine Below.setCell ?_ ?_ _ | refine le_alloc ?_ | refine le_set ?_ | refine le_drew ?_ | refine le_drewN ?_ | refine below_step (by assumption) ?_ ?_ | refine le_below (by assumption) ?_) | (dsimp only; omega)))
  | some n =>
    go_enter Try.func16, Try.ntmps16
    go_wp2_with fail
    refine (hc.out _).mono ?_; rintro e u1 h; obtain ⟨rfl, hb1⟩ := retO_some h
    go_wp2_with fail
    go_ret2
    exact retO_mk n hv.out rfl rfl (by repeat (first | (with_reducible first | exact Below.refl _ _ | assumption | exact Nat.le_refl _ | refine Below.drew ?_ | refine Below.alloc ?_ ?_ _ | refine below_drewN ?_ _ | refine Below.setCell ?_ ?_ _ | refine le_alloc ?_ | refine le_set ?_ | refine le_drew ?_ | refine le_drewN ?_ | refine below_step (by assumption) ?_ ?_ | refine le_below (by assumption) ?_) | (dsimp only; omega)))
set_option maxRecDepth 100000 in
theorem atomic_no (k s : Int) (a b : Nat) (h4 : ¬ s = 4) (h8 : ¬ s = 8) (w : World) : Calls Try.prog 16 #[.int .i64 k, .int .i64 s, .int .u64 a, .int .u64 b] w (RetO .u64 (atomV k s a b) w) := by
  have hv : Hid (atomV k s a b = none) := by show _ = _; unfold atomV; rw [if_neg h4, if_neg h8]
  go_enter Try.func16, Try.ntmps16
  go_wp2_with fail
  go_ret2
  exact retO_no hv.out rfl rfl (by repeat (first | (with_reducible first | exact Below.refl _ _ | assumption | exact Nat.le_refl _ | refine Below.drew ?_ | refine Below.alloc ?_ ?_ _ | refine below_drewN ?_ _ | refine Below.setCell ?_ ?_ _ | refine le_alloc ?_ | refine le_set ?_ | refine le_drew ?_ | refine le_drewN ?_ | refine below_step (by assumption) ?_ ?_ | refine le_below (by assumption) ?_) | (dsimp only; omega)))
theorem atomic_c (k s : Int) (a b : Nat) (ha : Hid (a < 18446744073709551616)) (hb : Hid (b < 18446744073709551616)) (w : World) : Calls Try.prog 16 #[.int .i64 k, .int .i64 s, .int .u64 a, .int .u64 b] w (RetO .u64 (atomV k s a b) w) := by
  by_cases h4 : s = 4
  · subst h4; exact atomic_4 k a b w
  by_cases h8 : s = 8
  · subst h8; exact atomic_8 k a b ha hb w
  exact atomic_no k s a b h4 h8 w
end Go.Proofs.Ytbbgcjdflcfnjaa
