/- The contracts of Extend and Branch. -/
import Derived.Test.YtbbgcjdflcfnjaaB6
namespace Go.Proofs.Ytbbgcjdflcfnjaa
open Go.ChangeShapes Go.WideShapes Go.ChangeAt Go.RowKit
set_option linter.unusedVariables false
set_option linter.unusedSimpArgs false
theorem retD_eq {o : Option Bool} {x y : Bool} {W w' : World} (ho : o = some x) (h : y = x) (hb : Below W.heap.size W w') : RetD o W (.returned (.tuple #[.bool y, .bool true])) w' := ⟨by rw [ho, h]; rfl, hb⟩
theorem retD_no {o : Option Bool} {a b : Bool} {W w' : World} (ho : o = none) (h : a = false) (hi : b = false) (hb : Below W.heap.size W w') : RetD o W (.returned (.tuple #[.bool a, .bool b])) w' := ⟨by rw [ho, h, hi]; rfl, hb⟩
theorem ext1_u (v : Nat) (hv : v < 18446744073709551616) : (v : Int) * 72057594037927936 % 18446744073709551616 / 72057594037927936 = ((extS 128 v true : Nat) : Int) := by
  unfold extS; rw [if_pos rfl]; omega
theorem ext1_s (v : Nat) (hv : v < 18446744073709551616) : wrap64 ((v : Int) * 72057594037927936 % 18446744073709551616) / 72057594037927936 % 18446744073709551616 = ((extS 128 v false : Nat) : Int) := by
  unfold extS; rw [if_neg (by decide), uns_cast (by decide)]
  unfold sgn wrap64 H64 
  split <;> omega
set_option maxRecDepth 100000 in
theorem extend_1_true (v : Nat) (ha : Hid (v < 18446744073709551616)) (w : World) : Calls Try.prog 18 #[.int .u64 v, .int .i64 1, .bool true] w (RetO .u64 (extV v 1 true) w) := by
  go_enter Try.func18, Try.ntmps18
  go_wp2_with fail
  go_ret2
  exact retO_mk _ (by rfl) (by (try simp only [IntKind.wrap_u64]); have h := ext1_u v ha.out; first | exact h | (rw [Int.mul_one, Int.ediv_one] at h; exact h)) rfl (by repeat (first | (with_reducible first | exact Below.refl _ _ | assumption | exact Nat.le_refl _ | refine Below.drew ?_ | refine Below.alloc ?_ ?_ _ | refine below_drewN ?_ _ | refine Below.setCell ?_ ?_ _ | refine le_alloc ?_ | refine le_set ?_ | refine le_drew ?_ | refine le_drewN ?_ | refine below_step (by assumption) ?_ ?_ | refine le_below (by assumption) ?_) | (dsimp only; omega)))
set_option maxRecDepth 100000 in
theorem extend_1_false (v : Nat) (ha : Hid (v < 18446744073709551616)) (w : World) : Calls Try.prog 18 #[.int .u64 v, .int .i64 1, .bool false] w (RetO .u64 (extV v 1 false) w) := by
  go_enter Try.func18, Try.ntmps18
  go_wp2_with fail
  go_ret2
  exact retO_mk _ (by rfl) (by (try simp only [IntKind.wrap_u64]); have h := ext1_s v ha.out; first | exact h | (rw [Int.mul_one, Int.ediv_one] at h; exact h)) rfl (by repeat (first | (with_reducible first | exact Below.refl _ _ | assumption | exact Nat.le_refl _ | refine Below.drew ?_ | refine Below.alloc ?_ ?_ _ | refine below_drewN ?_ _ | refine Below.setCell ?_ ?_ _ | refine le_alloc ?_ | refine le_set ?_ | refine le_drew ?_ | refine le_drewN ?_ | refine below_step (by assumption) ?_ ?_ | refine le_below (by assumption) ?_) | (dsimp only; omega)))
theorem ext2_u (v : Nat) (hv : v < 18446744073709551616) : (v : Int) * 281474976710656 % 18446744073709551616 / 281474976710656 = ((extS 32768 v true : Nat) : Int) := by
  unfold extS; rw [if_pos rfl]; omega
theorem ext2_s (v : Nat) (hv : v < 18446744073709551616) : wrap64 ((v : Int) * 281474976710656 % 18446744073709551616) / 281474976710656 % 18446744073709551616 = ((extS 32768 v false : Nat) : Int) := by
  unfold extS; rw [if_neg (by decide), uns_cast (by decide)]
  unfold sgn wrap64 H64 
  split <;> omega
set_option maxRecDepth 100000 in
theorem extend_2_true (v : Nat) (ha : Hid (v < 18446744073709551616)) (w : World) : Calls Try.prog 18 #[.int .u64 v, .int .i64 2, .bool true] w (RetO .u64 (extV v 2 true) w) := by
  go_enter Try.func18, Try.ntmps18
  go_wp2_with fail
  go_ret2
  exact retO_mk _ (by rfl) (by (try simp only [IntKind.wrap_u64]); have h := ext2_u v ha.out; first | exact h | (rw [Int.mul_one, Int.ediv_one] at h; exact h)) rfl (by repeat (first | (with_reducible first | exact Below.refl _ _ | assumption | exact Nat.le_refl _ | refine Below.drew ?_ | refine Below.alloc ?_ ?_ _ | refine below_drewN ?_ _ | refine Below.setCell ?_ ?_ _ | refine le_alloc ?_ | refine le_set ?_ | refine le_drew ?_ | refine le_drewN ?_ | refine below_step (by assumption) ?_ ?_ | refine le_below (by assumption) ?_) | (dsimp only; omega)))
set_option maxRecDepth 100000 in
theorem extend_2_false (v : Nat) (ha : Hid (v < 18446744073709551616)) (w : World) : Calls Try.prog 18 #[.int .u64 v, .int .i64 2, .bool false] w (RetO .u64 (extV v 2 false) w) := by
  go_enter Try.func18, Try.ntmps18
  go_wp2_with fail
  go_ret2
  exact retO_mk _ (by rfl) (by (try simp only [IntKind.wrap_u64]); have h := ext2_s v ha.out; first | exact h | (rw [Int.mul_one, Int.ediv_one] at h; exact h)) rfl (by repeat (first | (with_reducible first | exact Below.refl _ _ | assumption | exact Nat.le_refl _ | refine Below.drew ?_ | refine Below.alloc ?_ ?_ _ | refine below_drewN ?_ _ | refine Below.setCell ?_ ?_ _ | refine le_alloc ?_ | refine le_set ?_ | refine le_drew ?_ | refine le_drewN ?_ | refine below_step (by assumption) ?_ ?_ | refine le_below (by assumption) ?_) | (dsimp only; omega)))
theorem ext4_u (v : Nat) (hv : v < 18446744073709551616) : (v : Int) * 4294967296 % 18446744073709551616 / 4294967296 = ((extS H32 v true : Nat) : Int) := by
  unfold extS; rw [if_pos rfl]; unfold H32; omega
theorem ext4_s (v : Nat) (hv : v < 18446744073709551616) : wrap64 ((v : Int) * 4294967296 % 18446744073709551616) / 4294967296 % 18446744073709551616 = ((extS H32 v false : Nat) : Int) := by
  unfold extS; rw [if_neg (by decide), uns_cast (by decide)]
  unfold sgn wrap64 H64 H32
  split <;> omega
set_option maxRecDepth 100000 in
theorem extend_4_true (v : Nat) (ha : Hid (v < 18446744073709551616)) (w : World) : Calls Try.prog 18 #[.int .u64 v, .int .i64 4, .bool true] w (RetO .u64 (extV v 4 true) w) := by
  go_enter Try.func18, Try.ntmps18
  go_wp2_with fail
  go_ret2
  exact retO_mk _ (by rfl) (by (try simp only [IntKind.wrap_u64]); have h := ext4_u v ha.out; first | exact h | (rw [Int.mul_one, Int.ediv_one] at h; exact h)) rfl (by repeat (first | (with_reducible first | exact Below.refl _ _ | assumption | exact Nat.le_refl _ | refine Below.drew ?_ | refine Below.alloc ?_ ?_ _ | refine below_drewN ?_ _ | refine Below.setCell ?_ ?_ _ | refine le_alloc ?_ | refine le_set ?_ | refine le_drew ?_ | refine le_drewN ?_ | refine below_step (by assumption) ?_ ?_ | refine le_below (by assumption) ?_) | (dsimp only; omega)))
set_option maxRecDepth 100000 in
theorem extend_4_false (v : Nat) (ha : Hid (v < 18446744073709551616)) (w : World) : Calls Try.prog 18 #[.int .u64 v, .int .i64 4, .bool false] w (RetO .u64 (extV v 4 false) w) := by
  go_enter Try.func18, Try.ntmps18
  go_wp2_with fail
  go_ret2
  exact retO_mk _ (by rfl) (by (try simp only [IntKind.wrap_u64]); have h := ext4_s v ha.out; first | exact h | (rw [Int.mul_one, Int.ediv_one] at h; exact h)) rfl (by repeat (first | (with_reducible first | exact Below.refl _ _ | assumption | exact Nat.le_refl _ | refine Below.drew ?_ | refine Below.alloc ?_ ?_ _ | refine below_drewN ?_ _ | refine Below.setCell ?_ ?_ _ | refine le_alloc ?_ | refine le_set ?_ | refine le_drew ?_ | refine le_drewN ?_ | refine below_step (by assumption) ?_ ?_ | refine le_below (by assumption) ?_) | (dsimp only; omega)))
theorem ext8_u (v : Nat) (hv : v < 18446744073709551616) : (v : Int) * 1 % 18446744073709551616 / 1 = ((extS H64 v true : Nat) : Int) := by
  unfold extS; rw [if_pos rfl]; unfold H64; omega
theorem ext8_s (v : Nat) (hv : v < 18446744073709551616) : wrap64 ((v : Int) * 1 % 18446744073709551616) / 1 % 18446744073709551616 = ((extS H64 v false : Nat) : Int) := by
  unfold extS; rw [if_neg (by decide), uns_cast (by decide)]
  unfold sgn wrap64 H64 
  split <;> omega
set_option maxRecDepth 100000 in
theorem extend_8_true (v : Nat) (ha : Hid (v < 18446744073709551616)) (w : World) : Calls Try.prog 18 #[.int .u64 v, .int .i64 8, .bool true] w (RetO .u64 (extV v 8 true) w) := by
  go_enter Try.func18, Try.ntmps18
  go_wp2_with fail
  go_ret2
  exact retO_mk _ (by rfl) (by (try simp only [IntKind.wrap_u64]); have h := ext8_u v ha.out; first | exact h | (rw [Int.mul_one, Int.ediv_one] at h; exact h)) rfl (by repeat (first | (with_reducible first | exact Below.refl _ _ | assumption | exact Nat.le_refl _ | refine Below.drew ?_ | refine Below.alloc ?_ ?_ _ | refine below_drewN ?_ _ | refine Below.setCell ?_ ?_ _ | refine le_alloc ?_ | refine le_set ?_ | refine le_drew ?_ | refine le_drewN ?_ | refine below_step (by assumption) ?_ ?_ | refine le_below (by assumption) ?_) | (dsimp only; omega)))
set_option maxRecDepth 100000 in
theorem extend_8_false (v : Nat) (ha : Hid (v < 18446744073709551616)) (w : World) : Calls Try.prog 18 #[.int .u64 v, .int .i64 8, .bool false] w (RetO .u64 (extV v 8 false) w) := by
  go_enter Try.func18, Try.ntmps18
  go_wp2_with fail
  go_ret2
  exact retO_mk _ (by rfl) (by (try simp only [IntKind.wrap_u64]); have h := ext8_s v ha.out; first | exact h | (rw [Int.mul_one, Int.ediv_one] at h; exact h)) rfl (by repeat (first | (with_reducible first | exact Below.refl _ _ | assumption | exact Nat.le_refl _ | refine Below.drew ?_ | refine Below.alloc ?_ ?_ _ | refine below_drewN ?_ _ | refine Below.setCell ?_ ?_ _ | refine le_alloc ?_ | refine le_set ?_ | refine le_drew ?_ | refine le_drewN ?_ | refine below_step (by assumption) ?_ ?_ | refine le_below (by assumption) ?_) | (dsimp only; omega)))
set_option maxRecDepth 100000 in
theorem extend_no (v : Nat) (s : Int) (u : Bool) (h1 : ¬ s = 1) (h2 : ¬ s = 2) (h4 : ¬ s = 4) (h8 : ¬ s = 8) (w : World) : Calls Try.prog 18 #[.int .u64 v, .int .i64 s, .bool u] w (RetO .u64 (extV v s u) w) := by
  have hv : Hid (extV v s u = none) := by show _ = _; unfold extV; rw [if_neg h1, if_neg h2, if_neg h4, if_neg h8]
  go_enter Try.func18, Try.ntmps18
  go_wp2_with fail
  go_ret2
  exact retO_no hv.out rfl rfl (by repeat (first | (with_reducible first | exact Below.refl _ _ | assumption | exact Nat.le_refl _ | refine Below.drew ?_ | refine Below.alloc ?_ ?_ _ | refine below_drewN ?_ _ | refine Below.setCell ?_ ?_ _ | refine le_alloc ?_ | refine le_set ?_ | refine le_drew ?_ | refine le_drewN ?_ | refine below_step (by assumption) ?_ ?_ | refine le_below (by assumption) ?_) | (dsimp only; omega)))
theorem extend_c (v : Nat) (s : Int) (u : Bool) (ha : Hid (v < 18446744073709551616)) (w : World) : Calls Try.prog 18 #[.int .u64 v, .int .i64 s, .bool u] w (RetO .u64 (extV v s u) w) := by
  by_cases h1 : s = 1
  · subst h1; cases u
    · exact extend_1_false v ha w
    · exact extend_1_true v ha w
  by_cases h2 : s = 2
  · subst h2; cases u
    · exact extend_2_false v ha w
    · exact extend_2_true v ha w
  by_cases h4 : s = 4
  · subst h4; cases u
    · exact extend_4_false v ha w
    · exact extend_4_true v ha w
  by_cases h8 : s = 8
  · subst h8; cases u
    · exact extend_8_false v ha w
    · exact extend_8_true v ha w
  exact extend_no v s u h1 h2 h4 h8 w
set_option maxRecDepth 100000 in
theorem branch_5 (a b : Nat) (ha : Hid (a < 18446744073709551616)) (hb : Hid (b < 18446744073709551616)) (w : World) : Calls Try.prog 14 #[.int .i64 5, .int .u64 a, .int .u64 b] w (RetD (branchV 5 a b) w) := by
  have hv : Hid (branchV 5 a b = some (decide (a = b))) := rfl
  have ea := Lib.hid (sw64 a ha.out); have eb := Lib.hid (sw64 b hb.out)
  go_enter Try.func14, Try.ntmps14
  go_wp2_with fail
  go_ret2
  exact retD_eq hv.out (by first | rfl | (rw [ea.out, eb.out]; done) | skip; (try rw [ea.out, eb.out]); first | rfl | (by_cases h : a = b <;> simp [h] <;> omega)) (by repeat (first | (with_reducible first | exact Below.refl _ _ | assumption | exact Nat.le_refl _ | refine Below.drew ?_ | refine Below.alloc ?_ ?_ _ | refine below_drewN ?_ _ | refine Below.setCell ?_ ?_ _ | refine le_alloc ?_ | refine le_set ?_ | refine le_drew ?_ | refine le_drewN ?_ | refine below_step (by assumption) ?_ ?_ | refine le_below (by assumption) ?_) | (dsimp only; omega)))
set_option maxRecDepth 100000 in
theorem branch_6 (a b : Nat) (ha : Hid (a < 18446744073709551616)) (hb : Hid (b < 18446744073709551616)) (w : World) : Calls Try.prog 14 #[.int .i64 6, .int .u64 a, .int .u64 b] w (RetD (branchV 6 a b) w) := by
  have hv : Hid (branchV 6 a b = some (!decide (a = b))) := rfl
  have ea := Lib.hid (sw64 a ha.out); have eb := Lib.hid (sw64 b hb.out)
  go_enter Try.func14, Try.ntmps14
  go_wp2_with fail
  go_ret2
  exact retD_eq hv.out (by first | rfl | (rw [ea.out, eb.out]; done) | skip; (try rw [ea.out, eb.out]); first | rfl | (by_cases h : a = b <;> simp [h] <;> omega)) (by repeat (first | (with_reducible first | exact Below.refl _ _ | assumption | exact Nat.le_refl _ | refine Below.drew ?_ | refine Below.alloc ?_ ?_ _ | refine below_drewN ?_ _ | refine Below.setCell ?_ ?_ _ | refine le_alloc ?_ | refine le_set ?_ | refine le_drew ?_ | refine le_drewN ?_ | refine below_step (by assumption) ?_ ?_ | refine le_below (by assumption) ?_) | (dsimp only; omega)))
set_option maxRecDepth 100000 in
theorem branch_7 (a b : Nat) (ha : Hid (a < 18446744073709551616)) (hb : Hid (b < 18446744073709551616)) (w : World) : Calls Try.prog 14 #[.int .i64 7, .int .u64 a, .int .u64 b] w (RetD (branchV 7 a b) w) := by
  have hv : Hid (branchV 7 a b = some (decide (sgn H64 a < sgn H64 b))) := rfl
  have ea := Lib.hid (sw64 a ha.out); have eb := Lib.hid (sw64 b hb.out)
  go_enter Try.func14, Try.ntmps14
  go_wp2_with fail
  go_ret2
  exact retD_eq hv.out (by first | rfl | (rw [ea.out, eb.out]; done) | skip; (try rw [ea.out, eb.out]); first | rfl | (by_cases h : sgn H64 a < sgn H64 b <;> simp [h] <;> omega)) (by repeat (first | (with_reducible first | exact Below.refl _ _ | assumption | exact Nat.le_refl _ | refine Below.drew ?_ | refine Below.alloc ?_ ?_ _ | refine below_drewN ?_ _ | refine Below.setCell ?_ ?_ _ | refine le_alloc ?_ | refine le_set ?_ | refine le_drew ?_ | refine le_drewN ?_ | refine below_step (by assumption) ?_ ?_ | refine le_below (by assumption) ?_) | (dsimp only; omega)))
set_option maxRecDepth 100000 in
theorem branch_8 (a b : Nat) (ha : Hid (a < 18446744073709551616)) (hb : Hid (b < 18446744073709551616)) (w : World) : Calls Try.prog 14 #[.int .i64 8, .int .u64 a, .int .u64 b] w (RetD (branchV 8 a b) w) := by
  have hv : Hid (branchV 8 a b = some (!decide (sgn H64 a < sgn H64 b))) := rfl
  have ea := Lib.hid (sw64 a ha.out); have eb := Lib.hid (sw64 b hb.out)
  go_enter Try.func14, Try.ntmps14
  go_wp2_with fail
  go_ret2
  exact retD_eq hv.out (by first | rfl | (rw [ea.out, eb.out]; done) | skip; (try rw [ea.out, eb.out]); first | rfl | (by_cases h : sgn H64 a < sgn H64 b <;> simp [h] <;> omega)) (by repeat (first | (with_reducible first | exact Below.refl _ _ | assumption | exact Nat.le_refl _ | refine Below.drew ?_ | refine Below.alloc ?_ ?_ _ | refine below_drewN ?_ _ | refine Below.setCell ?_ ?_ _ | refine le_alloc ?_ | refine le_set ?_ | refine le_drew ?_ | refine le_drewN ?_ | refine below_step (by assumption) ?_ ?_ | refine le_below (by assumption) ?_) | (dsimp only; omega)))
set_option maxRecDepth 100000 in
theorem branch_9 (a b : Nat) (ha : Hid (a < 18446744073709551616)) (hb : Hid (b < 18446744073709551616)) (w : World) : Calls Try.prog 14 #[.int .i64 9, .int .u64 a, .int .u64 b] w (RetD (branchV 9 a b) w) := by
  have hv : Hid (branchV 9 a b = some (decide (a < b))) := rfl
  have ea := Lib.hid (sw64 a ha.out); have eb := Lib.hid (sw64 b hb.out)
  go_enter Try.func14, Try.ntmps14
  go_wp2_with fail
  go_ret2
  exact retD_eq hv.out (by first | rfl | (rw [ea.out, eb.out]; done) | skip; (try rw [ea.out, eb.out]); first | rfl | (by_cases h : a < b <;> simp [h] <;> omega)) (by repeat (first | (with_reducible first | exact Below.refl _ _ | assumption | exact Nat.le_refl _ | refine Below.drew ?_ | refine Below.alloc ?_ ?_ _ | refine below_drewN ?_ _ | refine Below.setCell ?_ ?_ _ | refine le_alloc ?_ | refine le_set ?_ | refine le_drew ?_ | refine le_drewN ?_ | refine below_step (by assumption) ?_ ?_ | refine le_below (by assumption) ?_) | (dsimp only; omega)))
set_option maxRecDepth 100000 in
theorem branch_10 (a b : Nat) (ha : Hid (a < 18446744073709551616)) (hb : Hid (b < 18446744073709551616)) (w : World) : Calls Try.prog 14 #[.int .i64 10, .int .u64 a, .int .u64 b] w (RetD (branchV 10 a b) w) := by
  have hv : Hid (branchV 10 a b = some (!decide (a < b))) := rfl
  have ea := Lib.hid (sw64 a ha.out); have eb := Lib.hid (sw64 b hb.out)
  go_enter Try.func14, Try.ntmps14
  go_wp2_with fail
  go_ret2
  exact retD_eq hv.out (by first | rfl | (rw [ea.out, eb.out]; done) | skip; (try rw [ea.out, eb.out]); first | rfl | (by_cases h : a < b <;> simp [h] <;> omega)) (by repeat (first | (with_reducible first | exact Below.refl _ _ | assumption | exact Nat.le_refl _ | refine Below.drew ?_ | refine Below.alloc ?_ ?_ _ | refine below_drewN ?_ _ | refine Below.setCell ?_ ?_ _ | refine le_alloc ?_ | refine le_set ?_ | refine le_drew ?_ | refine le_drewN ?_ | refine below_step (by assumption) ?_ ?_ | refine le_below (by assumption) ?_) | (dsimp only; omega)))
set_option maxRecDepth 100000 in
theorem branch_no (k : Int) (a b : Nat) (h5 : ¬ k = 5) (h6 : ¬ k = 6) (h7 : ¬ k = 7) (h8 : ¬ k = 8) (h9 : ¬ k = 9) (h10 : ¬ k = 10) (w : World) : Calls Try.prog 14 #[.int .i64 k, .int .u64 a, .int .u64 b] w (RetD (branchV k a b) w) := by
  have hv : Hid (branchV k a b = none) := by show _ = _; unfold branchV; rw [if_neg h6, if_neg h5, if_neg h8, if_neg h7, if_neg h10, if_neg h9]
  go_enter Try.func14, Try.ntmps14
  go_wp2_with fail
  go_ret2
  exact retD_no hv.out rfl rfl (by repeat (first | (with_reducible first | exact Below.refl _ _ | assumption | exact Nat.le_refl _ | refine Below.drew ?_ | refine Below.alloc ?_ ?_ _ | refine below_drewN ?_ _ | refine Below.setCell ?_ ?_ _ | refine le_alloc ?_ | refine le_set ?_ | refine le_drew ?_ | refine le_drewN ?_ | refine below_step (by assumption) ?_ ?_ | refine le_below (by assumption) ?_) | (dsimp only; omega)))
theorem branch_c (k : Int) (a b : Nat) (ha : Hid (a < 18446744073709551616)) (hb : Hid (b < 18446744073709551616)) (w : World) : Calls Try.prog 14 #[.int .i64 k, .int .u64 a, .int .u64 b] w (RetD (branchV k a b) w) := by
  by_cases h5 : k = 5
  · subst h5; exact branch_5 a b ha hb w
  by_cases h6 : k = 6
  · subst h6; exact branch_6 a b ha hb w
  by_cases h7 : k = 7
  · subst h7; exact branch_7 a b ha hb w
  by_cases h8 : k = 8
  · subst h8; exact branch_8 a b ha hb w
  by_cases h9 : k = 9
  · subst h9; exact branch_9 a b ha hb w
  by_cases h10 : k = 10
  · subst h10; exact branch_10 a b ha hb w
  exact branch_no k a b h5 h6 h7 h8 h9 h10 w
end Go.Proofs.Ytbbgcjdflcfnjaa
