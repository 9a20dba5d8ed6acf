/- The contract of both, over 64 places. -/
import Derived.Test.YtbbgcjdflcfnjaaB2
import Derived.Test.YtbbgcjdflcfnjaaM1
namespace Go.Proofs.Ytbbgcjdflcfnjaa
open Go.ChangeShapes Go.WideShapes Go.ChangeAt Go.RowKit
set_option linter.unusedVariables false
set_option linter.unusedSimpArgs false
set_option maxRecDepth 100000 in
theorem both64_14 (a b : Nat) (ha : Hid (a < 18446744073709551616)) (hb : Hid (b < 18446744073709551616)) (w : World) : Calls Try.prog 22 #[.int .i64 14, .int .u64 a, .int .u64 b] w (RetO .u64 (bothV 64 H64 14 a b) w) := by
  go_enter Try.func22, Try.ntmps22
  go_wp2_with fail
  go_ret2
  exact retO_mk _ (by rfl) (by (try simp only [IntKind.wrap_u64]); have h1 := ha.out; have h2 := hb.out; unfold H64; (try simp only [IntKind.wrap_u32]); omega) rfl (by repeat (first | (with_reducible first | exact Below.refl _ _ | assumption | exact Nat.le_refl _ | refine Below.drew ?_ | refine Below.alloc ?_ ?_ _ | refine below_drewN ?_ _ | refine Below.setCell ?_ ?_ _ | refine le_alloc ?_ | refine le_set ?_ | refine le_drew ?_ | refine le_drewN ?_ | refine below_step (by assumption) ?_ ?_ | refine le_below (by assumption) ?_) | (dsimp only; omega)))
set_option maxRecDepth 100000 in
theorem both64_13 (a b : Nat) (ha : Hid (a < 18446744073709551616)) (hb : Hid (b < 18446744073709551616)) (w : World) : Calls Try.prog 22 #[.int .i64 13, .int .u64 a, .int .u64 b] w (RetO .u64 (bothV 64 H64 13 a b) w) := by
  go_enter Try.func22, Try.ntmps22
  go_wp2_with fail
  go_ret2
  exact retO_mk _ (by rfl) (by (try simp only [IntKind.wrap_u64]); have h1 := ha.out; have h2 := hb.out; unfold H64; (try simp only [IntKind.wrap_u32]); omega) rfl (by repeat (first | (with_reducible first | exact Below.refl _ _ | assumption | exact Nat.le_refl _ | refine Below.drew ?_ | refine Below.alloc ?_ ?_ _ | refine below_drewN ?_ _ | refine Below.setCell ?_ ?_ _ | refine le_alloc ?_ | refine le_set ?_ | refine le_drew ?_ | refine le_drewN ?_ | refine below_step (by assumption) ?_ ?_ | refine le_below (by assumption) ?_) | (dsimp only; omega)))
set_option maxRecDepth 100000 in
theorem both64_23 (a b : Nat) (ha : Hid (a < 18446744073709551616)) (hb : Hid (b < 18446744073709551616)) (w : World) : Calls Try.prog 22 #[.int .i64 23, .int .u64 a, .int .u64 b] w (RetO .u64 (bothV 64 H64 23 a b) w) := by
  go_enter Try.func22, Try.ntmps22
  go_wp2_with fail
  go_ret2
  exact retO_mk _ (by rfl) (by (try simp only [IntKind.wrap_u64]); rw [← Int.natCast_mul]; have h1 := ha.out; have h2 := hb.out; unfold H64; (try simp only [IntKind.wrap_u32]); generalize a * b = m; omega) rfl (by repeat (first | (with_reducible first | exact Below.refl _ _ | assumption | exact Nat.le_refl _ | refine Below.drew ?_ | refine Below.alloc ?_ ?_ _ | refine below_drewN ?_ _ | refine Below.setCell ?_ ?_ _ | refine le_alloc ?_ | refine le_set ?_ | refine le_drew ?_ | refine le_drewN ?_ | refine below_step (by assumption) ?_ ?_ | refine le_below (by assumption) ?_) | (dsimp only; omega)))
set_option maxRecDepth 100000 in
theorem both64_15 (a b : Nat) (ha : Hid (a < 18446744073709551616)) (hb : Hid (b < 18446744073709551616)) (w : World) : Calls Try.prog 22 #[.int .i64 15, .int .u64 a, .int .u64 b] w (RetO .u64 (bothV 64 H64 15 a b) w) := by
  go_enter Try.func22, Try.ntmps22
  go_wp2_with fail
  refine (places64_c b hb _).mono ?_; rintro e u1 ⟨rfl, hb1⟩
  go_wp2_with fail
  go_ret2
  exact retO_mk _ (by rfl) (by (try simp only [IntKind.wrap_u64]); exact sll64 _ _) rfl (by repeat (first | (with_reducible first | exact Below.refl _ _ | assumption | exact Nat.le_refl _ | refine Below.drew ?_ | refine Below.alloc ?_ ?_ _ | refine below_drewN ?_ _ | refine Below.setCell ?_ ?_ _ | refine le_alloc ?_ | refine le_set ?_ | refine le_drew ?_ | refine le_drewN ?_ | refine below_step (by assumption) ?_ ?_ | refine le_below (by assumption) ?_) | (dsimp only; omega)))
set_option maxRecDepth 100000 in
theorem both64_19 (a b : Nat) (ha : Hid (a < 18446744073709551616)) (hb : Hid (b < 18446744073709551616)) (w : World) : Calls Try.prog 22 #[.int .i64 19, .int .u64 a, .int .u64 b] w (RetO .u64 (bothV 64 H64 19 a b) w) := by
  go_enter Try.func22, Try.ntmps22
  go_wp2_with fail
  refine (places64_c b hb _).mono ?_; rintro e u1 ⟨rfl, hb1⟩
  go_wp2_with fail
  go_ret2
  exact retO_mk _ (by rfl) (by (try simp only [IntKind.wrap_u64]); exact srl64 _ _) rfl (by repeat (first | (with_reducible first | exact Below.refl _ _ | assumption | exact Nat.le_refl _ | refine Below.drew ?_ | refine Below.alloc ?_ ?_ _ | refine below_drewN ?_ _ | refine Below.setCell ?_ ?_ _ | refine le_alloc ?_ | refine le_set ?_ | refine le_drew ?_ | refine le_drewN ?_ | refine below_step (by assumption) ?_ ?_ | refine le_below (by assumption) ?_) | (dsimp only; omega)))
set_option maxRecDepth 100000 in
theorem both64_20 (a b : Nat) (ha : Hid (a < 18446744073709551616)) (hb : Hid (b < 18446744073709551616)) (w : World) : Calls Try.prog 22 #[.int .i64 20, .int .u64 a, .int .u64 b] w (RetO .u64 (bothV 64 H64 20 a b) w) := by
  go_enter Try.func22, Try.ntmps22
  go_wp2_with fail
  refine (places64_c b hb _).mono ?_; rintro e u1 ⟨rfl, hb1⟩
  go_wp2_with fail
  go_ret2
  exact retO_mk _ (by rfl) (by (try simp only [IntKind.wrap_u64]); exact sra64 _ _ ha.out) rfl (by repeat (first | (with_reducible first | exact Below.refl _ _ | assumption | exact Nat.le_refl _ | refine Below.drew ?_ | refine Below.alloc ?_ ?_ _ | refine below_drewN ?_ _ | refine Below.setCell ?_ ?_ _ | refine le_alloc ?_ | refine le_set ?_ | refine le_drew ?_ | refine le_drewN ?_ | refine below_step (by assumption) ?_ ?_ | refine le_below (by assumption) ?_) | (dsimp only; omega)))
set_option maxRecDepth 100000 in
theorem both64_27z (a : Nat) (ha : Hid (a < 18446744073709551616)) (w : World) : Calls Try.prog 22 #[.int .i64 27, .int .u64 a, .int .u64 0] w (RetO .u64 (bothV 64 H64 27 a 0) w) := by
  go_enter Try.func22, Try.ntmps22
  go_wp2_with fail
  refine (quotient_i64_z _ _).mono ?_; rintro e u1 ⟨rfl, hb1⟩
  go_wp2_with fail
  go_ret2
  exact retO_mk _ (by rfl) (by (try simp only [IntKind.wrap_u64]); show _ = ((2 * H64 - 1 : Nat) : Int); decide) rfl (by repeat (first | (with_reducible first | exact Below.refl _ _ | assumption | exact Nat.le_refl _ | refine Below.drew ?_ | refine Below.alloc ?_ ?_ _ | refine below_drewN ?_ _ | refine Below.setCell ?_ ?_ _ | refine le_alloc ?_ | refine le_set ?_ | refine le_drew ?_ | refine le_drewN ?_ | refine below_step (by assumption) ?_ ?_ | refine le_below (by assumption) ?_) | (dsimp only; omega)))
set_option maxRecDepth 100000 in
theorem both64_27n (a b : Nat) (ha : Hid (a < 18446744073709551616)) (hb : Hid (b < 18446744073709551616)) (hz : ¬ b = 0) (w : World) : Calls Try.prog 22 #[.int .i64 27, .int .u64 a, .int .u64 b] w (RetO .u64 (bothV 64 H64 27 a b) w) := by
  have hn : Hid (wrap64 (b : Int) ≠ 0) := snz64 b hb.out hz
  go_enter Try.func22, Try.ntmps22
  go_wp2_with fail
  refine (quotient_i64_c _ _ hn.out _).mono ?_; rintro e u1 ⟨rfl, hb1⟩
  go_wp2_with fail
  go_ret2
  exact retO_mk _ (by rfl) (by (try simp only [IntKind.wrap_u64]); exact div64 a b ha.out hb.out hz) rfl (by repeat (first | (with_reducible first | exact Below.refl _ _ | assumption | exact Nat.le_refl _ | refine Below.drew ?_ | refine Below.alloc ?_ ?_ _ | refine below_drewN ?_ _ | refine Below.setCell ?_ ?_ _ | refine le_alloc ?_ | refine le_set ?_ | refine le_drew ?_ | refine le_drewN ?_ | refine below_step (by assumption) ?_ ?_ | refine le_below (by assumption) ?_) | (dsimp only; omega)))
set_option maxRecDepth 100000 in
theorem both64_29z (a : Nat) (ha : Hid (a < 18446744073709551616)) (w : World) : Calls Try.prog 22 #[.int .i64 29, .int .u64 a, .int .u64 0] w (RetO .u64 (bothV 64 H64 29 a 0) w) := by
  go_enter Try.func22, Try.ntmps22
  go_wp2_with fail
  refine (quotient_i64_z _ _).mono ?_; rintro e u1 ⟨rfl, hb1⟩
  go_wp2_with fail
  go_ret2
  exact retO_mk _ (by rfl) (by (try simp only [IntKind.wrap_u64]); show _ = ((a : Nat) : Int); have := ha.out; omega) rfl (by repeat (first | (with_reducible first | exact Below.refl _ _ | assumption | exact Nat.le_refl _ | refine Below.drew ?_ | refine Below.alloc ?_ ?_ _ | refine below_drewN ?_ _ | refine Below.setCell ?_ ?_ _ | refine le_alloc ?_ | refine le_set ?_ | refine le_drew ?_ | refine le_drewN ?_ | refine below_step (by assumption) ?_ ?_ | refine le_below (by assumption) ?_) | (dsimp only; omega)))
set_option maxRecDepth 100000 in
theorem both64_29n (a b : Nat) (ha : Hid (a < 18446744073709551616)) (hb : Hid (b < 18446744073709551616)) (hz : ¬ b = 0) (w : World) : Calls Try.prog 22 #[.int .i64 29, .int .u64 a, .int .u64 b] w (RetO .u64 (bothV 64 H64 29 a b) w) := by
  have hn : Hid (wrap64 (b : Int) ≠ 0) := snz64 b hb.out hz
  go_enter Try.func22, Try.ntmps22
  go_wp2_with fail
  refine (quotient_i64_c _ _ hn.out _).mono ?_; rintro e u1 ⟨rfl, hb1⟩
  go_wp2_with fail
  go_ret2
  exact retO_mk _ (by rfl) (by (try simp only [IntKind.wrap_u64]); exact rem64 a b ha.out hb.out hz) rfl (by repeat (first | (with_reducible first | exact Below.refl _ _ | assumption | exact Nat.le_refl _ | refine Below.drew ?_ | refine Below.alloc ?_ ?_ _ | refine below_drewN ?_ _ | refine Below.setCell ?_ ?_ _ | refine le_alloc ?_ | refine le_set ?_ | refine le_drew ?_ | refine le_drewN ?_ | refine below_step (by assumption) ?_ ?_ | refine le_below (by assumption) ?_) | (dsimp only; omega)))
set_option maxRecDepth 100000 in
theorem both64_28z (a : Nat) (ha : Hid (a < 18446744073709551616)) (w : World) : Calls Try.prog 22 #[.int .i64 28, .int .u64 a, .int .u64 0] w (RetO .u64 (bothV 64 H64 28 a 0) w) := by
  go_enter Try.func22, Try.ntmps22
  go_wp2_with fail
  refine (quotient_u64_z a _).mono ?_; rintro e u1 ⟨rfl, hb1⟩
  go_wp2_with fail
  go_ret2
  exact retO_mk _ (by rfl) (by (try simp only [IntKind.wrap_u64]); show _ = ((2 * H64 - 1 : Nat) : Int); decide) rfl (by repeat (first | (with_reducible first | exact Below.refl _ _ | assumption | exact Nat.le_refl _ | refine Below.drew ?_ | refine Below.alloc ?_ ?_ _ | refine below_drewN ?_ _ | refine Below.setCell ?_ ?_ _ | refine le_alloc ?_ | refine le_set ?_ | refine le_drew ?_ | refine le_drewN ?_ | refine below_step (by assumption) ?_ ?_ | refine le_below (by assumption) ?_) | (dsimp only; omega)))
set_option maxRecDepth 100000 in
theorem both64_28n (a b : Nat) (ha : Hid (a < 18446744073709551616)) (hb : Hid (b < 18446744073709551616)) (hz : ¬ b = 0) (w : World) : Calls Try.prog 22 #[.int .i64 28, .int .u64 a, .int .u64 b] w (RetO .u64 (bothV 64 H64 28 a b) w) := by
  go_enter Try.func22, Try.ntmps22
  go_wp2_with fail
  refine (quotient_u64_c a b ha hb hz _).mono ?_; rintro e u1 ⟨rfl, hb1⟩
  go_wp2_with fail
  go_ret2
  exact retO_mk _ (by rfl) (by (try simp only [IntKind.wrap_u64]); (show _ = (((if b = 0 then _ else a / b) : Nat) : Int)); rw [if_neg hz]; simp) rfl (by repeat (first | (with_reducible first | exact Below.refl _ _ | assumption | exact Nat.le_refl _ | refine Below.drew ?_ | refine Below.alloc ?_ ?_ _ | refine below_drewN ?_ _ | refine Below.setCell ?_ ?_ _ | refine le_alloc ?_ | refine le_set ?_ | refine le_drew ?_ | refine le_drewN ?_ | refine below_step (by assumption) ?_ ?_ | refine le_below (by assumption) ?_) | (dsimp only; omega)))
set_option maxRecDepth 100000 in
theorem both64_30z (a : Nat) (ha : Hid (a < 18446744073709551616)) (w : World) : Calls Try.prog 22 #[.int .i64 30, .int .u64 a, .int .u64 0] w (RetO .u64 (bothV 64 H64 30 a 0) w) := by
  go_enter Try.func22, Try.ntmps22
  go_wp2_with fail
  refine (quotient_u64_z a _).mono ?_; rintro e u1 ⟨rfl, hb1⟩
  go_wp2_with fail
  go_ret2
  exact retO_mk _ (by rfl) (by (try simp only [IntKind.wrap_u64]); show _ = ((a : Nat) : Int); have := ha.out; omega) rfl (by repeat (first | (with_reducible first | exact Below.refl _ _ | assumption | exact Nat.le_refl _ | refine Below.drew ?_ | refine Below.alloc ?_ ?_ _ | refine below_drewN ?_ _ | refine Below.setCell ?_ ?_ _ | refine le_alloc ?_ | refine le_set ?_ | refine le_drew ?_ | refine le_drewN ?_ | refine below_step (by assumption) ?_ ?_ | refine le_below (by assumption) ?_) | (dsimp only; omega)))
set_option maxRecDepth 100000 in
theorem both64_30n (a b : Nat) (ha : Hid (a < 18446744073709551616)) (hb : Hid (b < 18446744073709551616)) (hz : ¬ b = 0) (w : World) : Calls Try.prog 22 #[.int .i64 30, .int .u64 a, .int .u64 b] w (RetO .u64 (bothV 64 H64 30 a b) w) := by
  go_enter Try.func22, Try.ntmps22
  go_wp2_with fail
  refine (quotient_u64_c a b ha hb hz _).mono ?_; rintro e u1 ⟨rfl, hb1⟩
  go_wp2_with fail
  go_ret2
  exact retO_mk _ (by rfl) (by (try simp only [IntKind.wrap_u64]); exact remu64 a b ha.out hz) rfl (by repeat (first | (with_reducible first | exact Below.refl _ _ | assumption | exact Nat.le_refl _ | refine Below.drew ?_ | refine Below.alloc ?_ ?_ _ | refine below_drewN ?_ _ | refine Below.setCell ?_ ?_ _ | refine le_alloc ?_ | refine le_set ?_ | refine le_drew ?_ | refine le_drewN ?_ | refine below_step (by assumption) ?_ ?_ | refine le_below (by assumption) ?_) | (dsimp only; omega)))
set_option maxRecDepth 100000 in
theorem both64_no (k : Int) (a b : Nat) (h14 : ¬ k = 14) (h13 : ¬ k = 13) (h23 : ¬ k = 23) (h15 : ¬ k = 15) (h19 : ¬ k = 19) (h20 : ¬ k = 20) (h27 : ¬ k = 27) (h28 : ¬ k = 28) (h29 : ¬ k = 29) (h30 : ¬ k = 30) (w : World) : Calls Try.prog 22 #[.int .i64 k, .int .u64 a, .int .u64 b] w (RetO .u64 (bothV 64 H64 k a b) w) := by
  have hv : Hid (bothV 64 H64 k a b = none) := by show _ = _; unfold bothV; rw [if_neg h14, if_neg h13, if_neg h23, if_neg h15, if_neg h19, if_neg h20, if_neg h27, if_neg h28, if_neg h29, if_neg h30]
  go_enter Try.func22, Try.ntmps22
  go_wp2_with fail
  go_ret2
  exact retO_no hv.out rfl rfl (by repeat (first | (with_reducible first | exact Below.refl _ _ | assumption | exact Nat.le_refl _ | refine Below.drew ?_ | refine Below.alloc ?_ ?_ _ | refine below_drewN ?_ _ | refine Below.setCell ?_ ?_ _ | refine le_alloc ?_ | refine le_set ?_ | refine le_drew ?_ | refine le_drewN ?_ | refine below_step (by assumption) ?_ ?_ | refine le_below (by assumption) ?_) | (dsimp only; omega)))
theorem both64_c (k : Int) (a b : Nat) (ha : Hid (a < 18446744073709551616)) (hb : Hid (b < 18446744073709551616)) (w : World) : Calls Try.prog 22 #[.int .i64 k, .int .u64 a, .int .u64 b] w (RetO .u64 (bothV 64 H64 k a b) w) := by
  by_cases h14 : k = 14
  · subst h14; exact both64_14 a b ha hb w
  by_cases h13 : k = 13
  · subst h13; exact both64_13 a b ha hb w
  by_cases h23 : k = 23
  · subst h23; exact both64_23 a b ha hb w
  by_cases h15 : k = 15
  · subst h15; exact both64_15 a b ha hb w
  by_cases h19 : k = 19
  · subst h19; exact both64_19 a b ha hb w
  by_cases h20 : k = 20
  · subst h20; exact both64_20 a b ha hb w
  by_cases h27 : k = 27
  · subst h27
    by_cases hz : b = 0
    · subst hz; exact both64_27z a ha w
    · exact both64_27n a b ha hb hz w
  by_cases h28 : k = 28
  · subst h28
    by_cases hz : b = 0
    · subst hz; exact both64_28z a ha w
    · exact both64_28n a b ha hb hz w
  by_cases h29 : k = 29
  · subst h29
    by_cases hz : b = 0
    · subst hz; exact both64_29z a ha w
    · exact both64_29n a b ha hb hz w
  by_cases h30 : k = 30
  · subst h30
    by_cases hz : b = 0
    · subst hz; exact both64_30z a ha w
    · exact both64_30n a b ha hb hz w
  exact both64_no k a b h14 h13 h23 h15 h19 h20 h27 h28 h29 h30 w
end Go.Proofs.Ytbbgcjdflcfnjaa
