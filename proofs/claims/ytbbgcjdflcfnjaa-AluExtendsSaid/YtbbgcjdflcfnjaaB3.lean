/- The contract of both, over 32 places. -/
import Derived.Test.YtbbgcjdflcfnjaaB2
import Derived.Test.YtbbgcjdflcfnjaaM1
namespace Go.Proofs.Ytbbgcjdflcfnjaa
open Go.ChangeShapes Go.WideShapes Go.ChangeAt Go.RowKit
set_option linter.unusedVariables false
set_option linter.unusedSimpArgs false
set_option maxRecDepth 100000 in
theorem both32_14 (a b : Nat) (ha : Hid (a < 4294967296)) (hb : Hid (b < 4294967296)) (w : World) : Calls Try.prog 21 #[.int .i64 14, .int .u32 a, .int .u32 b] w (RetO .u32 (bothV 32 H32 14 a b) w) := by
  go_enter Try.func21, Try.ntmps21
  go_wp2_with fail
  go_ret2
  exact retO_mk _ (by rfl) (by (try simp only [IntKind.wrap_u64]); have h1 := ha.out; have h2 := hb.out; unfold H32; (try simp only [IntKind.wrap_u32]); omega) rfl (by repeat (first | (with_reducible first | exact Below.refl _ _ | assumption | exact Nat.le_refl _ | refine Below.drew ?_ | refine Below.alloc ?_ ?_ _ | refine below_drewN ?_ _ | refine Below.setCell ?_ ?_ _ | refine le_alloc ?_ | refine le_set ?_ | refine le_drew ?_ | refine le_drewN ?_ | refine below_step (by assumption) ?_ ?_ | refine le_below (by assumption) ?_) | (dsimp only; omega)))
set_option maxRecDepth 100000 in
theorem both32_13 (a b : Nat) (ha : Hid (a < 4294967296)) (hb : Hid (b < 4294967296)) (w : World) : Calls Try.prog 21 #[.int .i64 13, .int .u32 a, .int .u32 b] w (RetO .u32 (bothV 32 H32 13 a b) w) := by
  go_enter Try.func21, Try.ntmps21
  go_wp2_with fail
  go_ret2
  exact retO_mk _ (by rfl) (by (try simp only [IntKind.wrap_u64]); have h1 := ha.out; have h2 := hb.out; unfold H32; (try simp only [IntKind.wrap_u32]); omega) rfl (by repeat (first | (with_reducible first | exact Below.refl _ _ | assumption | exact Nat.le_refl _ | refine Below.drew ?_ | refine Below.alloc ?_ ?_ _ | refine below_drewN ?_ _ | refine Below.setCell ?_ ?_ _ | refine le_alloc ?_ | refine le_set ?_ | refine le_drew ?_ | refine le_drewN ?_ | refine below_step (by assumption) ?_ ?_ | refine le_below (by assumption) ?_) | (dsimp only; omega)))
set_option maxRecDepth 100000 in
theorem both32_23 (a b : Nat) (ha : Hid (a < 4294967296)) (hb : Hid (b < 4294967296)) (w : World) : Calls Try.prog 21 #[.int .i64 23, .int .u32 a, .int .u32 b] w (RetO .u32 (bothV 32 H32 23 a b) w) := by
  go_enter Try.func21, Try.ntmps21
  go_wp2_with fail
  go_ret2
  exact retO_mk _ (by rfl) (by (try simp only [IntKind.wrap_u64]); rw [← Int.natCast_mul]; have h1 := ha.out; have h2 := hb.out; unfold H32; (try simp only [IntKind.wrap_u32]); generalize a * b = m; omega) rfl (by repeat (first | (with_reducible first | exact Below.refl _ _ | assumption | exact Nat.le_refl _ | refine Below.drew ?_ | refine Below.alloc ?_ ?_ _ | refine below_drewN ?_ _ | refine Below.setCell ?_ ?_ _ | refine le_alloc ?_ | refine le_set ?_ | refine le_drew ?_ | refine le_drewN ?_ | refine below_step (by assumption) ?_ ?_ | refine le_below (by assumption) ?_) | (dsimp only; omega)))
set_option maxRecDepth 100000 in
theorem both32_15 (a b : Nat) (ha : Hid (a < 4294967296)) (hb : Hid (b < 4294967296)) (w : World) : Calls Try.prog 21 #[.int .i64 15, .int .u32 a, .int .u32 b] w (RetO .u32 (bothV 32 H32 15 a b) w) := by
  go_enter Try.func21, Try.ntmps21
  go_wp2_with fail
  refine (places32_c b hb _).mono ?_; rintro e u1 ⟨rfl, hb1⟩
  go_wp2_with fail
  go_ret2
  exact retO_mk _ (by rfl) (by (try simp only [IntKind.wrap_u64]); exact sll32 _ _) rfl (by repeat (first | (with_reducible first | exact Below.refl _ _ | assumption | exact Nat.le_refl _ | refine Below.drew ?_ | refine Below.alloc ?_ ?_ _ | refine below_drewN ?_ _ | refine Below.setCell ?_ ?_ _ | refine le_alloc ?_ | refine le_set ?_ | refine le_drew ?_ | refine le_drewN ?_ | refine below_step (by assumption) ?_ ?_ | refine le_below (by assumption) ?_) | (dsimp only; omega)))
set_option maxRecDepth 100000 in
theorem both32_19 (a b : Nat) (ha : Hid (a < 4294967296)) (hb : Hid (b < 4294967296)) (w : World) : Calls Try.prog 21 #[.int .i64 19, .int .u32 a, .int .u32 b] w (RetO .u32 (bothV 32 H32 19 a b) w) := by
  go_enter Try.func21, Try.ntmps21
  go_wp2_with fail
  refine (places32_c b hb _).mono ?_; rintro e u1 ⟨rfl, hb1⟩
  go_wp2_with fail
  go_ret2
  exact retO_mk _ (by rfl) (by (try simp only [IntKind.wrap_u64]); exact srl32 _ _) rfl (by repeat (first | (with_reducible first | exact Below.refl _ _ | assumption | exact Nat.le_refl _ | refine Below.drew ?_ | refine Below.alloc ?_ ?_ _ | refine below_drewN ?_ _ | refine Below.setCell ?_ ?_ _ | refine le_alloc ?_ | refine le_set ?_ | refine le_drew ?_ | refine le_drewN ?_ | refine below_step (by assumption) ?_ ?_ | refine le_below (by assumption) ?_) | (dsimp only; omega)))
set_option maxRecDepth 100000 in
theorem both32_20 (a b : Nat) (ha : Hid (a < 4294967296)) (hb : Hid (b < 4294967296)) (w : World) : Calls Try.prog 21 #[.int .i64 20, .int .u32 a, .int .u32 b] w (RetO .u32 (bothV 32 H32 20 a b) w) := by
  go_enter Try.func21, Try.ntmps21
  go_wp2_with fail
  refine (places32_c b hb _).mono ?_; rintro e u1 ⟨rfl, hb1⟩
  go_wp2_with fail
  go_ret2
  exact retO_mk _ (by rfl) (by (try simp only [IntKind.wrap_u64]); exact sra32 _ _ ha.out) rfl (by repeat (first | (with_reducible first | exact Below.refl _ _ | assumption | exact Nat.le_refl _ | refine Below.drew ?_ | refine Below.alloc ?_ ?_ _ | refine below_drewN ?_ _ | refine Below.setCell ?_ ?_ _ | refine le_alloc ?_ | refine le_set ?_ | refine le_drew ?_ | refine le_drewN ?_ | refine below_step (by assumption) ?_ ?_ | refine le_below (by assumption) ?_) | (dsimp only; omega)))
set_option maxRecDepth 100000 in
theorem both32_27z (a : Nat) (ha : Hid (a < 4294967296)) (w : World) : Calls Try.prog 21 #[.int .i64 27, .int .u32 a, .int .u32 0] w (RetO .u32 (bothV 32 H32 27 a 0) w) := by
  go_enter Try.func21, Try.ntmps21
  go_wp2_with fail
  refine (quotient_i32_z _ _).mono ?_; rintro e u1 ⟨rfl, hb1⟩
  go_wp2_with fail
  go_ret2
  exact retO_mk _ (by rfl) (by (try simp only [IntKind.wrap_u64]); show _ = ((2 * H32 - 1 : Nat) : Int); decide) rfl (by repeat (first | (with_reducible first | exact Below.refl _ _ | assumption | exact Nat.le_refl _ | refine Below.drew ?_ | refine Below.alloc ?_ ?_ _ | refine below_drewN ?_ _ | refine Below.setCell ?_ ?_ _ | refine le_alloc ?_ | refine le_set ?_ | refine le_drew ?_ | refine le_drewN ?_ | refine below_step (by assumption) ?_ ?_ | refine le_below (by assumption) ?_) | (dsimp only; omega)))
set_option maxRecDepth 100000 in
theorem both32_27n (a b : Nat) (ha : Hid (a < 4294967296)) (hb : Hid (b < 4294967296)) (hz : ¬ b = 0) (w : World) : Calls Try.prog 21 #[.int .i64 27, .int .u32 a, .int .u32 b] w (RetO .u32 (bothV 32 H32 27 a b) w) := by
  have hn : Hid (wrap32 (b : Int) ≠ 0) := snz32 b hb.out hz
  go_enter Try.func21, Try.ntmps21
  go_wp2_with fail
  refine (quotient_i32_c _ _ hn.out _).mono ?_; rintro e u1 ⟨rfl, hb1⟩
  go_wp2_with fail
  go_ret2
  exact retO_mk _ (by rfl) (by (try simp only [IntKind.wrap_u64]); exact div32 a b ha.out hb.out hz) rfl (by repeat (first | (with_reducible first | exact Below.refl _ _ | assumption | exact Nat.le_refl _ | refine Below.drew ?_ | refine Below.alloc ?_ ?_ _ | refine below_drewN ?_ _ | refine Below.setCell ?_ ?_ _ | refine le_alloc ?_ | refine le_set ?_ | refine le_drew ?_ | refine le_drewN ?_ | refine below_step (by assumption) ?_ ?_ | refine le_below (by assumption) ?_) | (dsimp only; omega)))
set_option maxRecDepth 100000 in
theorem both32_29z (a : Nat) (ha : Hid (a < 4294967296)) (w : World) : Calls Try.prog 21 #[.int .i64 29, .int .u32 a, .int .u32 0] w (RetO .u32 (bothV 32 H32 29 a 0) w) := by
  go_enter Try.func21, Try.ntmps21
  go_wp2_with fail
  refine (quotient_i32_z _ _).mono ?_; rintro e u1 ⟨rfl, hb1⟩
  go_wp2_with fail
  go_ret2
  exact retO_mk _ (by rfl) (by (try simp only [IntKind.wrap_u64]); show _ = ((a : Nat) : Int); have := ha.out; omega) rfl (by repeat (first | (with_reducible first | exact Below.refl _ _ | assumption | exact Nat.le_refl _ | refine Below.drew ?_ | refine Below.alloc ?_ ?_ _ | refine below_drewN ?_ _ | refine Below.setCell ?_ ?_ _ | refine le_alloc ?_ | refine le_set ?_ | refine le_drew ?_ | refine le_drewN ?_ | refine below_step (by assumption) ?_ ?_ | refine le_below (by assumption) ?_) | (dsimp only; omega)))
set_option maxRecDepth 100000 in
theorem both32_29n (a b : Nat) (ha : Hid (a < 4294967296)) (hb : Hid (b < 4294967296)) (hz : ¬ b = 0) (w : World) : Calls Try.prog 21 #[.int .i64 29, .int .u32 a, .int .u32 b] w (RetO .u32 (bothV 32 H32 29 a b) w) := by
  have hn : Hid (wrap32 (b : Int) ≠ 0) := snz32 b hb.out hz
  go_enter Try.func21, Try.ntmps21
  go_wp2_with fail
  refine (quotient_i32_c _ _ hn.out _).mono ?_; rintro e u1 ⟨rfl, hb1⟩
  go_wp2_with fail
  go_ret2
  exact retO_mk _ (by rfl) (by (try simp only [IntKind.wrap_u64]); exact rem32 a b ha.out hb.out hz) rfl (by repeat (first | (with_reducible first | exact Below.refl _ _ | assumption | exact Nat.le_refl _ | refine Below.drew ?_ | refine Below.alloc ?_ ?_ _ | refine below_drewN ?_ _ | refine Below.setCell ?_ ?_ _ | refine le_alloc ?_ | refine le_set ?_ | refine le_drew ?_ | refine le_drewN ?_ | refine below_step (by assumption) ?_ ?_ | refine le_below (by assumption) ?_) | (dsimp only; omega)))
set_option maxRecDepth 100000 in
theorem both32_28z (a : Nat) (ha : Hid (a < 4294967296)) (w : World) : Calls Try.prog 21 #[.int .i64 28, .int .u32 a, .int .u32 0] w (RetO .u32 (bothV 32 H32 28 a 0) w) := by
  go_enter Try.func21, Try.ntmps21
  go_wp2_with fail
  refine (quotient_u32_z a _).mono ?_; rintro e u1 ⟨rfl, hb1⟩
  go_wp2_with fail
  go_ret2
  exact retO_mk _ (by rfl) (by (try simp only [IntKind.wrap_u64]); show _ = ((2 * H32 - 1 : Nat) : Int); decide) rfl (by repeat (first | (with_reducible first | exact Below.refl _ _ | assumption | exact Nat.le_refl _ | refine Below.drew ?_ | refine Below.alloc ?_ ?_ _ | refine below_drewN ?_ _ | refine Below.setCell ?_ ?_ _ | refine le_alloc ?_ | refine le_set ?_ | refine le_drew ?_ | refine le_drewN ?_ | refine below_step (by assumption) ?_ ?_ | refine le_below (by assumption) ?_) | (dsimp only; omega)))
set_option maxRecDepth 100000 in
theorem both32_28n (a b : Nat) (ha : Hid (a < 4294967296)) (hb : Hid (b < 4294967296)) (hz : ¬ b = 0) (w : World) : Calls Try.prog 21 #[.int .i64 28, .int .u32 a, .int .u32 b] w (RetO .u32 (bothV 32 H32 28 a b) w) := by
  go_enter Try.func21, Try.ntmps21
  go_wp2_with fail
  refine (quotient_u32_c a b ha hb hz _).mono ?_; rintro e u1 ⟨rfl, hb1⟩
  go_wp2_with fail
  go_ret2
  exact retO_mk _ (by rfl) (by (try simp only [IntKind.wrap_u64]); (show _ = (((if b = 0 then _ else a / b) : Nat) : Int)); rw [if_neg hz]; simp) rfl (by repeat (first | (with_reducible first | exact Below.refl _ _ | assumption | exact Nat.le_refl _ | refine Below.drew ?_ | refine Below.alloc ?_ ?_ _ | refine below_drewN ?_ _ | refine Below.setCell ?_ ?_ _ | refine le_alloc ?_ | refine le_set ?_ | refine le_drew ?_ | refine le_drewN ?_ | refine below_step (by assumption) ?_ ?_ | refine le_below (by assumption) ?_) | (dsimp only; omega)))
set_option maxRecDepth 100000 in
theorem both32_30z (a : Nat) (ha : Hid (a < 4294967296)) (w : World) : Calls Try.prog 21 #[.int .i64 30, .int .u32 a, .int .u32 0] w (RetO .u32 (bothV 32 H32 30 a 0) w) := by
  go_enter Try.func21, Try.ntmps21
  go_wp2_with fail
  refine (quotient_u32_z a _).mono ?_; rintro e u1 ⟨rfl, hb1⟩
  go_wp2_with fail
  go_ret2
  exact retO_mk _ (by rfl) (by (try simp only [IntKind.wrap_u64]); show _ = ((a : Nat) : Int); have := ha.out; omega) rfl (by repeat (first | (with_reducible first | exact Below.refl _ _ | assumption | exact Nat.le_refl _ | refine Below.drew ?_ | refine Below.alloc ?_ ?_ _ | refine below_drewN ?_ _ | refine Below.setCell ?_ ?_ _ | refine le_alloc ?_ | refine le_set ?_ | refine le_drew ?_ | refine le_drewN ?_ | refine below_step (by assumption) ?_ ?_ | refine le_below (by assumption) ?_) | (dsimp only; omega)))
set_option maxRecDepth 100000 in
theorem both32_30n (a b : Nat) (ha : Hid (a < 4294967296)) (hb : Hid (b < 4294967296)) (hz : ¬ b = 0) (w : World) : Calls Try.prog 21 #[.int .i64 30, .int .u32 a, .int .u32 b] w (RetO .u32 (bothV 32 H32 30 a b) w) := by
  go_enter Try.func21, Try.ntmps21
  go_wp2_with fail
  refine (quotient_u32_c a b ha hb hz _).mono ?_; rintro e u1 ⟨rfl, hb1⟩
  go_wp2_with fail
  go_ret2
  exact retO_mk _ (by rfl) (by (try simp only [IntKind.wrap_u64]); exact remu32 a b ha.out hz) rfl (by repeat (first | (with_reducible first | exact Below.refl _ _ | assumption | exact Nat.le_refl _ | refine Below.drew ?_ | refine Below.alloc ?_ ?_ _ | refine below_drewN ?_ _ | refine Below.setCell ?_ ?_ _ | refine le_alloc ?_ | refine le_set ?_ | refine le_drew ?_ | refine le_drewN ?_ | refine below_step (by assumption) ?_ ?_ | refine le_below (by assumption) ?_) | (dsimp only; omega)))
set_option maxRecDepth 100000 in
theorem both32_no (k : Int) (a b : Nat) (h14 : ¬ k = 14) (h13 : ¬ k = 13) (h23 : ¬ k = 23) (h15 : ¬ k = 15) (h19 : ¬ k = 19) (h20 : ¬ k = 20) (h27 : ¬ k = 27) (h28 : ¬ k = 28) (h29 : ¬ k = 29) (h30 : ¬ k = 30) (w : World) : Calls Try.prog 21 #[.int .i64 k, .int .u32 a, .int .u32 b] w (RetO .u32 (bothV 32 H32 k a b) w) := by
  have hv : Hid (bothV 32 H32 k a b = none) := by show _ = _; unfold bothV; rw [if_neg h14, if_neg h13, if_neg h23, if_neg h15, if_neg h19, if_neg h20, if_neg h27, if_neg h28, if_neg h29, if_neg h30]
  go_enter Try.func21, Try.ntmps21
  go_wp2_with fail
  go_ret2
  exact retO_no hv.out rfl rfl (by repeat (first | (with_reducible first | exact Below.refl _ _ | assumption | exact Nat.le_refl _ | refine Below.drew ?_ | refine Below.alloc ?_ ?_ _ | refine below_drewN ?_ _ | refine Below.setCell ?_ ?_ _ | refine le_alloc ?_ | refine le_set ?_ | refine le_drew ?_ | refine le_drewN ?_ | refine below_step (by assumption) ?_ ?_ | refine le_below (by assumption) ?_) | (dsimp only; omega)))
theorem both32_c (k : Int) (a b : Nat) (ha : Hid (a < 4294967296)) (hb : Hid (b < 4294967296)) (w : World) : Calls Try.prog 21 #[.int .i64 k, .int .u32 a, .int .u32 b] w (RetO .u32 (bothV 32 H32 k a b) w) := by
  by_cases h14 : k = 14
  · subst h14; exact both32_14 a b ha hb w
  by_cases h13 : k = 13
  · subst h13; exact both32_13 a b ha hb w
  by_cases h23 : k = 23
  · subst h23; exact both32_23 a b ha hb w
  by_cases h15 : k = 15
  · subst h15; exact both32_15 a b ha hb w
  by_cases h19 : k = 19
  · subst h19; exact both32_19 a b ha hb w
  by_cases h20 : k = 20
  · subst h20; exact both32_20 a b ha hb w
  by_cases h27 : k = 27
  · subst h27
    by_cases hz : b = 0
    · subst hz; exact both32_27z a ha w
    · exact both32_27n a b ha hb hz w
  by_cases h28 : k = 28
  · subst h28
    by_cases hz : b = 0
    · subst hz; exact both32_28z a ha w
    · exact both32_28n a b ha hb hz w
  by_cases h29 : k = 29
  · subst h29
    by_cases hz : b = 0
    · subst hz; exact both32_29z a ha w
    · exact both32_29n a b ha hb hz w
  by_cases h30 : k = 30
  · subst h30
    by_cases hz : b = 0
    · subst hz; exact both32_30z a ha w
    · exact both32_30n a b ha hb hz w
  exact both32_no k a b h14 h13 h23 h15 h19 h20 h27 h28 h29 h30 w
end Go.Proofs.Ytbbgcjdflcfnjaa
