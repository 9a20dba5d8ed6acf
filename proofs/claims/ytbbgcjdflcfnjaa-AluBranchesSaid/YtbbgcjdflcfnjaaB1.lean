/- The contracts of places and quotient. -/
import Derived.Test.YtbbgcjdflcfnjaaA
import Derived.Test.YtbbgcjdflcfnjaaShelf
namespace Go.Proofs.Ytbbgcjdflcfnjaa
open Go.ChangeShapes Go.WideShapes Go.ChangeAt Go.RowKit
set_option linter.unusedVariables false
set_option linter.unusedSimpArgs false
set_option maxRecDepth 100000 in
theorem places32_c (b : Nat) (hb : Hid (b < 4294967296)) (w : World) : Calls Try.prog 32 #[.int .u32 b] w (RetV .u32 ((b % 32 : Nat) : Int) w) := by
  have E : Hid (bits .and .u32 (b : Int) 31 = ((b % 32 : Nat) : Int)) := by
    show _ = _; rw [show (31 : Int) = ((31 : Nat) : Int) from rfl, u32_and_nat b 31 hb.out (by decide), show 31 = 2 ^ 5 - 1 from rfl, Nat.and_two_pow_sub_one_eq_mod]
  have L : Hid ((Lib.bitLen (Int.toNat 4294967295) : Nat) = 32) := by show _ = _; decide +kernel
  go_enter Try.func32, Try.ntmps32
  go_wp2_with fail
  refine (Try.bits_Len64 4294967295 _ (by decide) (by decide)).mono ?_
  rintro e w' ⟨rfl, rfl⟩
  rw [L.out]
  go_wp2_with fail
  go_ret
  exact retV_mk E.out (by repeat (first | (with_reducible first | exact Below.refl _ _ | assumption | exact Nat.le_refl _ | refine Below.drew ?_ | refine Below.alloc ?_ ?_ _ | refine below_drewN ?_ _ | refine Below.setCell ?_ ?_ _ | refine le_alloc ?_ | refine le_set ?_ | refine le_drew ?_ | refine le_drewN ?_ | refine below_step (by assumption) ?_ ?_ | refine le_below (by assumption) ?_) | (dsimp only; omega)))
set_option maxRecDepth 100000 in
theorem places64_c (b : Nat) (hb : Hid (b < 18446744073709551616)) (w : World) : Calls Try.prog 35 #[.int .u64 b] w (RetV .u64 ((b % 64 : Nat) : Int) w) := by
  have E : Hid (bits .and .u64 (b : Int) 63 = ((b % 64 : Nat) : Int)) := by
    show _ = _; rw [show (63 : Int) = ((63 : Nat) : Int) from rfl, bits_and_u64_nat b 63 hb.out (by decide), show 63 = 2 ^ 6 - 1 from rfl, Nat.and_two_pow_sub_one_eq_mod]
  have L : Hid ((Lib.bitLen (Int.toNat 18446744073709551615) : Nat) = 64) := by show _ = _; decide +kernel
  go_enter Try.func35, Try.ntmps35
  go_wp2_with fail
  refine (Try.bits_Len64 18446744073709551615 _ (by decide) (by decide)).mono ?_
  rintro e w' ⟨rfl, rfl⟩
  rw [L.out]
  go_wp2_with fail
  go_ret
  exact retV_mk E.out (by repeat (first | (with_reducible first | exact Below.refl _ _ | assumption | exact Nat.le_refl _ | refine Below.drew ?_ | refine Below.alloc ?_ ?_ _ | refine below_drewN ?_ _ | refine Below.setCell ?_ ?_ _ | refine le_alloc ?_ | refine le_set ?_ | refine le_drew ?_ | refine le_drewN ?_ | refine below_step (by assumption) ?_ ?_ | refine le_below (by assumption) ?_) | (dsimp only; omega)))
end Go.Proofs.Ytbbgcjdflcfnjaa
