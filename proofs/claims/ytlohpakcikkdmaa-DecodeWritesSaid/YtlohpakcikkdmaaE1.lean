/- The contracts of place, power, writeRegisters. -/
import Derived.Test.YtlohpakcikkdmaaM1
import Derived.Lib.QuietBelow
import Derived.Test.YtlohpakcikkdmaaB5
namespace Go.Proofs.Ytlohpakcikkdmaa
open Go.ChangeShapes Go.WideShapes Go.ChangeAt Go.RowKit Go.Sort
set_option linter.unusedVariables false
set_option linter.unusedSimpArgs false

theorem place_eq (x : Int) (f c : Nat) (hc : c < 32) (hfc : f + c ≤ 32) : bits .and .u32 (x % 4294967296) ((2 ^ c - 1 : Nat) : Int) * ((2 ^ f : Nat) : Int) % 4294967296 = ((plN x f c : Nat) : Int) := by
  obtain ⟨X, hX⟩ : ∃ X : Nat, x % 4294967296 = X := ⟨(x % 4294967296).toNat, by omega⟩
  have hXl : X < 4294967296 := by omega
  have hd : (2 ^ c : Nat) ∣ 4294967296 := by rw [show 4294967296 = 2 ^ 32 by decide]; exact Nat.pow_dvd_pow 2 (by omega)
  have e : x % ((2 ^ c : Nat) : Int) = ((X % 2 ^ c : Nat) : Int) := by
    rw [Int.natCast_emod, ← hX, Int.emod_emod_of_dvd]
    obtain ⟨k, hk⟩ := hd
    exact ⟨k, by rw [← Int.natCast_mul, ← hk]; rfl⟩
  have hp := plN_lt x f c hfc
  unfold plN at hp ⊢
  rw [e, Int.toNat_natCast] at hp ⊢
  rw [hX, u32_low X c hXl hc, ← Int.natCast_mul]
  omega

theorem place_20_12 (x : Int) (w : World) : Calls Try.prog 45 #[.int .i64 x, .int .i64 20, .int .i64 12] w (RetU (plN x 20 12) w) := by
  have H1 : Hid (bits .and .u32 (x % 4294967296) 4095 * 1048576 % 4294967296 = ((plN x 20 12 : Nat) : Int)) := place_eq x 20 12 (by decide) (by decide)
  go_enter Try.func45, Try.ntmps45
  go_wp2
  go_ret
  exact retU_mk H1.out (by repeat (first | (with_reducible first | exact Below.refl _ _ | assumption | exact Nat.le_refl _ | refine Below.drew ?_ | refine Below.alloc ?_ ?_ _ | refine Below.setCell ?_ ?_ _ | refine le_alloc ?_ | refine le_set ?_ | refine le_drew ?_ | refine below_step (by assumption) ?_ ?_ | refine le_below (by assumption) ?_) | (dsimp only; omega)))
theorem place_25_7 (x : Int) (w : World) : Calls Try.prog 45 #[.int .i64 x, .int .i64 25, .int .i64 7] w (RetU (plN x 25 7) w) := by
  have H1 : Hid (bits .and .u32 (x % 4294967296) 127 * 33554432 % 4294967296 = ((plN x 25 7 : Nat) : Int)) := place_eq x 25 7 (by decide) (by decide)
  go_enter Try.func45, Try.ntmps45
  go_wp2
  go_ret
  exact retU_mk H1.out (by repeat (first | (with_reducible first | exact Below.refl _ _ | assumption | exact Nat.le_refl _ | refine Below.drew ?_ | refine Below.alloc ?_ ?_ _ | refine Below.setCell ?_ ?_ _ | refine le_alloc ?_ | refine le_set ?_ | refine le_drew ?_ | refine below_step (by assumption) ?_ ?_ | refine le_below (by assumption) ?_) | (dsimp only; omega)))
theorem place_7_5 (x : Int) (w : World) : Calls Try.prog 45 #[.int .i64 x, .int .i64 7, .int .i64 5] w (RetU (plN x 7 5) w) := by
  have H1 : Hid (bits .and .u32 (x % 4294967296) 31 * 128 % 4294967296 = ((plN x 7 5 : Nat) : Int)) := place_eq x 7 5 (by decide) (by decide)
  go_enter Try.func45, Try.ntmps45
  go_wp2
  go_ret
  exact retU_mk H1.out (by repeat (first | (with_reducible first | exact Below.refl _ _ | assumption | exact Nat.le_refl _ | refine Below.drew ?_ | refine Below.alloc ?_ ?_ _ | refine Below.setCell ?_ ?_ _ | refine le_alloc ?_ | refine le_set ?_ | refine le_drew ?_ | refine below_step (by assumption) ?_ ?_ | refine le_below (by assumption) ?_) | (dsimp only; omega)))
theorem place_31_1 (x : Int) (w : World) : Calls Try.prog 45 #[.int .i64 x, .int .i64 31, .int .i64 1] w (RetU (plN x 31 1) w) := by
  have H1 : Hid (bits .and .u32 (x % 4294967296) 1 * 2147483648 % 4294967296 = ((plN x 31 1 : Nat) : Int)) := place_eq x 31 1 (by decide) (by decide)
  go_enter Try.func45, Try.ntmps45
  go_wp2
  go_ret
  exact retU_mk H1.out (by repeat (first | (with_reducible first | exact Below.refl _ _ | assumption | exact Nat.le_refl _ | refine Below.drew ?_ | refine Below.alloc ?_ ?_ _ | refine Below.setCell ?_ ?_ _ | refine le_alloc ?_ | refine le_set ?_ | refine le_drew ?_ | refine below_step (by assumption) ?_ ?_ | refine le_below (by assumption) ?_) | (dsimp only; omega)))
theorem place_7_1 (x : Int) (w : World) : Calls Try.prog 45 #[.int .i64 x, .int .i64 7, .int .i64 1] w (RetU (plN x 7 1) w) := by
  have H1 : Hid (bits .and .u32 (x % 4294967296) 1 * 128 % 4294967296 = ((plN x 7 1 : Nat) : Int)) := place_eq x 7 1 (by decide) (by decide)
  go_enter Try.func45, Try.ntmps45
  go_wp2
  go_ret
  exact retU_mk H1.out (by repeat (first | (with_reducible first | exact Below.refl _ _ | assumption | exact Nat.le_refl _ | refine Below.drew ?_ | refine Below.alloc ?_ ?_ _ | refine Below.setCell ?_ ?_ _ | refine le_alloc ?_ | refine le_set ?_ | refine le_drew ?_ | refine below_step (by assumption) ?_ ?_ | refine le_below (by assumption) ?_) | (dsimp only; omega)))
theorem place_25_6 (x : Int) (w : World) : Calls Try.prog 45 #[.int .i64 x, .int .i64 25, .int .i64 6] w (RetU (plN x 25 6) w) := by
  have H1 : Hid (bits .and .u32 (x % 4294967296) 63 * 33554432 % 4294967296 = ((plN x 25 6 : Nat) : Int)) := place_eq x 25 6 (by decide) (by decide)
  go_enter Try.func45, Try.ntmps45
  go_wp2
  go_ret
  exact retU_mk H1.out (by repeat (first | (with_reducible first | exact Below.refl _ _ | assumption | exact Nat.le_refl _ | refine Below.drew ?_ | refine Below.alloc ?_ ?_ _ | refine Below.setCell ?_ ?_ _ | refine le_alloc ?_ | refine le_set ?_ | refine le_drew ?_ | refine below_step (by assumption) ?_ ?_ | refine le_below (by assumption) ?_) | (dsimp only; omega)))
theorem place_8_4 (x : Int) (w : World) : Calls Try.prog 45 #[.int .i64 x, .int .i64 8, .int .i64 4] w (RetU (plN x 8 4) w) := by
  have H1 : Hid (bits .and .u32 (x % 4294967296) 15 * 256 % 4294967296 = ((plN x 8 4 : Nat) : Int)) := place_eq x 8 4 (by decide) (by decide)
  go_enter Try.func45, Try.ntmps45
  go_wp2
  go_ret
  exact retU_mk H1.out (by repeat (first | (with_reducible first | exact Below.refl _ _ | assumption | exact Nat.le_refl _ | refine Below.drew ?_ | refine Below.alloc ?_ ?_ _ | refine Below.setCell ?_ ?_ _ | refine le_alloc ?_ | refine le_set ?_ | refine le_drew ?_ | refine below_step (by assumption) ?_ ?_ | refine le_below (by assumption) ?_) | (dsimp only; omega)))
theorem place_12_20 (x : Int) (w : World) : Calls Try.prog 45 #[.int .i64 x, .int .i64 12, .int .i64 20] w (RetU (plN x 12 20) w) := by
  have H1 : Hid (bits .and .u32 (x % 4294967296) 1048575 * 4096 % 4294967296 = ((plN x 12 20 : Nat) : Int)) := place_eq x 12 20 (by decide) (by decide)
  go_enter Try.func45, Try.ntmps45
  go_wp2
  go_ret
  exact retU_mk H1.out (by repeat (first | (with_reducible first | exact Below.refl _ _ | assumption | exact Nat.le_refl _ | refine Below.drew ?_ | refine Below.alloc ?_ ?_ _ | refine Below.setCell ?_ ?_ _ | refine le_alloc ?_ | refine le_set ?_ | refine le_drew ?_ | refine below_step (by assumption) ?_ ?_ | refine le_below (by assumption) ?_) | (dsimp only; omega)))
theorem place_12_8 (x : Int) (w : World) : Calls Try.prog 45 #[.int .i64 x, .int .i64 12, .int .i64 8] w (RetU (plN x 12 8) w) := by
  have H1 : Hid (bits .and .u32 (x % 4294967296) 255 * 4096 % 4294967296 = ((plN x 12 8 : Nat) : Int)) := place_eq x 12 8 (by decide) (by decide)
  go_enter Try.func45, Try.ntmps45
  go_wp2
  go_ret
  exact retU_mk H1.out (by repeat (first | (with_reducible first | exact Below.refl _ _ | assumption | exact Nat.le_refl _ | refine Below.drew ?_ | refine Below.alloc ?_ ?_ _ | refine Below.setCell ?_ ?_ _ | refine le_alloc ?_ | refine le_set ?_ | refine le_drew ?_ | refine below_step (by assumption) ?_ ?_ | refine le_below (by assumption) ?_) | (dsimp only; omega)))
theorem place_20_1 (x : Int) (w : World) : Calls Try.prog 45 #[.int .i64 x, .int .i64 20, .int .i64 1] w (RetU (plN x 20 1) w) := by
  have H1 : Hid (bits .and .u32 (x % 4294967296) 1 * 1048576 % 4294967296 = ((plN x 20 1 : Nat) : Int)) := place_eq x 20 1 (by decide) (by decide)
  go_enter Try.func45, Try.ntmps45
  go_wp2
  go_ret
  exact retU_mk H1.out (by repeat (first | (with_reducible first | exact Below.refl _ _ | assumption | exact Nat.le_refl _ | refine Below.drew ?_ | refine Below.alloc ?_ ?_ _ | refine Below.setCell ?_ ?_ _ | refine le_alloc ?_ | refine le_set ?_ | refine le_drew ?_ | refine below_step (by assumption) ?_ ?_ | refine le_below (by assumption) ?_) | (dsimp only; omega)))
theorem place_21_10 (x : Int) (w : World) : Calls Try.prog 45 #[.int .i64 x, .int .i64 21, .int .i64 10] w (RetU (plN x 21 10) w) := by
  have H1 : Hid (bits .and .u32 (x % 4294967296) 1023 * 2097152 % 4294967296 = ((plN x 21 10 : Nat) : Int)) := place_eq x 21 10 (by decide) (by decide)
  go_enter Try.func45, Try.ntmps45
  go_wp2
  go_ret
  exact retU_mk H1.out (by repeat (first | (with_reducible first | exact Below.refl _ _ | assumption | exact Nat.le_refl _ | refine Below.drew ?_ | refine Below.alloc ?_ ?_ _ | refine Below.setCell ?_ ?_ _ | refine le_alloc ?_ | refine le_set ?_ | refine le_drew ?_ | refine below_step (by assumption) ?_ ?_ | refine le_below (by assumption) ?_) | (dsimp only; omega)))
theorem place_20_6 (x : Int) (w : World) : Calls Try.prog 45 #[.int .i64 x, .int .i64 20, .int .i64 6] w (RetU (plN x 20 6) w) := by
  have H1 : Hid (bits .and .u32 (x % 4294967296) 63 * 1048576 % 4294967296 = ((plN x 20 6 : Nat) : Int)) := place_eq x 20 6 (by decide) (by decide)
  go_enter Try.func45, Try.ntmps45
  go_wp2
  go_ret
  exact retU_mk H1.out (by repeat (first | (with_reducible first | exact Below.refl _ _ | assumption | exact Nat.le_refl _ | refine Below.drew ?_ | refine Below.alloc ?_ ?_ _ | refine Below.setCell ?_ ?_ _ | refine le_alloc ?_ | refine le_set ?_ | refine le_drew ?_ | refine below_step (by assumption) ?_ ?_ | refine le_below (by assumption) ?_) | (dsimp only; omega)))
theorem place_15_5 (x : Int) (w : World) : Calls Try.prog 45 #[.int .i64 x, .int .i64 15, .int .i64 5] w (RetU (plN x 15 5) w) := by
  have H1 : Hid (bits .and .u32 (x % 4294967296) 31 * 32768 % 4294967296 = ((plN x 15 5 : Nat) : Int)) := place_eq x 15 5 (by decide) (by decide)
  go_enter Try.func45, Try.ntmps45
  go_wp2
  go_ret
  exact retU_mk H1.out (by repeat (first | (with_reducible first | exact Below.refl _ _ | assumption | exact Nat.le_refl _ | refine Below.drew ?_ | refine Below.alloc ?_ ?_ _ | refine Below.setCell ?_ ?_ _ | refine le_alloc ?_ | refine le_set ?_ | refine le_drew ?_ | refine below_step (by assumption) ?_ ?_ | refine le_below (by assumption) ?_) | (dsimp only; omega)))
theorem place_20_5 (x : Int) (w : World) : Calls Try.prog 45 #[.int .i64 x, .int .i64 20, .int .i64 5] w (RetU (plN x 20 5) w) := by
  have H1 : Hid (bits .and .u32 (x % 4294967296) 31 * 1048576 % 4294967296 = ((plN x 20 5 : Nat) : Int)) := place_eq x 20 5 (by decide) (by decide)
  go_enter Try.func45, Try.ntmps45
  go_wp2
  go_ret
  exact retU_mk H1.out (by repeat (first | (with_reducible first | exact Below.refl _ _ | assumption | exact Nat.le_refl _ | refine Below.drew ?_ | refine Below.alloc ?_ ?_ _ | refine Below.setCell ?_ ?_ _ | refine le_alloc ?_ | refine le_set ?_ | refine le_drew ?_ | refine below_step (by assumption) ?_ ?_ | refine le_below (by assumption) ?_) | (dsimp only; omega)))
theorem place_27_5 (x : Int) (w : World) : Calls Try.prog 45 #[.int .i64 x, .int .i64 27, .int .i64 5] w (RetU (plN x 27 5) w) := by
  have H1 : Hid (bits .and .u32 (x % 4294967296) 31 * 134217728 % 4294967296 = ((plN x 27 5 : Nat) : Int)) := place_eq x 27 5 (by decide) (by decide)
  go_enter Try.func45, Try.ntmps45
  go_wp2
  go_ret
  exact retU_mk H1.out (by repeat (first | (with_reducible first | exact Below.refl _ _ | assumption | exact Nat.le_refl _ | refine Below.drew ?_ | refine Below.alloc ?_ ?_ _ | refine Below.setCell ?_ ?_ _ | refine le_alloc ?_ | refine le_set ?_ | refine le_drew ?_ | refine below_step (by assumption) ?_ ?_ | refine le_below (by assumption) ?_) | (dsimp only; omega)))
theorem place_12_3 (x : Int) (w : World) : Calls Try.prog 45 #[.int .i64 x, .int .i64 12, .int .i64 3] w (RetU (plN x 12 3) w) := by
  have H1 : Hid (bits .and .u32 (x % 4294967296) 7 * 4096 % 4294967296 = ((plN x 12 3 : Nat) : Int)) := place_eq x 12 3 (by decide) (by decide)
  go_enter Try.func45, Try.ntmps45
  go_wp2
  go_ret
  exact retU_mk H1.out (by repeat (first | (with_reducible first | exact Below.refl _ _ | assumption | exact Nat.le_refl _ | refine Below.drew ?_ | refine Below.alloc ?_ ?_ _ | refine Below.setCell ?_ ?_ _ | refine le_alloc ?_ | refine le_set ?_ | refine le_drew ?_ | refine below_step (by assumption) ?_ ?_ | refine le_below (by assumption) ?_) | (dsimp only; omega)))
theorem place_12_2 (x : Int) (w : World) : Calls Try.prog 45 #[.int .i64 x, .int .i64 12, .int .i64 2] w (RetU (plN x 12 2) w) := by
  have H1 : Hid (bits .and .u32 (x % 4294967296) 3 * 4096 % 4294967296 = ((plN x 12 2 : Nat) : Int)) := place_eq x 12 2 (by decide) (by decide)
  go_enter Try.func45, Try.ntmps45
  go_wp2
  go_ret
  exact retU_mk H1.out (by repeat (first | (with_reducible first | exact Below.refl _ _ | assumption | exact Nat.le_refl _ | refine Below.drew ?_ | refine Below.alloc ?_ ?_ _ | refine Below.setCell ?_ ?_ _ | refine le_alloc ?_ | refine le_set ?_ | refine le_drew ?_ | refine below_step (by assumption) ?_ ?_ | refine le_below (by assumption) ?_) | (dsimp only; omega)))
theorem place1_25 (w : World) : Calls Try.prog 45 #[.int .i64 1, .int .i64 25, .int .i64 1] w (RetU 33554432 w) := by
  have e : bits .and .u32 1 1 = 1 := by decide
  go_enter Try.func45, Try.ntmps45
  go_wp2
  go_ret
  exact retU_mk (by first | rfl | decide | (rw [e]; rfl)) (by repeat (first | (with_reducible first | exact Below.refl _ _ | assumption | exact Nat.le_refl _ | refine Below.drew ?_ | refine Below.alloc ?_ ?_ _ | refine Below.setCell ?_ ?_ _ | refine le_alloc ?_ | refine le_set ?_ | refine le_drew ?_ | refine below_step (by assumption) ?_ ?_ | refine le_below (by assumption) ?_) | (dsimp only; omega)))
theorem place1_3 (w : World) : Calls Try.prog 45 #[.int .i64 1, .int .i64 3, .int .i64 1] w (RetU 8 w) := by
  have e : bits .and .u32 1 1 = 1 := by decide
  go_enter Try.func45, Try.ntmps45
  go_wp2
  go_ret
  exact retU_mk (by first | rfl | decide | (rw [e]; rfl)) (by repeat (first | (with_reducible first | exact Below.refl _ _ | assumption | exact Nat.le_refl _ | refine Below.drew ?_ | refine Below.alloc ?_ ?_ _ | refine Below.setCell ?_ ?_ _ | refine le_alloc ?_ | refine le_set ?_ | refine le_drew ?_ | refine below_step (by assumption) ?_ ?_ | refine le_below (by assumption) ?_) | (dsimp only; omega)))
theorem place1_21 (w : World) : Calls Try.prog 45 #[.int .i64 1, .int .i64 21, .int .i64 1] w (RetU 2097152 w) := by
  have e : bits .and .u32 1 1 = 1 := by decide
  go_enter Try.func45, Try.ntmps45
  go_wp2
  go_ret
  exact retU_mk (by first | rfl | decide | (rw [e]; rfl)) (by repeat (first | (with_reducible first | exact Below.refl _ _ | assumption | exact Nat.le_refl _ | refine Below.drew ?_ | refine Below.alloc ?_ ?_ _ | refine Below.setCell ?_ ?_ _ | refine le_alloc ?_ | refine le_set ?_ | refine le_drew ?_ | refine below_step (by assumption) ?_ ?_ | refine le_below (by assumption) ?_) | (dsimp only; omega)))
theorem place1_20 (w : World) : Calls Try.prog 45 #[.int .i64 1, .int .i64 20, .int .i64 1] w (RetU 1048576 w) := by
  have e : bits .and .u32 1 1 = 1 := by decide
  go_enter Try.func45, Try.ntmps45
  go_wp2
  go_ret
  exact retU_mk (by first | rfl | decide | (rw [e]; rfl)) (by repeat (first | (with_reducible first | exact Below.refl _ _ | assumption | exact Nat.le_refl _ | refine Below.drew ?_ | refine Below.alloc ?_ ?_ _ | refine Below.setCell ?_ ?_ _ | refine le_alloc ?_ | refine le_set ?_ | refine le_drew ?_ | refine below_step (by assumption) ?_ ?_ | refine le_below (by assumption) ?_) | (dsimp only; omega)))
theorem power_c (s : Int) (w : World) : Calls Try.prog 46 #[.int .i64 s] w (RetI (powV s) w) := by
  by_cases h2 : s = 2
  · subst h2
    go_enter Try.func46, Try.ntmps46
    go_wp2
    go_ret
    exact retI_mk rfl (by repeat (first | (with_reducible first | exact Below.refl _ _ | assumption | exact Nat.le_refl _ | refine Below.drew ?_ | refine Below.alloc ?_ ?_ _ | refine Below.setCell ?_ ?_ _ | refine le_alloc ?_ | refine le_set ?_ | refine le_drew ?_ | refine below_step (by assumption) ?_ ?_ | refine le_below (by assumption) ?_) | (dsimp only; omega)))
  · by_cases h4 : s = 4
    · subst h4
      go_enter Try.func46, Try.ntmps46
      go_wp2
      go_ret
      exact retI_mk rfl (by repeat (first | (with_reducible first | exact Below.refl _ _ | assumption | exact Nat.le_refl _ | refine Below.drew ?_ | refine Below.alloc ?_ ?_ _ | refine Below.setCell ?_ ?_ _ | refine le_alloc ?_ | refine le_set ?_ | refine le_drew ?_ | refine below_step (by assumption) ?_ ?_ | refine le_below (by assumption) ?_) | (dsimp only; omega)))
    · by_cases h8 : s = 8
      · subst h8
        go_enter Try.func46, Try.ntmps46
        go_wp2
        go_ret
        exact retI_mk rfl (by repeat (first | (with_reducible first | exact Below.refl _ _ | assumption | exact Nat.le_refl _ | refine Below.drew ?_ | refine Below.alloc ?_ ?_ _ | refine Below.setCell ?_ ?_ _ | refine le_alloc ?_ | refine le_set ?_ | refine le_drew ?_ | refine below_step (by assumption) ?_ ?_ | refine le_below (by assumption) ?_) | (dsimp only; omega)))
      · have e2 : (s == 2) = false := by simpa using h2
        have e4 : (s == 4) = false := by simpa using h4
        have e8 : (s == 8) = false := by simpa using h8
        have HV : Hid (powV s = 0) := by show _ = _; unfold powV; rw [if_neg h2, if_neg h4, if_neg h8]
        clear h2 h4 h8
        go_enter Try.func46, Try.ntmps46
        go_wp2
        go_ret
        exact retI_mk (by rw [HV.out]) (by repeat (first | (with_reducible first | exact Below.refl _ _ | assumption | exact Nat.le_refl _ | refine Below.drew ?_ | refine Below.alloc ?_ ?_ _ | refine Below.setCell ?_ ?_ _ | refine le_alloc ?_ | refine le_set ?_ | refine le_drew ?_ | refine below_step (by assumption) ?_ ?_ | refine le_below (by assumption) ?_) | (dsimp only; omega)))
theorem q_u {W : World} {dd : Nat} {os : Array Obj} {f : FuncId} {args : Array Value} {n : Nat} (c : Calls Try.prog f args (grow (redrawn W dd) os) (RetU n (grow (redrawn W dd) os))) :
    Calls Try.prog f args (grow (redrawn W dd) os) fun e w'' => e = .returned (.int .u32 n) ∧ ∃ p : Regrown, w'' = grow (redrawn W p.d) p.os := Calls.regrown_of (c.mono fun _ _ h' => ⟨by rw [h'.1], h'.2⟩)
end Go.Proofs.Ytlohpakcikkdmaa
