/- The document's own answers: common. -/
import Derived.Test.YtbbgcjdflcfnjaaR6
namespace Go.Proofs.Ytbbgcjdflcfnjaa
open Go.ChangeShapes Go.WideShapes Go.ChangeAt Go.RowKit
set_option linter.unusedVariables false
set_option linter.unusedSimpArgs false
/-- A width that common is asked for. -/
structure Wd (wd half : Nat) : Prop where
  h1 : 1 ≤ wd
  h2 : wd ≤ 64
  hh : 2 * half = 2 ^ wd
  he : half % 2 = 0
  h0 : 0 < half
theorem wd32 : Wd 32 H32 := ⟨by decide, by decide, by decide, by decide, by decide⟩
theorem wd64 : Wd 64 H64 := ⟨by decide, by decide, by decide, by decide, by decide⟩
theorem Wd.dvd {wd half : Nat} (d : Wd wd half) : 2 * half ∣ 18446744073709551616 := by
  rw [d.hh, show (18446744073709551616 : Nat) = 2 ^ 64 by decide]; exact Nat.pow_dvd_pow 2 d.h2
theorem Wd.low {wd half : Nat} (d : Wd wd half) (x : Nat) : x % 18446744073709551616 % 2 ^ wd = x % (2 * half) := by rw [mod_pow_of d.h2, d.hh]
theorem Wd.le {wd half : Nat} (d : Wd wd half) : 2 ^ wd ≤ 18446744073709551616 := pow_le64 wd d.h2
theorem Wd.sub {wd half : Nat} (d : Wd wd half) (a b : Nat) (hb : b < 2 * half) : (a + (18446744073709551616 - b)) % (2 * half) = (a + (2 * half - b)) % (2 * half) := by
  obtain ⟨c, hc⟩ := d.dvd
  have hc0 : 0 < c := Nat.pos_of_ne_zero (fun h => by subst h; omega)
  obtain ⟨k, rfl⟩ : ∃ k, c = k + 1 := ⟨c - 1, by omega⟩
  rw [Nat.mul_add, Nat.mul_one] at hc
  rw [hc, show a + (2 * half * k + 2 * half - b) = a + (2 * half - b) + 2 * half * k by omega, Nat.add_mul_mod_self_left]
theorem Wd.ones {wd half : Nat} (d : Wd wd half) : 18446744073709551615 % 2 ^ wd = 2 * half - 1 := by
  have h := d.sub 0 1 (by have := d.h0; omega)
  rw [← d.hh]; simp only [Nat.zero_add, Nat.reduceSub] at h
  rw [h]; exact Nat.mod_eq_of_lt (by have := d.h0; omega)
set_option maxRecDepth 100000 in
set_option maxHeartbeats 1000000 in
theorem common_13 (a b wd half : Nat) (d : Hid (Wd wd half)) (ha : Hid (a < 2 ^ wd)) (hb : Hid (b < 2 ^ wd)) (w : World) :
    Calls Try.prog 24 #[.int .i64 13, .int .u64 a, .int .u64 b, .int .i64 wd] w (RetO .u64 (bothV wd half 13 a b) w) := by
  have hD := Lib.hid (fun w => low_c ((a + b) % 18446744073709551616) wd (Nat.mod_lt _ (by decide)) d.out.h2 w)
  rw [d.out.low] at hD
  have E := Lib.hid (show IntKind.u64.wrap ((a : Int) + (b : Int)) = (((a + b) % 18446744073709551616 : Nat) : Int) by rw [IntKind.wrap_u64]; omega)
  obtain ⟨r, hr⟩ : ∃ r, r = (a + b) % (2 * half) := ⟨_, rfl⟩
  rw [← hr] at hD
  have HR := Lib.hid hr; clear hr
  generalize (a + b) % 18446744073709551616 = x at *
  go_enter Try.func24, Try.ntmps24
  go_wp2_with fail
  rw [E.out]
  refine (hD.out _).mono ?_; rintro e w1 ⟨rfl, hb1⟩
  go_wp2_with fail
  go_ret2
  exact retO_mk _ (by rfl) (by rw [HR.out]) rfl (by repeat (first | (with_reducible first | exact Below.refl _ _ | assumption | exact Nat.le_refl _ | refine Below.drew ?_ | refine Below.alloc ?_ ?_ _ | refine below_drewN ?_ _ | refine Below.setCell ?_ ?_ _ | refine le_alloc ?_ | refine le_set ?_ | refine le_drew ?_ | refine le_drewN ?_ | refine below_step (by assumption) ?_ ?_ | refine le_below (by assumption) ?_) | (dsimp only; omega)))
set_option maxRecDepth 100000 in
set_option maxHeartbeats 1000000 in
theorem common_14 (a b wd half : Nat) (d : Hid (Wd wd half)) (ha : Hid (a < 2 ^ wd)) (hb : Hid (b < 2 ^ wd)) (w : World) :
    Calls Try.prog 24 #[.int .i64 14, .int .u64 a, .int .u64 b, .int .i64 wd] w (RetO .u64 (bothV wd half 14 a b) w) := by
  have hbl := Nat.lt_of_lt_of_le hb.out d.out.le
  have hbh : b < 2 * half := by rw [d.out.hh]; exact hb.out
  have hD := Lib.hid (fun w => low_c ((a + (18446744073709551616 - b)) % 18446744073709551616) wd (Nat.mod_lt _ (by decide)) d.out.h2 w)
  rw [d.out.low, d.out.sub a b hbh] at hD
  have E := Lib.hid (show IntKind.u64.wrap ((a : Int) - (b : Int)) = (((a + (18446744073709551616 - b)) % 18446744073709551616 : Nat) : Int) by rw [IntKind.wrap_u64]; omega)
  obtain ⟨r, hr⟩ : ∃ r, r = (a + (2 * half - b)) % (2 * half) := ⟨_, rfl⟩
  rw [← hr] at hD
  have HR := Lib.hid hr; clear hr hbl hbh
  generalize (a + (18446744073709551616 - b)) % 18446744073709551616 = x at *
  go_enter Try.func24, Try.ntmps24
  go_wp2_with fail
  rw [E.out]
  refine (hD.out _).mono ?_; rintro e w1 ⟨rfl, hb1⟩
  go_wp2_with fail
  go_ret2
  exact retO_mk _ (by rfl) (by rw [HR.out]) rfl (by repeat (first | (with_reducible first | exact Below.refl _ _ | assumption | exact Nat.le_refl _ | refine Below.drew ?_ | refine Below.alloc ?_ ?_ _ | refine below_drewN ?_ _ | refine Below.setCell ?_ ?_ _ | refine le_alloc ?_ | refine le_set ?_ | refine le_drew ?_ | refine le_drewN ?_ | refine below_step (by assumption) ?_ ?_ | refine le_below (by assumption) ?_) | (dsimp only; omega)))
set_option maxRecDepth 100000 in
set_option maxHeartbeats 1000000 in
theorem common_23 (a b wd half : Nat) (d : Hid (Wd wd half)) (ha : Hid (a < 2 ^ wd)) (hb : Hid (b < 2 ^ wd)) (w : World) :
    Calls Try.prog 24 #[.int .i64 23, .int .u64 a, .int .u64 b, .int .i64 wd] w (RetO .u64 (bothV wd half 23 a b) w) := by
  have hP := Lib.hid (fun w => product_c a b (Nat.lt_of_lt_of_le ha.out d.out.le) (Nat.lt_of_lt_of_le hb.out d.out.le) w)
  have hD := Lib.hid (fun w => low_c (a * b % 18446744073709551616) wd (Nat.mod_lt _ (by decide)) d.out.h2 w)
  rw [d.out.low] at hD
  obtain ⟨r, hr⟩ : ∃ r, r = a * b % (2 * half) := ⟨_, rfl⟩
  rw [← hr] at hD
  have HR := Lib.hid hr; clear hr
  generalize a * b % 18446744073709551616 = x at *
  generalize a * b / 18446744073709551616 = y at *
  go_enter Try.func24, Try.ntmps24
  go_wp2_with fail
  refine (hP.out _).mono ?_; rintro e w1 ⟨rfl, hb1⟩
  go_wp2_with fail
  refine (hD.out _).mono ?_; rintro e w2 ⟨rfl, hb2⟩
  go_wp2_with fail
  go_ret2
  exact retO_mk _ (by rfl) (by rw [HR.out]) rfl (by repeat (first | (with_reducible first | exact Below.refl _ _ | assumption | exact Nat.le_refl _ | refine Below.drew ?_ | refine Below.alloc ?_ ?_ _ | refine below_drewN ?_ _ | refine Below.setCell ?_ ?_ _ | refine le_alloc ?_ | refine le_set ?_ | refine le_drew ?_ | refine le_drewN ?_ | refine below_step (by assumption) ?_ ?_ | refine le_below (by assumption) ?_) | (dsimp only; omega)))
set_option maxRecDepth 100000 in
set_option maxHeartbeats 1000000 in
theorem common_15 (a b wd half : Nat) (d : Hid (Wd wd half)) (ha : Hid (a < 2 ^ wd)) (hb : Hid (b < 2 ^ wd)) (w : World) :
    Calls Try.prog 24 #[.int .i64 15, .int .u64 a, .int .u64 b, .int .i64 wd] w (RetO .u64 (bothV wd half 15 a b) w) := by
  have hdd := d.out
  have hwz : ¬ (wd : Int) = 0 := by have := hdd.h1; omega
  have hw64 : (wd : Int) ≤ 64 := by have := hdd.h2; omega
  have hs : b % wd < 64 := Nat.lt_of_lt_of_le (Nat.mod_lt _ hdd.h1) hdd.h2
  have hD := Lib.hid (fun w => shift_15 a (b % wd) wd half hdd.h1 hdd.h2 hdd.hh ha.out hs w)
  have hs' : ((b % wd : Nat) : Int) < 64 := by omega
  have hv : Hid (bothV wd half 15 a b = some (a * 2 ^ (b % wd) % 2 ^ wd)) := by show _ = some _; rw [← hdd.hh]; rfl
  have E : (b : Int) % (wd : Int) = ((b % wd : Nat) : Int) := by simp
  have E' : (b : Int).tmod (wd : Int) = ((b % wd : Nat) : Int) := rfl
  clear hdd hs
  generalize b % wd = s at *
  obtain ⟨r, hr⟩ : ∃ r, r = a * 2 ^ s % 2 ^ wd := ⟨_, rfl⟩
  rw [← hr] at hD hv
  clear hr
  go_enter Try.func24, Try.ntmps24
  go_wp2_with fail
  refine (hD.out _).mono ?_; rintro e w1 ⟨rfl, hb1⟩
  go_wp2_with fail
  go_ret2
  exact retO_mk _ hv.out rfl rfl (by repeat (first | (with_reducible first | exact Below.refl _ _ | assumption | exact Nat.le_refl _ | refine Below.drew ?_ | refine Below.alloc ?_ ?_ _ | refine below_drewN ?_ _ | refine Below.setCell ?_ ?_ _ | refine le_alloc ?_ | refine le_set ?_ | refine le_drew ?_ | refine le_drewN ?_ | refine below_step (by assumption) ?_ ?_ | refine le_below (by assumption) ?_) | (dsimp only; omega)))
set_option maxRecDepth 100000 in
set_option maxHeartbeats 1000000 in
theorem common_19 (a b wd half : Nat) (d : Hid (Wd wd half)) (ha : Hid (a < 2 ^ wd)) (hb : Hid (b < 2 ^ wd)) (w : World) :
    Calls Try.prog 24 #[.int .i64 19, .int .u64 a, .int .u64 b, .int .i64 wd] w (RetO .u64 (bothV wd half 19 a b) w) := by
  have hdd := d.out
  have hwz : ¬ (wd : Int) = 0 := by have := hdd.h1; omega
  have hw64 : (wd : Int) ≤ 64 := by have := hdd.h2; omega
  have hs : b % wd < 64 := Nat.lt_of_lt_of_le (Nat.mod_lt _ hdd.h1) hdd.h2
  have hD := Lib.hid (fun w => shift_19 a (b % wd) wd half hdd.h1 hdd.h2 hdd.hh ha.out hs w)
  have hs' : ((b % wd : Nat) : Int) < 64 := by omega
  have hv : Hid (bothV wd half 19 a b = some (a / 2 ^ (b % wd))) := by show _ = some _; rfl
  have E : (b : Int) % (wd : Int) = ((b % wd : Nat) : Int) := by simp
  have E' : (b : Int).tmod (wd : Int) = ((b % wd : Nat) : Int) := rfl
  clear hdd hs
  generalize b % wd = s at *
  obtain ⟨r, hr⟩ : ∃ r, r = a / 2 ^ s := ⟨_, rfl⟩
  rw [← hr] at hD hv
  clear hr
  go_enter Try.func24, Try.ntmps24
  go_wp2_with fail
  refine (hD.out _).mono ?_; rintro e w1 ⟨rfl, hb1⟩
  go_wp2_with fail
  go_ret2
  exact retO_mk _ hv.out rfl rfl (by repeat (first | (with_reducible first | exact Below.refl _ _ | assumption | exact Nat.le_refl _ | refine Below.drew ?_ | refine Below.alloc ?_ ?_ _ | refine below_drewN ?_ _ | refine Below.setCell ?_ ?_ _ | refine le_alloc ?_ | refine le_set ?_ | refine le_drew ?_ | refine le_drewN ?_ | refine below_step (by assumption) ?_ ?_ | refine le_below (by assumption) ?_) | (dsimp only; omega)))
set_option maxRecDepth 100000 in
set_option maxHeartbeats 1000000 in
theorem common_20 (a b wd half : Nat) (d : Hid (Wd wd half)) (ha : Hid (a < 2 ^ wd)) (hb : Hid (b < 2 ^ wd)) (w : World) :
    Calls Try.prog 24 #[.int .i64 20, .int .u64 a, .int .u64 b, .int .i64 wd] w (RetO .u64 (bothV wd half 20 a b) w) := by
  have hdd := d.out
  have hwz : ¬ (wd : Int) = 0 := by have := hdd.h1; omega
  have hw64 : (wd : Int) ≤ 64 := by have := hdd.h2; omega
  have hs : b % wd < 64 := Nat.lt_of_lt_of_le (Nat.mod_lt _ hdd.h1) hdd.h2
  have hD := Lib.hid (fun w => shift_20 a (b % wd) wd half hdd.h1 hdd.h2 hdd.hh ha.out hs hdd.he w)
  have hs' : ((b % wd : Nat) : Int) < 64 := by omega
  have hv : Hid (bothV wd half 20 a b = some (sraV half a (b % wd))) := by show _ = some _; rfl
  have E : (b : Int) % (wd : Int) = ((b % wd : Nat) : Int) := by simp
  have E' : (b : Int).tmod (wd : Int) = ((b % wd : Nat) : Int) := rfl
  clear hdd hs
  generalize b % wd = s at *
  obtain ⟨r, hr⟩ : ∃ r, r = sraV half a s := ⟨_, rfl⟩
  rw [← hr] at hD hv
  clear hr
  go_enter Try.func24, Try.ntmps24
  go_wp2_with fail
  refine (hD.out _).mono ?_; rintro e w1 ⟨rfl, hb1⟩
  go_wp2_with fail
  go_ret2
  exact retO_mk _ hv.out rfl rfl (by repeat (first | (with_reducible first | exact Below.refl _ _ | assumption | exact Nat.le_refl _ | refine Below.drew ?_ | refine Below.alloc ?_ ?_ _ | refine below_drewN ?_ _ | refine Below.setCell ?_ ?_ _ | refine le_alloc ?_ | refine le_set ?_ | refine le_drew ?_ | refine le_drewN ?_ | refine below_step (by assumption) ?_ ?_ | refine le_below (by assumption) ?_) | (dsimp only; omega)))
set_option maxRecDepth 100000 in
set_option maxHeartbeats 1000000 in
theorem common_27z (a wd half : Nat) (d : Hid (Wd wd half)) (ha : Hid (a < 2 ^ wd))  (w : World) :
    Calls Try.prog 24 #[.int .i64 27, .int .u64 a, .int .u64 0, .int .i64 wd] w (RetO .u64 (bothV wd half 27 a 0) w) := by
  have hD := Lib.hid (fun w => low_c 18446744073709551615 wd (by show _ < _; decide) d.out.h2 w)
  rw [d.out.ones] at hD
  have hv : Hid (bothV wd half 27 a 0 = some (2 * half - 1)) := rfl
  generalize 2 * half - 1 = r at *
  go_enter Try.func24, Try.ntmps24
  go_wp2_with fail
  refine (hD.out _).mono ?_; rintro e w1 ⟨rfl, hb1⟩
  go_wp2_with fail
  go_ret2
  exact retO_mk _ hv.out rfl rfl (by repeat (first | (with_reducible first | exact Below.refl _ _ | assumption | exact Nat.le_refl _ | refine Below.drew ?_ | refine Below.alloc ?_ ?_ _ | refine below_drewN ?_ _ | refine Below.setCell ?_ ?_ _ | refine le_alloc ?_ | refine le_set ?_ | refine le_drew ?_ | refine le_drewN ?_ | refine below_step (by assumption) ?_ ?_ | refine le_below (by assumption) ?_) | (dsimp only; omega)))
set_option maxRecDepth 100000 in
set_option maxHeartbeats 1000000 in
theorem common_28z (a wd half : Nat) (d : Hid (Wd wd half)) (ha : Hid (a < 2 ^ wd))  (w : World) :
    Calls Try.prog 24 #[.int .i64 28, .int .u64 a, .int .u64 0, .int .i64 wd] w (RetO .u64 (bothV wd half 28 a 0) w) := by
  have hD := Lib.hid (fun w => low_c 18446744073709551615 wd (by show _ < _; decide) d.out.h2 w)
  rw [d.out.ones] at hD
  have hv : Hid (bothV wd half 28 a 0 = some (2 * half - 1)) := rfl
  generalize 2 * half - 1 = r at *
  go_enter Try.func24, Try.ntmps24
  go_wp2_with fail
  refine (hD.out _).mono ?_; rintro e w1 ⟨rfl, hb1⟩
  go_wp2_with fail
  go_ret2
  exact retO_mk _ hv.out rfl rfl (by repeat (first | (with_reducible first | exact Below.refl _ _ | assumption | exact Nat.le_refl _ | refine Below.drew ?_ | refine Below.alloc ?_ ?_ _ | refine below_drewN ?_ _ | refine Below.setCell ?_ ?_ _ | refine le_alloc ?_ | refine le_set ?_ | refine le_drew ?_ | refine le_drewN ?_ | refine below_step (by assumption) ?_ ?_ | refine le_below (by assumption) ?_) | (dsimp only; omega)))
set_option maxRecDepth 100000 in
set_option maxHeartbeats 1000000 in
theorem common_29z (a wd half : Nat) (d : Hid (Wd wd half)) (ha : Hid (a < 2 ^ wd))  (w : World) :
    Calls Try.prog 24 #[.int .i64 29, .int .u64 a, .int .u64 0, .int .i64 wd] w (RetO .u64 (bothV wd half 29 a 0) w) := by
  have hv : Hid (bothV wd half 29 a 0 = some a) := rfl
  go_enter Try.func24, Try.ntmps24
  go_wp2_with fail
  go_ret2
  exact retO_mk _ hv.out rfl rfl (by repeat (first | (with_reducible first | exact Below.refl _ _ | assumption | exact Nat.le_refl _ | refine Below.drew ?_ | refine Below.alloc ?_ ?_ _ | refine below_drewN ?_ _ | refine Below.setCell ?_ ?_ _ | refine le_alloc ?_ | refine le_set ?_ | refine le_drew ?_ | refine le_drewN ?_ | refine below_step (by assumption) ?_ ?_ | refine le_below (by assumption) ?_) | (dsimp only; omega)))
set_option maxRecDepth 100000 in
set_option maxHeartbeats 1000000 in
theorem common_30z (a wd half : Nat) (d : Hid (Wd wd half)) (ha : Hid (a < 2 ^ wd))  (w : World) :
    Calls Try.prog 24 #[.int .i64 30, .int .u64 a, .int .u64 0, .int .i64 wd] w (RetO .u64 (bothV wd half 30 a 0) w) := by
  have hv : Hid (bothV wd half 30 a 0 = some a) := rfl
  go_enter Try.func24, Try.ntmps24
  go_wp2_with fail
  go_ret2
  exact retO_mk _ hv.out rfl rfl (by repeat (first | (with_reducible first | exact Below.refl _ _ | assumption | exact Nat.le_refl _ | refine Below.drew ?_ | refine Below.alloc ?_ ?_ _ | refine below_drewN ?_ _ | refine Below.setCell ?_ ?_ _ | refine le_alloc ?_ | refine le_set ?_ | refine le_drew ?_ | refine le_drewN ?_ | refine below_step (by assumption) ?_ ?_ | refine le_below (by assumption) ?_) | (dsimp only; omega)))
set_option maxRecDepth 100000 in
set_option maxHeartbeats 1000000 in
theorem common_27n (a b wd half : Nat) (d : Hid (Wd wd half)) (ha : Hid (a < 2 ^ wd)) (hb : Hid (b < 2 ^ wd)) (hz : 0 < b) (w : World) :
    Calls Try.prog 24 #[.int .i64 27, .int .u64 a, .int .u64 b, .int .i64 wd] w (RetO .u64 (bothV wd half 27 a b) w) := by
  have hbz : ((b : Int) == 0) = false := by rw [beq_eq_false_iff_ne]; omega
  have hdd := d.out
  have hD := Lib.hid (fun w => signed_c a b wd half hdd.h1 hdd.h2 hdd.hh ha.out hb.out hz w)
  have hv : Hid (bothV wd half 27 a b = some (quoS half a b)) := rfl
  generalize quoS half a b = q at *
  generalize remS half a b = r at *
  clear hdd hz
  go_enter Try.func24, Try.ntmps24
  go_wp2_with fail
  refine (hD.out _).mono ?_; rintro e w1 ⟨rfl, hb1⟩
  go_wp2_with fail
  go_ret2
  exact retO_mk _ hv.out rfl rfl (by repeat (first | (with_reducible first | exact Below.refl _ _ | assumption | exact Nat.le_refl _ | refine Below.drew ?_ | refine Below.alloc ?_ ?_ _ | refine below_drewN ?_ _ | refine Below.setCell ?_ ?_ _ | refine le_alloc ?_ | refine le_set ?_ | refine le_drew ?_ | refine le_drewN ?_ | refine below_step (by assumption) ?_ ?_ | refine le_below (by assumption) ?_) | (dsimp only; omega)))
set_option maxRecDepth 100000 in
set_option maxHeartbeats 1000000 in
theorem common_28n (a b wd half : Nat) (d : Hid (Wd wd half)) (ha : Hid (a < 2 ^ wd)) (hb : Hid (b < 2 ^ wd)) (hz : 0 < b) (w : World) :
    Calls Try.prog 24 #[.int .i64 28, .int .u64 a, .int .u64 b, .int .i64 wd] w (RetO .u64 (bothV wd half 28 a b) w) := by
  have hbz : ((b : Int) == 0) = false := by rw [beq_eq_false_iff_ne]; omega
  have hdd := d.out
  have hD := Lib.hid (fun w => divide_c a b wd (Nat.lt_of_lt_of_le ha.out hdd.le) (Nat.lt_of_lt_of_le hb.out hdd.le) hz hdd.h2 ha.out w)
  have hv : Hid (bothV wd half 28 a b = some (a / b)) := by show some (quoU half a b) = _; exact congrArg some (if_neg (by omega))
  generalize a / b = q at *
  generalize a % b = r at *
  clear hdd hz
  go_enter Try.func24, Try.ntmps24
  go_wp2_with fail
  refine (hD.out _).mono ?_; rintro e w1 ⟨rfl, hb1⟩
  go_wp2_with fail
  go_ret2
  exact retO_mk _ hv.out rfl rfl (by repeat (first | (with_reducible first | exact Below.refl _ _ | assumption | exact Nat.le_refl _ | refine Below.drew ?_ | refine Below.alloc ?_ ?_ _ | refine below_drewN ?_ _ | refine Below.setCell ?_ ?_ _ | refine le_alloc ?_ | refine le_set ?_ | refine le_drew ?_ | refine le_drewN ?_ | refine below_step (by assumption) ?_ ?_ | refine le_below (by assumption) ?_) | (dsimp only; omega)))
set_option maxRecDepth 100000 in
set_option maxHeartbeats 1000000 in
theorem common_29n (a b wd half : Nat) (d : Hid (Wd wd half)) (ha : Hid (a < 2 ^ wd)) (hb : Hid (b < 2 ^ wd)) (hz : 0 < b) (w : World) :
    Calls Try.prog 24 #[.int .i64 29, .int .u64 a, .int .u64 b, .int .i64 wd] w (RetO .u64 (bothV wd half 29 a b) w) := by
  have hbz : ((b : Int) == 0) = false := by rw [beq_eq_false_iff_ne]; omega
  have hdd := d.out
  have hD := Lib.hid (fun w => signed_c a b wd half hdd.h1 hdd.h2 hdd.hh ha.out hb.out hz w)
  have hv : Hid (bothV wd half 29 a b = some (remS half a b)) := rfl
  generalize quoS half a b = q at *
  generalize remS half a b = r at *
  clear hdd hz
  go_enter Try.func24, Try.ntmps24
  go_wp2_with fail
  refine (hD.out _).mono ?_; rintro e w1 ⟨rfl, hb1⟩
  go_wp2_with fail
  go_ret2
  exact retO_mk _ hv.out rfl rfl (by repeat (first | (with_reducible first | exact Below.refl _ _ | assumption | exact Nat.le_refl _ | refine Below.drew ?_ | refine Below.alloc ?_ ?_ _ | refine below_drewN ?_ _ | refine Below.setCell ?_ ?_ _ | refine le_alloc ?_ | refine le_set ?_ | refine le_drew ?_ | refine le_drewN ?_ | refine below_step (by assumption) ?_ ?_ | refine le_below (by assumption) ?_) | (dsimp only; omega)))
set_option maxRecDepth 100000 in
set_option maxHeartbeats 1000000 in
theorem common_30n (a b wd half : Nat) (d : Hid (Wd wd half)) (ha : Hid (a < 2 ^ wd)) (hb : Hid (b < 2 ^ wd)) (hz : 0 < b) (w : World) :
    Calls Try.prog 24 #[.int .i64 30, .int .u64 a, .int .u64 b, .int .i64 wd] w (RetO .u64 (bothV wd half 30 a b) w) := by
  have hbz : ((b : Int) == 0) = false := by rw [beq_eq_false_iff_ne]; omega
  have hdd := d.out
  have hD := Lib.hid (fun w => divide_c a b wd (Nat.lt_of_lt_of_le ha.out hdd.le) (Nat.lt_of_lt_of_le hb.out hdd.le) hz hdd.h2 ha.out w)
  have hv : Hid (bothV wd half 30 a b = some (a % b)) := by show some (remU half a b) = _; exact congrArg some (if_neg (by omega))
  generalize a / b = q at *
  generalize a % b = r at *
  clear hdd hz
  go_enter Try.func24, Try.ntmps24
  go_wp2_with fail
  refine (hD.out _).mono ?_; rintro e w1 ⟨rfl, hb1⟩
  go_wp2_with fail
  go_ret2
  exact retO_mk _ hv.out rfl rfl (by repeat (first | (with_reducible first | exact Below.refl _ _ | assumption | exact Nat.le_refl _ | refine Below.drew ?_ | refine Below.alloc ?_ ?_ _ | refine below_drewN ?_ _ | refine Below.setCell ?_ ?_ _ | refine le_alloc ?_ | refine le_set ?_ | refine le_drew ?_ | refine le_drewN ?_ | refine below_step (by assumption) ?_ ?_ | refine le_below (by assumption) ?_) | (dsimp only; omega)))
set_option maxRecDepth 100000 in
theorem common_no (k : Int) (a b wd half : Nat) (h14 : ¬ k = 14) (h13 : ¬ k = 13) (h23 : ¬ k = 23) (h15 : ¬ k = 15) (h19 : ¬ k = 19) (h20 : ¬ k = 20) (h27 : ¬ k = 27) (h28 : ¬ k = 28) (h29 : ¬ k = 29) (h30 : ¬ k = 30) (w : World) : Calls Try.prog 24 #[.int .i64 k, .int .u64 a, .int .u64 b, .int .i64 wd] w (RetO .u64 (bothV wd half k a b) w) := by
  have hv : Hid (bothV wd half k a b = none) := by show _ = _; unfold bothV; rw [if_neg h14, if_neg h13, if_neg h23, if_neg h15, if_neg h19, if_neg h20, if_neg h27, if_neg h28, if_neg h29, if_neg h30]
  go_enter Try.func24, Try.ntmps24
  go_wp2_with fail
  go_ret2
  exact retO_no hv.out rfl rfl (by repeat (first | (with_reducible first | exact Below.refl _ _ | assumption | exact Nat.le_refl _ | refine Below.drew ?_ | refine Below.alloc ?_ ?_ _ | refine below_drewN ?_ _ | refine Below.setCell ?_ ?_ _ | refine le_alloc ?_ | refine le_set ?_ | refine le_drew ?_ | refine le_drewN ?_ | refine below_step (by assumption) ?_ ?_ | refine le_below (by assumption) ?_) | (dsimp only; omega)))
theorem common_c (k : Int) (a b wd half : Nat) (d : Wd wd half) (ha : a < 2 ^ wd) (hb : b < 2 ^ wd) (w : World) : Calls Try.prog 24 #[.int .i64 k, .int .u64 a, .int .u64 b, .int .i64 wd] w (RetO .u64 (bothV wd half k a b) w) := by
  by_cases h14 : k = 14
  · subst h14; exact common_14 a b wd half d ha hb w
  by_cases h13 : k = 13
  · subst h13; exact common_13 a b wd half d ha hb w
  by_cases h23 : k = 23
  · subst h23; exact common_23 a b wd half d ha hb w
  by_cases h15 : k = 15
  · subst h15; exact common_15 a b wd half d ha hb w
  by_cases h19 : k = 19
  · subst h19; exact common_19 a b wd half d ha hb w
  by_cases h20 : k = 20
  · subst h20; exact common_20 a b wd half d ha hb w
  by_cases h27 : k = 27
  · subst h27
    by_cases hz : b = 0
    · subst hz; exact common_27z a wd half d ha w
    · exact common_27n a b wd half d ha hb (by omega) w
  by_cases h28 : k = 28
  · subst h28
    by_cases hz : b = 0
    · subst hz; exact common_28z a wd half d ha w
    · exact common_28n a b wd half d ha hb (by omega) w
  by_cases h29 : k = 29
  · subst h29
    by_cases hz : b = 0
    · subst hz; exact common_29z a wd half d ha w
    · exact common_29n a b wd half d ha hb (by omega) w
  by_cases h30 : k = 30
  · subst h30
    by_cases hz : b = 0
    · subst hz; exact common_30z a wd half d ha w
    · exact common_30n a b wd half d ha hb (by omega) w
  exact common_no k a b wd half h14 h13 h23 h15 h19 h20 h27 h28 h29 h30 w
end Go.Proofs.Ytbbgcjdflcfnjaa
