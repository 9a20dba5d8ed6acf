/- PROVED: 'DecodeShifts' returns true whatever the bits are: shifts fit, and sums of an immediate have their register form. No condition. -/
import Derived.Test.YtmpkhflngpncnaaF2
import Derived.Test.YtmpkhflngpncnaaM6
import Derived.BigGuardPart
namespace Go.Proofs.Ytmpkhflngpncnaa
open Go.ChangeShapes Go.WideShapes Go.ChangeAt Go.RowKit
set_option linter.unusedVariables false
set_option linter.unusedSimpArgs false

theorem eq_127 (b n : Nat) (hb : b < 4294967296) (hn : n < 4294967296) (h : n &&& 127 = (b &&& 127) ||| 32) : (bits .and .u32 (n : Int) 127 == bits .or .u32 (bits .and .u32 (b : Int) 127) 32) = true := by
  have e1 : bits .and .u32 (n : Int) 127 = ((n &&& 127 : Nat) : Int) := u32_and_nat n 127 hn (by decide)
  have e2 : bits .and .u32 (b : Int) 127 = ((b &&& 127 : Nat) : Int) := u32_and_nat b 127 hb (by decide)
  have e3 : bits .or .u32 ((b &&& 127 : Nat) : Int) 32 = (((b &&& 127) ||| 32 : Nat) : Int) := u32_or_nat (b &&& 127) 32 (Nat.lt_of_le_of_lt Nat.and_le_left hb) (by decide)
  rw [e1, e2, e3, h]; simp
theorem eq_ff (b n : Nat) (hb : b < 4294967296) (hn : n < 4294967296) (h : n &&& 1044480 = b &&& 1044480) : (bits .and .u32 (n : Int) 1044480 == bits .and .u32 (b : Int) 1044480) = true := by
  have e1 : bits .and .u32 (n : Int) 1044480 = ((n &&& 1044480 : Nat) : Int) := u32_and_nat n 1044480 hn (by decide)
  have e2 : bits .and .u32 (b : Int) 1044480 = ((b &&& 1044480 : Nat) : Int) := u32_and_nat b 1044480 hb (by decide)
  rw [e1, e2, h]; simp

set_option maxRecDepth 100000 in
set_option maxHeartbeats 4000000 in
theorem sh_f15 (b : Nat) (hb : Hid (b < 4294967296)) (kind rd rs1 rs2 rs3 rm csr size imm : Int) (ui un wo : Bool) (hdc : Hid (∀ v, Calls Try.prog 10 #[.int .u32 b] v (fun e w' => e = .returned (.agg #[.int .i64 kind, .int .i64 rd, .int .i64 rs1, .int .i64 rs2, .int .i64 rs3, .int .i64 rm, .int .i64 csr, .int .i64 size, .int .i64 imm, .bool ui, .bool un, .bool wo]) ∧ Below v.heap.size v w'))) (hk : kind = 15) (hu : ui = false) (w : World) : Calls Try.prog 8 #[.int .u32 b] w (RetB true w) := by
  subst hk hu
  go_enter Try.func8, Try.ntmps8
  go_wp2_with fail
  refine (awake_c _).mono ?_; rintro e w1 ⟨rfl, hb1⟩
  go_wp2_with fail
  refine (hdc.out _).mono ?_; rintro e w2 ⟨rfl, hb2⟩
  go_wp2_with fail
  go_ret
  exact retB_mk rfl (by repeat (first | (with_reducible first | exact Below.refl _ _ | assumption | exact Nat.le_refl _ | refine Below.drew ?_ | refine Below.alloc ?_ ?_ _ | refine Below.setCell ?_ ?_ _ | refine le_alloc ?_ | refine le_set ?_ | refine le_drew ?_ | refine below_step (by assumption) ?_ ?_ | refine le_below (by assumption) ?_) | (dsimp only; omega)))

set_option maxRecDepth 100000 in
set_option maxHeartbeats 4000000 in
theorem sh_f19 (b : Nat) (hb : Hid (b < 4294967296)) (kind rd rs1 rs2 rs3 rm csr size imm : Int) (ui un wo : Bool) (hdc : Hid (∀ v, Calls Try.prog 10 #[.int .u32 b] v (fun e w' => e = .returned (.agg #[.int .i64 kind, .int .i64 rd, .int .i64 rs1, .int .i64 rs2, .int .i64 rs3, .int .i64 rm, .int .i64 csr, .int .i64 size, .int .i64 imm, .bool ui, .bool un, .bool wo]) ∧ Below v.heap.size v w'))) (hk : kind = 19) (hu : ui = false) (w : World) : Calls Try.prog 8 #[.int .u32 b] w (RetB true w) := by
  subst hk hu
  go_enter Try.func8, Try.ntmps8
  go_wp2_with fail
  refine (awake_c _).mono ?_; rintro e w1 ⟨rfl, hb1⟩
  go_wp2_with fail
  refine (hdc.out _).mono ?_; rintro e w2 ⟨rfl, hb2⟩
  go_wp2_with fail
  go_ret
  exact retB_mk rfl (by repeat (first | (with_reducible first | exact Below.refl _ _ | assumption | exact Nat.le_refl _ | refine Below.drew ?_ | refine Below.alloc ?_ ?_ _ | refine Below.setCell ?_ ?_ _ | refine le_alloc ?_ | refine le_set ?_ | refine le_drew ?_ | refine below_step (by assumption) ?_ ?_ | refine le_below (by assumption) ?_) | (dsimp only; omega)))

set_option maxRecDepth 100000 in
set_option maxHeartbeats 4000000 in
theorem sh_f20 (b : Nat) (hb : Hid (b < 4294967296)) (kind rd rs1 rs2 rs3 rm csr size imm : Int) (ui un wo : Bool) (hdc : Hid (∀ v, Calls Try.prog 10 #[.int .u32 b] v (fun e w' => e = .returned (.agg #[.int .i64 kind, .int .i64 rd, .int .i64 rs1, .int .i64 rs2, .int .i64 rs3, .int .i64 rm, .int .i64 csr, .int .i64 size, .int .i64 imm, .bool ui, .bool un, .bool wo]) ∧ Below v.heap.size v w'))) (hk : kind = 20) (hu : ui = false) (w : World) : Calls Try.prog 8 #[.int .u32 b] w (RetB true w) := by
  subst hk hu
  go_enter Try.func8, Try.ntmps8
  go_wp2_with fail
  refine (awake_c _).mono ?_; rintro e w1 ⟨rfl, hb1⟩
  go_wp2_with fail
  refine (hdc.out _).mono ?_; rintro e w2 ⟨rfl, hb2⟩
  go_wp2_with fail
  go_ret
  exact retB_mk rfl (by repeat (first | (with_reducible first | exact Below.refl _ _ | assumption | exact Nat.le_refl _ | refine Below.drew ?_ | refine Below.alloc ?_ ?_ _ | refine Below.setCell ?_ ?_ _ | refine le_alloc ?_ | refine le_set ?_ | refine le_drew ?_ | refine below_step (by assumption) ?_ ?_ | refine le_below (by assumption) ?_) | (dsimp only; omega)))

set_option maxRecDepth 100000 in
set_option maxHeartbeats 4000000 in
theorem sh_fo (b : Nat) (hb : Hid (b < 4294967296)) (kind rd rs1 rs2 rs3 rm csr size imm : Int) (ui un wo : Bool) (hdc : Hid (∀ v, Calls Try.prog 10 #[.int .u32 b] v (fun e w' => e = .returned (.agg #[.int .i64 kind, .int .i64 rd, .int .i64 rs1, .int .i64 rs2, .int .i64 rs3, .int .i64 rm, .int .i64 csr, .int .i64 size, .int .i64 imm, .bool ui, .bool un, .bool wo]) ∧ Below v.heap.size v w'))) (hu : ui = false) (j1 : (kind == 15) = false) (j2 : (kind == 19) = false) (j3 : (kind == 20) = false) (w : World) : Calls Try.prog 8 #[.int .u32 b] w (RetB true w) := by
  subst hu
  go_enter Try.func8, Try.ntmps8
  go_wp2_with fail
  refine (awake_c _).mono ?_; rintro e w1 ⟨rfl, hb1⟩
  go_wp2_with fail
  refine (hdc.out _).mono ?_; rintro e w2 ⟨rfl, hb2⟩
  go_wp2_with fail
  go_ret
  exact retB_mk rfl (by repeat (first | (with_reducible first | exact Below.refl _ _ | assumption | exact Nat.le_refl _ | refine Below.drew ?_ | refine Below.alloc ?_ ?_ _ | refine Below.setCell ?_ ?_ _ | refine le_alloc ?_ | refine le_set ?_ | refine le_drew ?_ | refine below_step (by assumption) ?_ ?_ | refine le_below (by assumption) ?_) | (dsimp only; omega)))

set_option maxRecDepth 100000 in
set_option maxHeartbeats 4000000 in
theorem sh_t15true (b : Nat) (hb : Hid (b < 4294967296)) (kind rd rs1 rs2 rs3 rm csr size imm : Int) (ui un wo : Bool) (hdc : Hid (∀ v, Calls Try.prog 10 #[.int .u32 b] v (fun e w' => e = .returned (.agg #[.int .i64 kind, .int .i64 rd, .int .i64 rs1, .int .i64 rs2, .int .i64 rs3, .int .i64 rm, .int .i64 csr, .int .i64 size, .int .i64 imm, .bool ui, .bool un, .bool wo]) ∧ Below v.heap.size v w'))) (hk : kind = 15) (hu : ui = true) (hw : wo = true) (i1 : decide (imm < 0) = false) (i2 : decide (63 < imm) = false) (i3 : decide (31 < imm) = false) (n : Nat) (henc : Hid (∀ v, Calls Try.prog 12 #[.agg #[.int .i64 kind, .int .i64 rd, .int .i64 rs1, .int .i64 0, .int .i64 0, .int .i64 0, .int .i64 0, .int .i64 0, .int .i64 0, .bool false, .bool false, .bool wo]] v (RetA n true v))) (q1 : (bits .and .u32 (n : Int) 127 == bits .or .u32 (bits .and .u32 (b : Int) 127) 32) = true) (q2 : (bits .and .u32 (n : Int) 1044480 == bits .and .u32 (b : Int) 1044480) = true) (w : World) : Calls Try.prog 8 #[.int .u32 b] w (RetB true w) := by
  subst hk hu hw
  go_enter Try.func8, Try.ntmps8
  go_wp2_with fail
  refine (awake_c _).mono ?_; rintro e w1 ⟨rfl, hb1⟩
  go_wp2_with fail
  refine (hdc.out _).mono ?_; rintro e w2 ⟨rfl, hb2⟩
  go_wp2_with fail
  refine (henc.out _).mono ?_; rintro e w3 ⟨rfl, hb3⟩
  go_wp2_with fail
  go_ret
  exact retB_mk rfl (by repeat (first | (with_reducible first | exact Below.refl _ _ | assumption | exact Nat.le_refl _ | refine Below.drew ?_ | refine Below.alloc ?_ ?_ _ | refine Below.setCell ?_ ?_ _ | refine le_alloc ?_ | refine le_set ?_ | refine le_drew ?_ | refine below_step (by assumption) ?_ ?_ | refine le_below (by assumption) ?_) | (dsimp only; omega)))

set_option maxRecDepth 100000 in
set_option maxHeartbeats 4000000 in
theorem sh_t15false (b : Nat) (hb : Hid (b < 4294967296)) (kind rd rs1 rs2 rs3 rm csr size imm : Int) (ui un wo : Bool) (hdc : Hid (∀ v, Calls Try.prog 10 #[.int .u32 b] v (fun e w' => e = .returned (.agg #[.int .i64 kind, .int .i64 rd, .int .i64 rs1, .int .i64 rs2, .int .i64 rs3, .int .i64 rm, .int .i64 csr, .int .i64 size, .int .i64 imm, .bool ui, .bool un, .bool wo]) ∧ Below v.heap.size v w'))) (hk : kind = 15) (hu : ui = true) (hw : wo = false) (i1 : decide (imm < 0) = false) (i2 : decide (63 < imm) = false)  (n : Nat) (henc : Hid (∀ v, Calls Try.prog 12 #[.agg #[.int .i64 kind, .int .i64 rd, .int .i64 rs1, .int .i64 0, .int .i64 0, .int .i64 0, .int .i64 0, .int .i64 0, .int .i64 0, .bool false, .bool false, .bool wo]] v (RetA n true v))) (q1 : (bits .and .u32 (n : Int) 127 == bits .or .u32 (bits .and .u32 (b : Int) 127) 32) = true) (q2 : (bits .and .u32 (n : Int) 1044480 == bits .and .u32 (b : Int) 1044480) = true) (w : World) : Calls Try.prog 8 #[.int .u32 b] w (RetB true w) := by
  subst hk hu hw
  go_enter Try.func8, Try.ntmps8
  go_wp2_with fail
  refine (awake_c _).mono ?_; rintro e w1 ⟨rfl, hb1⟩
  go_wp2_with fail
  refine (hdc.out _).mono ?_; rintro e w2 ⟨rfl, hb2⟩
  go_wp2_with fail
  refine (henc.out _).mono ?_; rintro e w3 ⟨rfl, hb3⟩
  go_wp2_with fail
  go_ret
  exact retB_mk rfl (by repeat (first | (with_reducible first | exact Below.refl _ _ | assumption | exact Nat.le_refl _ | refine Below.drew ?_ | refine Below.alloc ?_ ?_ _ | refine Below.setCell ?_ ?_ _ | refine le_alloc ?_ | refine le_set ?_ | refine le_drew ?_ | refine below_step (by assumption) ?_ ?_ | refine le_below (by assumption) ?_) | (dsimp only; omega)))

set_option maxRecDepth 100000 in
set_option maxHeartbeats 4000000 in
theorem sh_t19true (b : Nat) (hb : Hid (b < 4294967296)) (kind rd rs1 rs2 rs3 rm csr size imm : Int) (ui un wo : Bool) (hdc : Hid (∀ v, Calls Try.prog 10 #[.int .u32 b] v (fun e w' => e = .returned (.agg #[.int .i64 kind, .int .i64 rd, .int .i64 rs1, .int .i64 rs2, .int .i64 rs3, .int .i64 rm, .int .i64 csr, .int .i64 size, .int .i64 imm, .bool ui, .bool un, .bool wo]) ∧ Below v.heap.size v w'))) (hk : kind = 19) (hu : ui = true) (hw : wo = true) (i1 : decide (imm < 0) = false) (i2 : decide (63 < imm) = false) (i3 : decide (31 < imm) = false) (n : Nat) (henc : Hid (∀ v, Calls Try.prog 12 #[.agg #[.int .i64 kind, .int .i64 rd, .int .i64 rs1, .int .i64 0, .int .i64 0, .int .i64 0, .int .i64 0, .int .i64 0, .int .i64 0, .bool false, .bool false, .bool wo]] v (RetA n true v))) (q1 : (bits .and .u32 (n : Int) 127 == bits .or .u32 (bits .and .u32 (b : Int) 127) 32) = true) (q2 : (bits .and .u32 (n : Int) 1044480 == bits .and .u32 (b : Int) 1044480) = true) (w : World) : Calls Try.prog 8 #[.int .u32 b] w (RetB true w) := by
  subst hk hu hw
  go_enter Try.func8, Try.ntmps8
  go_wp2_with fail
  refine (awake_c _).mono ?_; rintro e w1 ⟨rfl, hb1⟩
  go_wp2_with fail
  refine (hdc.out _).mono ?_; rintro e w2 ⟨rfl, hb2⟩
  go_wp2_with fail
  refine (henc.out _).mono ?_; rintro e w3 ⟨rfl, hb3⟩
  go_wp2_with fail
  go_ret
  exact retB_mk rfl (by repeat (first | (with_reducible first | exact Below.refl _ _ | assumption | exact Nat.le_refl _ | refine Below.drew ?_ | refine Below.alloc ?_ ?_ _ | refine Below.setCell ?_ ?_ _ | refine le_alloc ?_ | refine le_set ?_ | refine le_drew ?_ | refine below_step (by assumption) ?_ ?_ | refine le_below (by assumption) ?_) | (dsimp only; omega)))

set_option maxRecDepth 100000 in
set_option maxHeartbeats 4000000 in
theorem sh_t19false (b : Nat) (hb : Hid (b < 4294967296)) (kind rd rs1 rs2 rs3 rm csr size imm : Int) (ui un wo : Bool) (hdc : Hid (∀ v, Calls Try.prog 10 #[.int .u32 b] v (fun e w' => e = .returned (.agg #[.int .i64 kind, .int .i64 rd, .int .i64 rs1, .int .i64 rs2, .int .i64 rs3, .int .i64 rm, .int .i64 csr, .int .i64 size, .int .i64 imm, .bool ui, .bool un, .bool wo]) ∧ Below v.heap.size v w'))) (hk : kind = 19) (hu : ui = true) (hw : wo = false) (i1 : decide (imm < 0) = false) (i2 : decide (63 < imm) = false)  (n : Nat) (henc : Hid (∀ v, Calls Try.prog 12 #[.agg #[.int .i64 kind, .int .i64 rd, .int .i64 rs1, .int .i64 0, .int .i64 0, .int .i64 0, .int .i64 0, .int .i64 0, .int .i64 0, .bool false, .bool false, .bool wo]] v (RetA n true v))) (q1 : (bits .and .u32 (n : Int) 127 == bits .or .u32 (bits .and .u32 (b : Int) 127) 32) = true) (q2 : (bits .and .u32 (n : Int) 1044480 == bits .and .u32 (b : Int) 1044480) = true) (w : World) : Calls Try.prog 8 #[.int .u32 b] w (RetB true w) := by
  subst hk hu hw
  go_enter Try.func8, Try.ntmps8
  go_wp2_with fail
  refine (awake_c _).mono ?_; rintro e w1 ⟨rfl, hb1⟩
  go_wp2_with fail
  refine (hdc.out _).mono ?_; rintro e w2 ⟨rfl, hb2⟩
  go_wp2_with fail
  refine (henc.out _).mono ?_; rintro e w3 ⟨rfl, hb3⟩
  go_wp2_with fail
  go_ret
  exact retB_mk rfl (by repeat (first | (with_reducible first | exact Below.refl _ _ | assumption | exact Nat.le_refl _ | refine Below.drew ?_ | refine Below.alloc ?_ ?_ _ | refine Below.setCell ?_ ?_ _ | refine le_alloc ?_ | refine le_set ?_ | refine le_drew ?_ | refine below_step (by assumption) ?_ ?_ | refine le_below (by assumption) ?_) | (dsimp only; omega)))

set_option maxRecDepth 100000 in
set_option maxHeartbeats 4000000 in
theorem sh_t20true (b : Nat) (hb : Hid (b < 4294967296)) (kind rd rs1 rs2 rs3 rm csr size imm : Int) (ui un wo : Bool) (hdc : Hid (∀ v, Calls Try.prog 10 #[.int .u32 b] v (fun e w' => e = .returned (.agg #[.int .i64 kind, .int .i64 rd, .int .i64 rs1, .int .i64 rs2, .int .i64 rs3, .int .i64 rm, .int .i64 csr, .int .i64 size, .int .i64 imm, .bool ui, .bool un, .bool wo]) ∧ Below v.heap.size v w'))) (hk : kind = 20) (hu : ui = true) (hw : wo = true) (i1 : decide (imm < 0) = false) (i2 : decide (63 < imm) = false) (i3 : decide (31 < imm) = false) (n : Nat) (henc : Hid (∀ v, Calls Try.prog 12 #[.agg #[.int .i64 kind, .int .i64 rd, .int .i64 rs1, .int .i64 0, .int .i64 0, .int .i64 0, .int .i64 0, .int .i64 0, .int .i64 0, .bool false, .bool false, .bool wo]] v (RetA n true v))) (q1 : (bits .and .u32 (n : Int) 127 == bits .or .u32 (bits .and .u32 (b : Int) 127) 32) = true) (q2 : (bits .and .u32 (n : Int) 1044480 == bits .and .u32 (b : Int) 1044480) = true) (w : World) : Calls Try.prog 8 #[.int .u32 b] w (RetB true w) := by
  subst hk hu hw
  go_enter Try.func8, Try.ntmps8
  go_wp2_with fail
  refine (awake_c _).mono ?_; rintro e w1 ⟨rfl, hb1⟩
  go_wp2_with fail
  refine (hdc.out _).mono ?_; rintro e w2 ⟨rfl, hb2⟩
  go_wp2_with fail
  refine (henc.out _).mono ?_; rintro e w3 ⟨rfl, hb3⟩
  go_wp2_with fail
  go_ret
  exact retB_mk rfl (by repeat (first | (with_reducible first | exact Below.refl _ _ | assumption | exact Nat.le_refl _ | refine Below.drew ?_ | refine Below.alloc ?_ ?_ _ | refine Below.setCell ?_ ?_ _ | refine le_alloc ?_ | refine le_set ?_ | refine le_drew ?_ | refine below_step (by assumption) ?_ ?_ | refine le_below (by assumption) ?_) | (dsimp only; omega)))

set_option maxRecDepth 100000 in
set_option maxHeartbeats 4000000 in
theorem sh_t20false (b : Nat) (hb : Hid (b < 4294967296)) (kind rd rs1 rs2 rs3 rm csr size imm : Int) (ui un wo : Bool) (hdc : Hid (∀ v, Calls Try.prog 10 #[.int .u32 b] v (fun e w' => e = .returned (.agg #[.int .i64 kind, .int .i64 rd, .int .i64 rs1, .int .i64 rs2, .int .i64 rs3, .int .i64 rm, .int .i64 csr, .int .i64 size, .int .i64 imm, .bool ui, .bool un, .bool wo]) ∧ Below v.heap.size v w'))) (hk : kind = 20) (hu : ui = true) (hw : wo = false) (i1 : decide (imm < 0) = false) (i2 : decide (63 < imm) = false)  (n : Nat) (henc : Hid (∀ v, Calls Try.prog 12 #[.agg #[.int .i64 kind, .int .i64 rd, .int .i64 rs1, .int .i64 0, .int .i64 0, .int .i64 0, .int .i64 0, .int .i64 0, .int .i64 0, .bool false, .bool false, .bool wo]] v (RetA n true v))) (q1 : (bits .and .u32 (n : Int) 127 == bits .or .u32 (bits .and .u32 (b : Int) 127) 32) = true) (q2 : (bits .and .u32 (n : Int) 1044480 == bits .and .u32 (b : Int) 1044480) = true) (w : World) : Calls Try.prog 8 #[.int .u32 b] w (RetB true w) := by
  subst hk hu hw
  go_enter Try.func8, Try.ntmps8
  go_wp2_with fail
  refine (awake_c _).mono ?_; rintro e w1 ⟨rfl, hb1⟩
  go_wp2_with fail
  refine (hdc.out _).mono ?_; rintro e w2 ⟨rfl, hb2⟩
  go_wp2_with fail
  refine (henc.out _).mono ?_; rintro e w3 ⟨rfl, hb3⟩
  go_wp2_with fail
  go_ret
  exact retB_mk rfl (by repeat (first | (with_reducible first | exact Below.refl _ _ | assumption | exact Nat.le_refl _ | refine Below.drew ?_ | refine Below.alloc ?_ ?_ _ | refine Below.setCell ?_ ?_ _ | refine le_alloc ?_ | refine le_set ?_ | refine le_drew ?_ | refine below_step (by assumption) ?_ ?_ | refine le_below (by assumption) ?_) | (dsimp only; omega)))

set_option maxRecDepth 100000 in
set_option maxHeartbeats 4000000 in
theorem sh_to (b : Nat) (hb : Hid (b < 4294967296)) (kind rd rs1 rs2 rs3 rm csr size imm : Int) (ui un wo : Bool) (hdc : Hid (∀ v, Calls Try.prog 10 #[.int .u32 b] v (fun e w' => e = .returned (.agg #[.int .i64 kind, .int .i64 rd, .int .i64 rs1, .int .i64 rs2, .int .i64 rs3, .int .i64 rm, .int .i64 csr, .int .i64 size, .int .i64 imm, .bool ui, .bool un, .bool wo]) ∧ Below v.heap.size v w'))) (hu : ui = true) (j1 : (kind == 15) = false) (j2 : (kind == 19) = false) (j3 : (kind == 20) = false) (d1 : decide (13 ≤ kind) = true) (d2 : decide (kind ≤ 22) = true) (n : Nat) (henc : Hid (∀ v, Calls Try.prog 12 #[.agg #[.int .i64 kind, .int .i64 rd, .int .i64 rs1, .int .i64 0, .int .i64 0, .int .i64 0, .int .i64 0, .int .i64 0, .int .i64 0, .bool false, .bool false, .bool wo]] v (RetA n true v))) (q1 : (bits .and .u32 (n : Int) 127 == bits .or .u32 (bits .and .u32 (b : Int) 127) 32) = true) (q2 : (bits .and .u32 (n : Int) 1044480 == bits .and .u32 (b : Int) 1044480) = true) (w : World) : Calls Try.prog 8 #[.int .u32 b] w (RetB true w) := by
  subst hu
  go_enter Try.func8, Try.ntmps8
  go_wp2_with fail
  refine (awake_c _).mono ?_; rintro e w1 ⟨rfl, hb1⟩
  go_wp2_with fail
  refine (hdc.out _).mono ?_; rintro e w2 ⟨rfl, hb2⟩
  go_wp2_with fail
  refine (henc.out _).mono ?_; rintro e w3 ⟨rfl, hb3⟩
  go_wp2_with fail
  go_ret
  exact retB_mk rfl (by repeat (first | (with_reducible first | exact Below.refl _ _ | assumption | exact Nat.le_refl _ | refine Below.drew ?_ | refine Below.alloc ?_ ?_ _ | refine Below.setCell ?_ ?_ _ | refine le_alloc ?_ | refine le_set ?_ | refine le_drew ?_ | refine below_step (by assumption) ?_ ?_ | refine le_below (by assumption) ?_) | (dsimp only; omega)))

set_option maxRecDepth 100000 in
set_option maxHeartbeats 4000000 in
theorem sh_tc (b : Nat) (hb : Hid (b < 4294967296)) (kind rd rs1 rs2 rs3 rm csr size imm : Int) (ui un wo : Bool) (hdc : Hid (∀ v, Calls Try.prog 10 #[.int .u32 b] v (fun e w' => e = .returned (.agg #[.int .i64 kind, .int .i64 rd, .int .i64 rs1, .int .i64 rs2, .int .i64 rs3, .int .i64 rm, .int .i64 csr, .int .i64 size, .int .i64 imm, .bool ui, .bool un, .bool wo]) ∧ Below v.heap.size v w'))) (hu : ui = true) (j1 : (kind == 15) = false) (j2 : (kind == 19) = false) (j3 : (kind == 20) = false) (d1 : decide (13 ≤ kind) = true) (d2 : decide (kind ≤ 22) = false) (d3 : decide (35 ≤ kind) = true) (d4 : decide (kind ≤ 37) = true) (w : World) : Calls Try.prog 8 #[.int .u32 b] w (RetB true w) := by
  subst hu
  go_enter Try.func8, Try.ntmps8
  go_wp2_with fail
  refine (awake_c _).mono ?_; rintro e w1 ⟨rfl, hb1⟩
  go_wp2_with fail
  refine (hdc.out _).mono ?_; rintro e w2 ⟨rfl, hb2⟩
  go_wp2_with fail
  go_ret
  exact retB_mk rfl (by repeat (first | (with_reducible first | exact Below.refl _ _ | assumption | exact Nat.le_refl _ | refine Below.drew ?_ | refine Below.alloc ?_ ?_ _ | refine Below.setCell ?_ ?_ _ | refine le_alloc ?_ | refine le_set ?_ | refine le_drew ?_ | refine below_step (by assumption) ?_ ?_ | refine le_below (by assumption) ?_) | (dsimp only; omega)))

theorem decodeShifts_walk (a0 : Int) (w0 : (Lit.int .u32 a0).wf = true) (w : World) : Calls Try.prog 8 #[.int .u32 a0] w (RetB true w) := by
  obtain ⟨b, rfl, hb⟩ := u32_of_wf w0
  have s1 := shifts1 hb.out
  have s2 := shifts2 hb.out
  have s3 := shifts3 (b := b)
  have hd := Lib.hid (fun v => Decode_c b hb v)
  generalize decF b = I at *
  obtain ⟨kind, rd, rs1, rs2, rs3, rm, csr, size, imm, ui, un, wo⟩ := I
  dsimp only at s1 s2 s3
  have hd2 : Hid (∀ v, Calls Try.prog 10 #[.int .u32 b] v (fun e w' => e = .returned (.agg #[.int .i64 kind, .int .i64 rd, .int .i64 rs1, .int .i64 rs2, .int .i64 rs3, .int .i64 rm, .int .i64 csr, .int .i64 size, .int .i64 imm, .bool ui, .bool un, .bool wo]) ∧ Below v.heap.size v w')) := hd.out
  by_cases k15 : kind = 15 ∨ kind = 19 ∨ kind = 20
  · cases hu : ui with
    | false =>
      rcases k15 with h | h | h
      · exact sh_f15 b hb kind rd rs1 rs2 rs3 rm csr size imm ui un wo hd2 h hu w
      · exact sh_f19 b hb kind rd rs1 rs2 rs3 rm csr size imm ui un wo hd2 h hu w
      · exact sh_f20 b hb kind rd rs1 rs2 rs3 rm csr size imm ui un wo hd2 h hu w
    | true =>
      have hi := s1 k15 hu
      obtain ⟨n, n1, n2, n3, n4⟩ := s2 hu (by omega)
      have i1 : decide (imm < 0) = false := decide_eq_false (by omega)
      have i2 : decide (63 < imm) = false := decide_eq_false (by omega)
      have henc : Hid (∀ v, Calls Try.prog 12 #[.agg #[.int .i64 kind, .int .i64 rd, .int .i64 rs1, .int .i64 0, .int .i64 0, .int .i64 0, .int .i64 0, .int .i64 0, .int .i64 0, .bool false, .bool false, .bool wo]] v (RetA n true v)) := fun v => by
        have h := Encode_c ⟨kind, rd, rs1, 0, 0, 0, 0, 0, 0, false, false, wo⟩ v
        rw [show encN ⟨kind, rd, rs1, 0, 0, 0, 0, 0, 0, false, false, wo⟩ = n by unfold encN; rw [n1]; rfl, show encB ⟨kind, rd, rs1, 0, 0, 0, 0, 0, 0, false, false, wo⟩ = true by unfold encB; rw [n1]; rfl] at h
        exact h
      have q1 := eq_127 b n hb.out n2 n3
      have q2 := eq_ff b n hb.out n2 n4
      cases hw : wo with
      | true =>
        have i3 : decide (31 < imm) = false := decide_eq_false (by have := hi.2.2 hw; omega)
        rcases k15 with h | h | h
        · exact sh_t15true b hb kind rd rs1 rs2 rs3 rm csr size imm ui un wo hd2 h hu hw i1 i2 i3 n henc q1 q2 w
        · exact sh_t19true b hb kind rd rs1 rs2 rs3 rm csr size imm ui un wo hd2 h hu hw i1 i2 i3 n henc q1 q2 w
        · exact sh_t20true b hb kind rd rs1 rs2 rs3 rm csr size imm ui un wo hd2 h hu hw i1 i2 i3 n henc q1 q2 w
      | false =>
        rcases k15 with h | h | h
        · exact sh_t15false b hb kind rd rs1 rs2 rs3 rm csr size imm ui un wo hd2 h hu hw i1 i2 n henc q1 q2 w
        · exact sh_t19false b hb kind rd rs1 rs2 rs3 rm csr size imm ui un wo hd2 h hu hw i1 i2 n henc q1 q2 w
        · exact sh_t20false b hb kind rd rs1 rs2 rs3 rm csr size imm ui un wo hd2 h hu hw i1 i2 n henc q1 q2 w
  · have j1 : (kind == 15) = false := by rw [beq_eq_false_iff_ne]; omega
    have j2 : (kind == 19) = false := by rw [beq_eq_false_iff_ne]; omega
    have j3 : (kind == 20) = false := by rw [beq_eq_false_iff_ne]; omega
    cases hu : ui with
    | false => exact sh_fo b hb kind rd rs1 rs2 rs3 rm csr size imm ui un wo hd2 hu j1 j2 j3 w
    | true =>
      rcases s3 hu with hk | hk
      · obtain ⟨n, n1, n2, n3, n4⟩ := s2 hu (by omega)
        have henc : Hid (∀ v, Calls Try.prog 12 #[.agg #[.int .i64 kind, .int .i64 rd, .int .i64 rs1, .int .i64 0, .int .i64 0, .int .i64 0, .int .i64 0, .int .i64 0, .int .i64 0, .bool false, .bool false, .bool wo]] v (RetA n true v)) := fun v => by
          have h := Encode_c ⟨kind, rd, rs1, 0, 0, 0, 0, 0, 0, false, false, wo⟩ v
          rw [show encN ⟨kind, rd, rs1, 0, 0, 0, 0, 0, 0, false, false, wo⟩ = n by unfold encN; rw [n1]; rfl, show encB ⟨kind, rd, rs1, 0, 0, 0, 0, 0, 0, false, false, wo⟩ = true by unfold encB; rw [n1]; rfl] at h
          exact h
        exact sh_to b hb kind rd rs1 rs2 rs3 rm csr size imm ui un wo hd2 hu j1 j2 j3 (decide_eq_true hk.1) (decide_eq_true hk.2) n henc (eq_127 b n hb.out n2 n3) (eq_ff b n hb.out n2 n4) w
      · exact sh_tc b hb kind rd rs1 rs2 rs3 rm csr size imm ui un wo hd2 hu j1 j2 j3 (decide_eq_true (by omega)) (decide_eq_false (by omega)) (decide_eq_true hk.1) (decide_eq_true hk.2) w
end Go.Proofs.Ytmpkhflngpncnaa
namespace Go.Proofs.Ytmpkhflngpncnaa.decodeShifts
open Go.ChangeShapes Go.WideShapes Go.ChangeAt Go.RowKit
set_option linter.unusedVariables false
theorem own : ownKnob Try.prog.godebug = none := by kernel_rfl
set_option maxRecDepth 100000 in
theorem lifted (os : Os) (started : os.Started) (H : Type) (enc : TypeId × Value → H) :
    ReturnsInHanded {} Try.checked os 8 .any (Rows.decodeShiftsSpec.pre6 enc Try.prog Try.f8 Rows.decodeShiftsRow.domain false) (Rows.decodeShiftsSpec.post enc Try.prog Try.f8 false true false false) := by
  refine returnsInHanded_of_change (C := Try.checked) own started (by kernel_rfl) Try.func8
    (ChangeSpec.witness6 (enc := enc) (C := Try.checked) false ⟨#[], #[.int .u32 0], []⟩ 8 (by kernel_rfl) (by kernel_rfl) (by kernel_rfl) (by kernel_rfl)) ?_
  intro W base args ds gs before hval0 hW hcnd _
  have hval : ∀ (j : Nat) t v, Try.f8.params[j]? = some t → args[j]? = some v → Value.okWide Try.prog W .any base t v := hval0
  have hW' := hW
  obtain ⟨p, q, hA0, hV, rfl, hfz, hnd⟩ := hW
  have hA : DataW.TrodAll enc Try.prog W 0 (fun _ => true) true Try.f8.params.toList args.toList ds p := hA0
  rw [Try.params8] at hA hval
  obtain ⟨v0, vs0, d0, ds0, p0, q0, hargs, rfl, rfl, h0, r0⟩ := trodAll_cons hA
  obtain ⟨rfl, rfl, rfl⟩ := trodAll_nil r0
  obtain rfl : args = #[v0] := by cases args; simp_all
  obtain ⟨rfl, rfl⟩ := trodVars_none hV
  obtain ⟨a0, rfl, rfl, rfl, w0⟩ := open_int Try.underlying22 (hval 0 22 v0 rfl rfl) h0
  clear hA0 hval0
  simp only [List.append_nil] at hW'
  refine (decodeShifts_walk a0 w0 W).mono fun e W' ⟨he, hg⟩ => ?_
  subst he
  exact ⟨_, rfl, post_nums hW' (fun _ _ _ => (trodAll_cons_mk (shut_bool Try.underlying4 _) trodAll_mk0)) (fun sp => (trodAll_cons_mk (shut_int Try.underlying22 w0) trodAll_mk0)) (fun _ => rfl) hg (ok_one (by kernel_rfl) rfl (okWide_bool_mk Try.underlying4 _))⟩
theorem over : Rows.decodeShiftsRow.holds Try.pinned (OpenSpec.ofChange Rows.decodeShiftsSpec) :=
  OpenClaim.holds_of_wide 8 Try.f8 rfl rfl rfl rfl rfl rfl rfl ⟨rfl, rfl, rfl, rfl, rfl⟩ rfl rfl rfl rfl rfl (by kernel_rfl) Try.func8 (by kernel_rfl)
    (of_decide_eq_true (by kernel_rfl)) (by unfold Func.isWrapper; first | (rw [if_pos (by decide +kernel)]; kernel_rfl) | (rw [if_neg (by decide +kernel)]; exact ⟨rfl, rfl⟩))
    (fun os started H enc _ => lifted os started H enc)
theorem proved : Rows.DecodeShiftsSaid := over
#print axioms proved
end Go.Proofs.Ytmpkhflngpncnaa.decodeShifts

