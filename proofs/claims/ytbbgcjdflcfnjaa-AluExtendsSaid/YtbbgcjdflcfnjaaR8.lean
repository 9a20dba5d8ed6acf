/- The document's own answers: Do. -/
import Derived.Test.YtbbgcjdflcfnjaaR7
namespace Go.Proofs.Ytbbgcjdflcfnjaa
open Go.ChangeShapes Go.WideShapes Go.ChangeAt Go.RowKit
set_option linter.unusedVariables false
set_option linter.unusedSimpArgs false
theorem xor_nat (a b : Nat) (ha : a < 18446744073709551616) (hb : b < 18446744073709551616) : (a &&& (18446744073709551615 - b)) ||| (b &&& (18446744073709551615 - a)) = a ^^^ b := by
  have h64 : (18446744073709551616 : Nat) = 2 ^ 64 := by decide
  rw [show 18446744073709551615 - b = 2 ^ 64 - (b + 1) by omega, show 18446744073709551615 - a = 2 ^ 64 - (a + 1) by omega]
  rw [h64] at ha hb
  apply Nat.eq_of_testBit_eq
  intro i
  rw [Nat.testBit_or, Nat.testBit_and, Nat.testBit_and, Nat.testBit_xor, Nat.testBit_two_pow_sub_succ ha, Nat.testBit_two_pow_sub_succ hb]
  by_cases hi : i < 64
  · simp only [hi, decide_true, Bool.true_and]; cases a.testBit i <;> cases b.testBit i <;> rfl
  · have h1 : a.testBit i = false := Nat.testBit_lt_two_pow (Nat.lt_of_lt_of_le ha (Nat.pow_le_pow_right (by decide) (by omega)))
    have h2 : b.testBit i = false := Nat.testBit_lt_two_pow (Nat.lt_of_lt_of_le hb (Nat.pow_le_pow_right (by decide) (by omega)))
    simp [h1, h2]
/-- Bit by bit, as the document's own answer does it. -/
theorem xor_forms (a b : Nat) (ha : a < 18446744073709551616) (hb : b < 18446744073709551616) : ∃ x y : Nat, bits .andNot .u64 (a : Int) (b : Int) = (x : Int) ∧ bits .andNot .u64 (b : Int) (a : Int) = (y : Int) ∧ bits .or .u64 (x : Int) (y : Int) = ((a ^^^ b : Nat) : Int) := by
  refine ⟨a &&& (18446744073709551615 - b), b &&& (18446744073709551615 - a), u64_andNot_nat a b ha hb, u64_andNot_nat b a hb ha, ?_⟩
  rw [bits_or_u64_nat _ _ (Nat.lt_of_le_of_lt Nat.and_le_left ha) (Nat.lt_of_le_of_lt Nat.and_le_left hb), xor_nat a b ha hb]
theorem wide_eq (wd half n : Nat) (d : Wd wd half) (hn : n < 2 * half) : wideV wd n = uns H64 (sgn half n) := by
  have hn' : n < 2 ^ wd := by rw [← d.hh]; exact hn
  have hN := d.le
  rw [← d.hh] at hN
  unfold wideV
  rw [Nat.mod_eq_of_lt hn', high_eq d.h1 d.hh hn', ← d.hh]
  unfold sgn uns H64
  by_cases h : half ≤ n
  · rw [if_pos (decide_eq_true h), if_neg (by omega)]; omega
  · rw [if_neg (by simp [h]), if_pos (by omega)]; omega
theorem below_eq (wd half a b : Nat) (d : Wd wd half) (ha : a < 2 * half) (hb : b < 2 * half) : belowV wd a b true = decide (sgn half a < sgn half b) := by
  have ha' : a < 2 ^ wd := by rw [← d.hh]; exact ha
  have hb' : b < 2 ^ wd := by rw [← d.hh]; exact hb
  unfold belowV
  rw [high_eq d.h1 d.hh ha', high_eq d.h1 d.hh hb']
  unfold sgn
  by_cases h1 : half ≤ a <;> by_cases h2 : half ≤ b <;> simp [h1, h2] <;> (try split) <;> (try split) <;> omega
set_option maxRecDepth 100000 in
set_option maxHeartbeats 1000000 in
theorem doR_word (k : Int) (a b : Nat) (ha : Hid (a < 18446744073709551616)) (hb : Hid (b < 18446744073709551616)) (w : World) : Calls Try.prog 12 #[.int .i64 k, .bool true, .int .u64 a, .int .u64 b] w (RetO .u64 (doV k true a b) w) := by
  have hv : Hid (doV k true a b = (bothV 32 H32 k (a % 4294967296) (b % 4294967296)).map wide32) := rfl
  have hl := Lib.hid (fun n => bothV_lt (wd := 32) (half := H32) (k := k) (a := a % 4294967296) (b := b % 4294967296) (n := n) (by decide) (Nat.mod_lt _ (by decide)))
  have hA : Hid (∀ w, Calls Try.prog 25 #[.int .u64 a, .int .i64 32] w (RetV .u64 ((a % 4294967296 : Nat) : Int) w)) := fun w => low_c a 32 ha (by decide) w
  have hB : Hid (∀ w, Calls Try.prog 25 #[.int .u64 b, .int .i64 32] w (RetV .u64 ((b % 4294967296 : Nat) : Int) w)) := fun w => low_c b 32 hb (by decide) w
  have hC : Hid (∀ w, Calls Try.prog 24 #[.int .i64 k, .int .u64 (a % 4294967296 : Nat), .int .u64 (b % 4294967296 : Nat), .int .i64 32] w (RetO .u64 (bothV 32 H32 k (a % 4294967296) (b % 4294967296)) w)) :=
    fun w => common_c k (a % 4294967296) (b % 4294967296) 32 H32 wd32 (Nat.mod_lt _ (by decide)) (Nat.mod_lt _ (by decide)) w
  generalize a % 4294967296 = a1 at *
  generalize b % 4294967296 = b1 at *
  obtain ⟨o, ho⟩ : ∃ o, o = bothV 32 H32 k a1 b1 := ⟨_, rfl⟩
  rw [← ho] at hC hv hl
  clear ho
  cases o with
  | none =>
    go_enter Try.func12, Try.ntmps12
    go_wp2_with fail
    refine (hA.out _).mono ?_; rintro e w1 ⟨rfl, hb1⟩
    go_wp2_with fail
    refine (hB.out _).mono ?_; rintro e w2 ⟨rfl, hb2⟩
    go_wp2_with fail
    refine (hC.out _).mono ?_; rintro e w3 h; obtain ⟨rfl, hb3⟩ := retO_none h
    go_wp2_with fail
    go_ret2
    exact retO_no hv.out rfl rfl (by repeat (first | (with_reducible first | exact Below.refl _ _ | assumption | exact Nat.le_refl _ | refine Below.drew ?_ | refine Below.alloc ?_ ?_ _ | refine below_drewN ?_ _ | refine Below.setCell ?_ ?_ _ | refine le_alloc ?_ | refine le_set ?_ | refine le_drew ?_ | refine le_drewN ?_ | refine below_step (by assumption) ?_ ?_ | refine le_below (by assumption) ?_) | (dsimp only; omega)))
  | some n =>
    have hn := hl.out n rfl
    have hW : Hid (∀ w, Calls Try.prog 26 #[.int .u64 n, .int .i64 32] w (RetV .u64 ((wide32 n : Nat) : Int) w)) := by
      show ∀ w, _
      have e : wideV 32 n = wide32 n := wide_eq 32 H32 n wd32 hn
      rw [← e]; exact fun w => wide_c n 32 (Nat.lt_of_lt_of_le hn (by decide)) (by decide) (by decide) w
    clear hn
    go_enter Try.func12, Try.ntmps12
    go_wp2_with fail
    refine (hA.out _).mono ?_; rintro e w1 ⟨rfl, hb1⟩
    go_wp2_with fail
    refine (hB.out _).mono ?_; rintro e w2 ⟨rfl, hb2⟩
    go_wp2_with fail
    refine (hC.out _).mono ?_; rintro e w3 h; obtain ⟨rfl, hb3⟩ := retO_some h
    go_wp2_with fail
    refine (hW.out _).mono ?_; rintro e w4 ⟨rfl, hb4⟩
    go_wp2_with fail
    go_ret2
    exact retO_mk _ hv.out rfl rfl (by repeat (first | (with_reducible first | exact Below.refl _ _ | assumption | exact Nat.le_refl _ | refine Below.drew ?_ | refine Below.alloc ?_ ?_ _ | refine below_drewN ?_ _ | refine Below.setCell ?_ ?_ _ | refine le_alloc ?_ | refine le_set ?_ | refine le_drew ?_ | refine le_drewN ?_ | refine below_step (by assumption) ?_ ?_ | refine le_below (by assumption) ?_) | (dsimp only; omega)))
set_option maxRecDepth 100000 in
set_option maxHeartbeats 1000000 in
theorem doR_16 (a b : Nat) (ha : Hid (a < 18446744073709551616)) (hb : Hid (b < 18446744073709551616)) (w : World) : Calls Try.prog 12 #[.int .i64 16, .bool false, .int .u64 a, .int .u64 b] w (RetO .u64 (doV 16 false a b) w) := by
  have hP := Lib.hid (fun w => product_c a b ha hb w)
  have hD : Hid (∀ w, Calls Try.prog 28 #[.int .u64 a, .int .u64 b, .int .i64 64, .bool true] w (RetB (decide (sgn H64 a < sgn H64 b)) w)) := by
    show ∀ w, _
    rw [← below_eq 64 H64 a b wd64 ha.out hb.out]; exact fun w => below_c a b 64 true ha hb (by decide) (by decide) w
  have hv : Hid (doV 16 false a b = some (if sgn H64 a < sgn H64 b then 1 else 0)) := rfl
  generalize a * b / 18446744073709551616 = hi at *
  generalize a * b % 18446744073709551616 = lo at *
  by_cases hl : sgn H64 a < sgn H64 b
  · rw [decide_eq_true hl] at hD
    rw [if_pos hl] at hv
    clear hl
    go_enter Try.func12, Try.ntmps12
    go_wp2_with fail
    refine (hP.out _).mono ?_; rintro e w1 ⟨rfl, hb1⟩
    go_wp2_with fail
    refine (hD.out _).mono ?_; rintro e w2 ⟨rfl, hb2⟩
    go_wp2_with fail
    go_ret2
    exact retO_mk _ hv.out rfl rfl (by repeat (first | (with_reducible first | exact Below.refl _ _ | assumption | exact Nat.le_refl _ | refine Below.drew ?_ | refine Below.alloc ?_ ?_ _ | refine below_drewN ?_ _ | refine Below.setCell ?_ ?_ _ | refine le_alloc ?_ | refine le_set ?_ | refine le_drew ?_ | refine le_drewN ?_ | refine below_step (by assumption) ?_ ?_ | refine le_below (by assumption) ?_) | (dsimp only; omega)))
  · rw [decide_eq_false hl] at hD
    rw [if_neg hl] at hv
    clear hl
    go_enter Try.func12, Try.ntmps12
    go_wp2_with fail
    refine (hP.out _).mono ?_; rintro e w1 ⟨rfl, hb1⟩
    go_wp2_with fail
    refine (hD.out _).mono ?_; rintro e w2 ⟨rfl, hb2⟩
    go_wp2_with fail
    go_ret2
    exact retO_mk _ hv.out rfl rfl (by repeat (first | (with_reducible first | exact Below.refl _ _ | assumption | exact Nat.le_refl _ | refine Below.drew ?_ | refine Below.alloc ?_ ?_ _ | refine below_drewN ?_ _ | refine Below.setCell ?_ ?_ _ | refine le_alloc ?_ | refine le_set ?_ | refine le_drew ?_ | refine le_drewN ?_ | refine below_step (by assumption) ?_ ?_ | refine le_below (by assumption) ?_) | (dsimp only; omega)))
set_option maxRecDepth 100000 in
set_option maxHeartbeats 1000000 in
theorem doR_17 (a b : Nat) (ha : Hid (a < 18446744073709551616)) (hb : Hid (b < 18446744073709551616)) (w : World) : Calls Try.prog 12 #[.int .i64 17, .bool false, .int .u64 a, .int .u64 b] w (RetO .u64 (doV 17 false a b) w) := by
  have hP := Lib.hid (fun w => product_c a b ha hb w)
  have hv : Hid (doV 17 false a b = some (if a < b then 1 else 0)) := rfl
  generalize a * b / 18446744073709551616 = hi at *
  generalize a * b % 18446744073709551616 = lo at *
  by_cases hl : a < b
  · rw [if_pos hl] at hv
    have hl' : (a : Int) < (b : Int) := by omega
    clear hl
    go_enter Try.func12, Try.ntmps12
    go_wp2_with fail
    refine (hP.out _).mono ?_; rintro e w1 ⟨rfl, hb1⟩
    go_wp2_with fail
    go_ret2
    exact retO_mk _ hv.out rfl rfl (by repeat (first | (with_reducible first | exact Below.refl _ _ | assumption | exact Nat.le_refl _ | refine Below.drew ?_ | refine Below.alloc ?_ ?_ _ | refine below_drewN ?_ _ | refine Below.setCell ?_ ?_ _ | refine le_alloc ?_ | refine le_set ?_ | refine le_drew ?_ | refine le_drewN ?_ | refine below_step (by assumption) ?_ ?_ | refine le_below (by assumption) ?_) | (dsimp only; omega)))
  · rw [if_neg hl] at hv
    have hl' : decide ((a : Int) < (b : Int)) = false := decide_eq_false (by omega)
    have hl2 : ¬ (a : Int) < (b : Int) := by omega
    clear hl
    go_enter Try.func12, Try.ntmps12
    go_wp2_with fail
    refine (hP.out _).mono ?_; rintro e w1 ⟨rfl, hb1⟩
    go_wp2_with fail
    go_ret2
    exact retO_mk _ hv.out rfl rfl (by repeat (first | (with_reducible first | exact Below.refl _ _ | assumption | exact Nat.le_refl _ | refine Below.drew ?_ | refine Below.alloc ?_ ?_ _ | refine below_drewN ?_ _ | refine Below.setCell ?_ ?_ _ | refine le_alloc ?_ | refine le_set ?_ | refine le_drew ?_ | refine le_drewN ?_ | refine below_step (by assumption) ?_ ?_ | refine le_below (by assumption) ?_) | (dsimp only; omega)))
set_option maxRecDepth 100000 in
set_option maxHeartbeats 1000000 in
theorem doR_18 (a b : Nat) (ha : Hid (a < 18446744073709551616)) (hb : Hid (b < 18446744073709551616)) (w : World) : Calls Try.prog 12 #[.int .i64 18, .bool false, .int .u64 a, .int .u64 b] w (RetO .u64 (doV 18 false a b) w) := by
  have hP := Lib.hid (fun w => product_c a b ha hb w)
  have hv : Hid (doV 18 false a b = some (a ^^^ b)) := rfl
  obtain ⟨x, y, e1, e2, e3⟩ := xor_forms a b ha.out hb.out
  generalize a ^^^ b = z at *
  generalize a * b / 18446744073709551616 = hi at *
  generalize a * b % 18446744073709551616 = lo at *
  go_enter Try.func12, Try.ntmps12
  go_wp2_with fail
  refine (hP.out _).mono ?_; rintro e w1 ⟨rfl, hb1⟩
  go_wp2_with fail
  go_ret2
  exact retO_mk _ hv.out (by rfl) rfl (by repeat (first | (with_reducible first | exact Below.refl _ _ | assumption | exact Nat.le_refl _ | refine Below.drew ?_ | refine Below.alloc ?_ ?_ _ | refine below_drewN ?_ _ | refine Below.setCell ?_ ?_ _ | refine le_alloc ?_ | refine le_set ?_ | refine le_drew ?_ | refine le_drewN ?_ | refine below_step (by assumption) ?_ ?_ | refine le_below (by assumption) ?_) | (dsimp only; omega)))
set_option maxRecDepth 100000 in
set_option maxHeartbeats 1000000 in
theorem doR_21 (a b : Nat) (ha : Hid (a < 18446744073709551616)) (hb : Hid (b < 18446744073709551616)) (w : World) : Calls Try.prog 12 #[.int .i64 21, .bool false, .int .u64 a, .int .u64 b] w (RetO .u64 (doV 21 false a b) w) := by
  have hP := Lib.hid (fun w => product_c a b ha hb w)
  have hv : Hid (doV 21 false a b = some (a ||| b)) := rfl
  have e1 : bits .or .u64 (a : Int) (b : Int) = ((a ||| b : Nat) : Int) := bits_or_u64_nat a b ha.out hb.out
  generalize a ||| b = z at *
  generalize a * b / 18446744073709551616 = hi at *
  generalize a * b % 18446744073709551616 = lo at *
  go_enter Try.func12, Try.ntmps12
  go_wp2_with fail
  refine (hP.out _).mono ?_; rintro e w1 ⟨rfl, hb1⟩
  go_wp2_with fail
  go_ret2
  exact retO_mk _ hv.out (by rfl) rfl (by repeat (first | (with_reducible first | exact Below.refl _ _ | assumption | exact Nat.le_refl _ | refine Below.drew ?_ | refine Below.alloc ?_ ?_ _ | refine below_drewN ?_ _ | refine Below.setCell ?_ ?_ _ | refine le_alloc ?_ | refine le_set ?_ | refine le_drew ?_ | refine le_drewN ?_ | refine below_step (by assumption) ?_ ?_ | refine le_below (by assumption) ?_) | (dsimp only; omega)))
set_option maxRecDepth 100000 in
set_option maxHeartbeats 1000000 in
theorem doR_22 (a b : Nat) (ha : Hid (a < 18446744073709551616)) (hb : Hid (b < 18446744073709551616)) (w : World) : Calls Try.prog 12 #[.int .i64 22, .bool false, .int .u64 a, .int .u64 b] w (RetO .u64 (doV 22 false a b) w) := by
  have hP := Lib.hid (fun w => product_c a b ha hb w)
  have hv : Hid (doV 22 false a b = some (a &&& b)) := rfl
  have e1 : bits .and .u64 (a : Int) (b : Int) = ((a &&& b : Nat) : Int) := bits_and_u64_nat a b ha.out hb.out
  generalize a &&& b = z at *
  generalize a * b / 18446744073709551616 = hi at *
  generalize a * b % 18446744073709551616 = lo at *
  go_enter Try.func12, Try.ntmps12
  go_wp2_with fail
  refine (hP.out _).mono ?_; rintro e w1 ⟨rfl, hb1⟩
  go_wp2_with fail
  go_ret2
  exact retO_mk _ hv.out (by rfl) rfl (by repeat (first | (with_reducible first | exact Below.refl _ _ | assumption | exact Nat.le_refl _ | refine Below.drew ?_ | refine Below.alloc ?_ ?_ _ | refine below_drewN ?_ _ | refine Below.setCell ?_ ?_ _ | refine le_alloc ?_ | refine le_set ?_ | refine le_drew ?_ | refine le_drewN ?_ | refine below_step (by assumption) ?_ ?_ | refine le_below (by assumption) ?_) | (dsimp only; omega)))
set_option maxRecDepth 100000 in
set_option maxHeartbeats 1000000 in
theorem doR_26 (a b : Nat) (ha : Hid (a < 18446744073709551616)) (hb : Hid (b < 18446744073709551616)) (w : World) : Calls Try.prog 12 #[.int .i64 26, .bool false, .int .u64 a, .int .u64 b] w (RetO .u64 (doV 26 false a b) w) := by
  have hP := Lib.hid (fun w => product_c a b ha hb w)
  have hv : Hid (doV 26 false a b = some (a * b / 18446744073709551616)) := rfl
  generalize a * b / 18446744073709551616 = hi at *
  generalize a * b % 18446744073709551616 = lo at *
  go_enter Try.func12, Try.ntmps12
  go_wp2_with fail
  refine (hP.out _).mono ?_; rintro e w1 ⟨rfl, hb1⟩
  go_wp2_with fail
  go_ret2
  exact retO_mk _ hv.out (by rfl) rfl (by repeat (first | (with_reducible first | exact Below.refl _ _ | assumption | exact Nat.le_refl _ | refine Below.drew ?_ | refine Below.alloc ?_ ?_ _ | refine below_drewN ?_ _ | refine Below.setCell ?_ ?_ _ | refine le_alloc ?_ | refine le_set ?_ | refine le_drew ?_ | refine le_drewN ?_ | refine below_step (by assumption) ?_ ?_ | refine le_below (by assumption) ?_) | (dsimp only; omega)))
set_option maxRecDepth 100000 in
set_option maxHeartbeats 1000000 in
theorem doR_25 (a b : Nat) (ha : Hid (a < 18446744073709551616)) (hb : Hid (b < 18446744073709551616)) (w : World) : Calls Try.prog 12 #[.int .i64 25, .bool false, .int .u64 a, .int .u64 b] w (RetO .u64 (doV 25 false a b) w) := by
  have hP := Lib.hid (fun w => product_c a b ha hb w)
  have hD1 : Hid (∀ w, Calls Try.prog 29 #[.int .u64 a, .int .i64 64] w (RetB (decide (9223372036854775808 ≤ a)) w)) := by
    show ∀ w, _
    rw [← high_eq (wd := 64) (half := 9223372036854775808) (by decide) (by decide) ha.out]; exact fun w => high_c a 64 ha (by decide) (by decide) w
  have hD2 : Hid (∀ w, Calls Try.prog 29 #[.int .u64 b, .int .i64 64] w (RetB (decide (9223372036854775808 ≤ b)) w)) := by
    show ∀ w, _
    rw [← high_eq (wd := 64) (half := 9223372036854775808) (by decide) (by decide) hb.out]; exact fun w => high_c b 64 hb (by decide) (by decide) w
  have hi0 := hi_lt a b ha.out hb.out
  have hv : Hid (doV 25 false a b = some ((a * b / 18446744073709551616 + (18446744073709551616 - lessU a b)) % 18446744073709551616)) := rfl
  generalize a * b / 18446744073709551616 = hi at *
  generalize a * b % 18446744073709551616 = lo at *
  have hla := lessU_le a b
  have hbb := hb.out
  by_cases hl : 9223372036854775808 ≤ a
  · rw [decide_eq_true hl] at hD1
    have hls : lessU a b = b := if_neg (by omega)
    rw [hls] at hv
    obtain ⟨r, hr⟩ : ∃ r, r = (hi + (18446744073709551616 - b)) % 18446744073709551616 := ⟨_, rfl⟩
    rw [← hr] at hv
    have E : IntKind.u64.wrap ((hi : Int) - (b : Int)) = (r : Int) := by rw [IntKind.wrap_u64]; omega
    clear hl hls hr hbb hla hi0
    go_enter Try.func12, Try.ntmps12
    go_wp2_with fail
    refine (hP.out _).mono ?_; rintro e w1 ⟨rfl, hb1⟩
    go_wp2_with fail
    refine (hD1.out _).mono ?_; rintro e w2 ⟨rfl, hb2⟩
    go_wp2_with fail
    go_ret2
    exact retO_mk _ hv.out rfl rfl (by repeat (first | (with_reducible first | exact Below.refl _ _ | assumption | exact Nat.le_refl _ | refine Below.drew ?_ | refine Below.alloc ?_ ?_ _ | refine below_drewN ?_ _ | refine Below.setCell ?_ ?_ _ | refine le_alloc ?_ | refine le_set ?_ | refine le_drew ?_ | refine le_drewN ?_ | refine below_step (by assumption) ?_ ?_ | refine le_below (by assumption) ?_) | (dsimp only; omega)))
  · rw [decide_eq_false hl] at hD1
    have hls : lessU a b = 0 := if_pos (by omega)
    rw [hls, show (hi + (18446744073709551616 - 0)) % 18446744073709551616 = hi by omega] at hv
    clear hl hls hbb hla hi0
    go_enter Try.func12, Try.ntmps12
    go_wp2_with fail
    refine (hP.out _).mono ?_; rintro e w1 ⟨rfl, hb1⟩
    go_wp2_with fail
    refine (hD1.out _).mono ?_; rintro e w2 ⟨rfl, hb2⟩
    go_wp2_with fail
    go_ret2
    exact retO_mk _ hv.out rfl rfl (by repeat (first | (with_reducible first | exact Below.refl _ _ | assumption | exact Nat.le_refl _ | refine Below.drew ?_ | refine Below.alloc ?_ ?_ _ | refine below_drewN ?_ _ | refine Below.setCell ?_ ?_ _ | refine le_alloc ?_ | refine le_set ?_ | refine le_drew ?_ | refine le_drewN ?_ | refine below_step (by assumption) ?_ ?_ | refine le_below (by assumption) ?_) | (dsimp only; omega)))
set_option maxRecDepth 100000 in
set_option maxHeartbeats 1000000 in
theorem doR_24 (a b : Nat) (ha : Hid (a < 18446744073709551616)) (hb : Hid (b < 18446744073709551616)) (w : World) : Calls Try.prog 12 #[.int .i64 24, .bool false, .int .u64 a, .int .u64 b] w (RetO .u64 (doV 24 false a b) w) := by
  have hP := Lib.hid (fun w => product_c a b ha hb w)
  have hD1 : Hid (∀ w, Calls Try.prog 29 #[.int .u64 a, .int .i64 64] w (RetB (decide (9223372036854775808 ≤ a)) w)) := by
    show ∀ w, _
    rw [← high_eq (wd := 64) (half := 9223372036854775808) (by decide) (by decide) ha.out]; exact fun w => high_c a 64 ha (by decide) (by decide) w
  have hD2 : Hid (∀ w, Calls Try.prog 29 #[.int .u64 b, .int .i64 64] w (RetB (decide (9223372036854775808 ≤ b)) w)) := by
    show ∀ w, _
    rw [← high_eq (wd := 64) (half := 9223372036854775808) (by decide) (by decide) hb.out]; exact fun w => high_c b 64 hb (by decide) (by decide) w
  have hi0 := hi_lt a b ha.out hb.out
  have hv : Hid (doV 24 false a b = some ((a * b / 18446744073709551616 + (36893488147419103232 - (lessU b a + lessU a b))) % 18446744073709551616)) := rfl
  generalize a * b / 18446744073709551616 = hi at *
  generalize a * b % 18446744073709551616 = lo at *
  have hbb := hb.out
  have haa := ha.out
  by_cases hl : 9223372036854775808 ≤ a <;> by_cases hm : 9223372036854775808 ≤ b
  · rw [decide_eq_true hl] at hD1
    rw [decide_eq_true hm] at hD2
    have h1 : lessU a b = b := if_neg (by omega)
    have h2 : lessU b a = a := if_neg (by omega)
    rw [h1, h2] at hv
    obtain ⟨p, hp⟩ : ∃ p, p = (hi + (18446744073709551616 - b)) % 18446744073709551616 := ⟨_, rfl⟩
    obtain ⟨r, hr⟩ : ∃ r, r = (p + (18446744073709551616 - a)) % 18446744073709551616 := ⟨_, rfl⟩
    rw [show (hi + (36893488147419103232 - (a + b))) % 18446744073709551616 = r by omega] at hv
    have E1 : IntKind.u64.wrap ((hi : Int) - (b : Int)) = (p : Int) := by rw [IntKind.wrap_u64]; omega
    have E2 : IntKind.u64.wrap ((p : Int) - (a : Int)) = (r : Int) := by rw [IntKind.wrap_u64]; omega
    clear hbb haa hi0 h1 h2 hl hm hp hr
    go_enter Try.func12, Try.ntmps12
    go_wp2_with fail
    refine (hP.out _).mono ?_; rintro e w1 ⟨rfl, hb1⟩
    go_wp2_with fail
    refine (hD1.out _).mono ?_; rintro e w2 ⟨rfl, hb2⟩
    go_wp2_with fail
    refine (hD2.out _).mono ?_; rintro e w3 ⟨rfl, hb3⟩
    go_wp2_with fail
    go_ret2
    exact retO_mk _ hv.out rfl rfl (by repeat (first | (with_reducible first | exact Below.refl _ _ | assumption | exact Nat.le_refl _ | refine Below.drew ?_ | refine Below.alloc ?_ ?_ _ | refine below_drewN ?_ _ | refine Below.setCell ?_ ?_ _ | refine le_alloc ?_ | refine le_set ?_ | refine le_drew ?_ | refine le_drewN ?_ | refine below_step (by assumption) ?_ ?_ | refine le_below (by assumption) ?_) | (dsimp only; omega)))
  · rw [decide_eq_true hl] at hD1
    rw [decide_eq_false hm] at hD2
    have h1 : lessU a b = b := if_neg (by omega)
    have h2 : lessU b a = 0 := if_pos (by omega)
    rw [h1, h2] at hv
    obtain ⟨p, hp⟩ : ∃ p, p = (hi + (18446744073709551616 - b)) % 18446744073709551616 := ⟨_, rfl⟩
    obtain ⟨r, hr⟩ : ∃ r, r = p := ⟨_, rfl⟩
    rw [show (hi + (36893488147419103232 - (0 + b))) % 18446744073709551616 = r by omega] at hv
    have E1 : IntKind.u64.wrap ((hi : Int) - (b : Int)) = (p : Int) := by rw [IntKind.wrap_u64]; omega
    clear hbb haa hi0 h1 h2 hl hm hp
    subst hr
    go_enter Try.func12, Try.ntmps12
    go_wp2_with fail
    refine (hP.out _).mono ?_; rintro e w1 ⟨rfl, hb1⟩
    go_wp2_with fail
    refine (hD1.out _).mono ?_; rintro e w2 ⟨rfl, hb2⟩
    go_wp2_with fail
    refine (hD2.out _).mono ?_; rintro e w3 ⟨rfl, hb3⟩
    go_wp2_with fail
    go_ret2
    exact retO_mk _ hv.out rfl rfl (by repeat (first | (with_reducible first | exact Below.refl _ _ | assumption | exact Nat.le_refl _ | refine Below.drew ?_ | refine Below.alloc ?_ ?_ _ | refine below_drewN ?_ _ | refine Below.setCell ?_ ?_ _ | refine le_alloc ?_ | refine le_set ?_ | refine le_drew ?_ | refine le_drewN ?_ | refine below_step (by assumption) ?_ ?_ | refine le_below (by assumption) ?_) | (dsimp only; omega)))
  · rw [decide_eq_false hl] at hD1
    rw [decide_eq_true hm] at hD2
    have h1 : lessU a b = 0 := if_pos (by omega)
    have h2 : lessU b a = a := if_neg (by omega)
    rw [h1, h2] at hv
    obtain ⟨p, hp⟩ : ∃ p, p = hi := ⟨_, rfl⟩
    obtain ⟨r, hr⟩ : ∃ r, r = (p + (18446744073709551616 - a)) % 18446744073709551616 := ⟨_, rfl⟩
    rw [show (hi + (36893488147419103232 - (a + 0))) % 18446744073709551616 = r by omega] at hv
    have E2 : IntKind.u64.wrap ((p : Int) - (a : Int)) = (r : Int) := by rw [IntKind.wrap_u64]; omega
    clear hbb haa hi0 h1 h2 hl hm hr
    subst hp
    go_enter Try.func12, Try.ntmps12
    go_wp2_with fail
    refine (hP.out _).mono ?_; rintro e w1 ⟨rfl, hb1⟩
    go_wp2_with fail
    refine (hD1.out _).mono ?_; rintro e w2 ⟨rfl, hb2⟩
    go_wp2_with fail
    refine (hD2.out _).mono ?_; rintro e w3 ⟨rfl, hb3⟩
    go_wp2_with fail
    go_ret2
    exact retO_mk _ hv.out rfl rfl (by repeat (first | (with_reducible first | exact Below.refl _ _ | assumption | exact Nat.le_refl _ | refine Below.drew ?_ | refine Below.alloc ?_ ?_ _ | refine below_drewN ?_ _ | refine Below.setCell ?_ ?_ _ | refine le_alloc ?_ | refine le_set ?_ | refine le_drew ?_ | refine le_drewN ?_ | refine below_step (by assumption) ?_ ?_ | refine le_below (by assumption) ?_) | (dsimp only; omega)))
  · rw [decide_eq_false hl] at hD1
    rw [decide_eq_false hm] at hD2
    have h1 : lessU a b = 0 := if_pos (by omega)
    have h2 : lessU b a = 0 := if_pos (by omega)
    rw [h1, h2] at hv
    obtain ⟨p, hp⟩ : ∃ p, p = hi := ⟨_, rfl⟩
    obtain ⟨r, hr⟩ : ∃ r, r = p := ⟨_, rfl⟩
    rw [show (hi + (36893488147419103232 - (0 + 0))) % 18446744073709551616 = r by omega] at hv
    clear hbb haa hi0 h1 h2 hl hm
    subst hr
    subst hp
    go_enter Try.func12, Try.ntmps12
    go_wp2_with fail
    refine (hP.out _).mono ?_; rintro e w1 ⟨rfl, hb1⟩
    go_wp2_with fail
    refine (hD1.out _).mono ?_; rintro e w2 ⟨rfl, hb2⟩
    go_wp2_with fail
    refine (hD2.out _).mono ?_; rintro e w3 ⟨rfl, hb3⟩
    go_wp2_with fail
    go_ret2
    exact retO_mk _ hv.out rfl rfl (by repeat (first | (with_reducible first | exact Below.refl _ _ | assumption | exact Nat.le_refl _ | refine Below.drew ?_ | refine Below.alloc ?_ ?_ _ | refine below_drewN ?_ _ | refine Below.setCell ?_ ?_ _ | refine le_alloc ?_ | refine le_set ?_ | refine le_drew ?_ | refine le_drewN ?_ | refine below_step (by assumption) ?_ ?_ | refine le_below (by assumption) ?_) | (dsimp only; omega)))
set_option maxRecDepth 100000 in
set_option maxHeartbeats 1000000 in
theorem doR_else (k : Int) (a b : Nat) (ha : Hid (a < 18446744073709551616)) (hb : Hid (b < 18446744073709551616)) (h16 : ¬ k = 16) (h17 : ¬ k = 17) (h18 : ¬ k = 18) (h21 : ¬ k = 21) (h22 : ¬ k = 22) (h26 : ¬ k = 26) (h25 : ¬ k = 25) (h24 : ¬ k = 24) (w : World) : Calls Try.prog 12 #[.int .i64 k, .bool false, .int .u64 a, .int .u64 b] w (RetO .u64 (doV k false a b) w) := by
  have hv : Hid (doV k false a b = bothV 64 H64 k a b) := by
    show (bothV 64 H64 k a b).or (wholeV k a b) = _
    have e : wholeV k a b = none := by
      unfold wholeV upperV
      rw [if_neg h16, if_neg h17, if_neg h18, if_neg h21, if_neg h22, if_neg h24, if_neg h25, if_neg h26]
    rw [e, Option.or_none]
  have hC : Hid (∀ w, Calls Try.prog 24 #[.int .i64 k, .int .u64 a, .int .u64 b, .int .i64 64] w (RetO .u64 (bothV 64 H64 k a b) w)) := fun w => common_c k a b 64 H64 wd64 ha.out hb.out w
  have hP := Lib.hid (fun w => product_c a b ha hb w)
  generalize a * b / 18446744073709551616 = hi at *
  generalize a * b % 18446744073709551616 = lo at *
  obtain ⟨o, ho⟩ : ∃ o, o = bothV 64 H64 k a b := ⟨_, rfl⟩
  rw [← ho] at hC hv
  clear ho
  cases o with
  | none =>
    go_enter Try.func12, Try.ntmps12
    go_wp2_with fail
    refine (hP.out _).mono ?_; rintro e w1 ⟨rfl, hb1⟩
    go_wp2_with fail
    refine (hC.out _).mono ?_; rintro e w3 h; obtain ⟨rfl, hb3⟩ := retO_none h
    go_wp2_with fail
    go_ret2
    exact retO_no hv.out rfl rfl (by repeat (first | (with_reducible first | exact Below.refl _ _ | assumption | exact Nat.le_refl _ | refine Below.drew ?_ | refine Below.alloc ?_ ?_ _ | refine below_drewN ?_ _ | refine Below.setCell ?_ ?_ _ | refine le_alloc ?_ | refine le_set ?_ | refine le_drew ?_ | refine le_drewN ?_ | refine below_step (by assumption) ?_ ?_ | refine le_below (by assumption) ?_) | (dsimp only; omega)))
  | some n =>
    go_enter Try.func12, Try.ntmps12
    go_wp2_with fail
    refine (hP.out _).mono ?_; rintro e w1 ⟨rfl, hb1⟩
    go_wp2_with fail
    refine (hC.out _).mono ?_; rintro e w3 h; obtain ⟨rfl, hb3⟩ := retO_some h
    go_wp2_with fail
    go_ret2
    exact retO_mk _ hv.out rfl rfl (by repeat (first | (with_reducible first | exact Below.refl _ _ | assumption | exact Nat.le_refl _ | refine Below.drew ?_ | refine Below.alloc ?_ ?_ _ | refine below_drewN ?_ _ | refine Below.setCell ?_ ?_ _ | refine le_alloc ?_ | refine le_set ?_ | refine le_drew ?_ | refine le_drewN ?_ | refine below_step (by assumption) ?_ ?_ | refine le_below (by assumption) ?_) | (dsimp only; omega)))
theorem doR_c (k : Int) (word : Bool) (a b : Nat) (ha : Hid (a < 18446744073709551616)) (hb : Hid (b < 18446744073709551616)) (w : World) : Calls Try.prog 12 #[.int .i64 k, .bool word, .int .u64 a, .int .u64 b] w (RetO .u64 (doV k word a b) w) := by
  cases word
  · by_cases h16 : k = 16
    · subst h16; exact doR_16 a b ha hb w
    by_cases h17 : k = 17
    · subst h17; exact doR_17 a b ha hb w
    by_cases h18 : k = 18
    · subst h18; exact doR_18 a b ha hb w
    by_cases h21 : k = 21
    · subst h21; exact doR_21 a b ha hb w
    by_cases h22 : k = 22
    · subst h22; exact doR_22 a b ha hb w
    by_cases h26 : k = 26
    · subst h26; exact doR_26 a b ha hb w
    by_cases h25 : k = 25
    · subst h25; exact doR_25 a b ha hb w
    by_cases h24 : k = 24
    · subst h24; exact doR_24 a b ha hb w
    exact doR_else k a b ha hb h16 h17 h18 h21 h22 h26 h25 h24 w
  · exact doR_word k a b ha hb w
end Go.Proofs.Ytbbgcjdflcfnjaa
