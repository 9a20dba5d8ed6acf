/- The contracts of the reference's answers: Box, Unbox, Sign, Class. -/
import Derived.Test.YteinjalnkhfecaaB5
namespace Go.Proofs.Yteinjalnkhfecaa
open Go.ChangeShapes Go.WideShapes Go.ChangeAt Go.RowKit
set_option linter.unusedVariables false
set_option linter.unusedSimpArgs false
theorem RBox_c (a : Nat) (ha : Hid (a < 18446744073709551616)) (w : World) : Calls Try.prog 13 #[.int .u64 a] w (RetU (a % 4294967296 + 18446744069414584320) w) := by
  have e0 : bits .and .u64 (a : Int) 4294967295 = ((a % 4294967296 : Nat) : Int) := mask32 a ha.out
  have e1 : bits .or .u64 ((a % 4294967296 : Nat) : Int) 18446744069414584320 = ((a % 4294967296 + 18446744069414584320 : Nat) : Int) := by
    rw [show (18446744069414584320 : Int) = ((18446744069414584320 : Nat) : Int) from rfl, bits_or_u64_nat _ _ (by omega) (by decide), Nat.or_comm, or_disj 32 _ _ (by decide) (by omega), Nat.add_comm]
  have E1 := Lib.hid e1; clear e1
  generalize hx : a % 4294967296 = x at *
  have HX := Lib.hid hx; clear hx
  go_enter Try.func13, Try.ntmps13
  go_wp2_with fail
  go_ret
  exact retU_mk E1.out (by repeat (first | (with_reducible first | exact Below.refl _ _ | assumption | exact Nat.le_refl _ | refine Below.drew ?_ | refine Below.alloc ?_ ?_ _ | refine Below.setCell ?_ ?_ _ | refine le_alloc ?_ | refine le_set ?_ | refine le_drew ?_ | refine below_step (by assumption) ?_ ?_ | refine le_below (by assumption) ?_) | (dsimp only; omega)))
theorem RUnbox_c (r : Nat) (hr : Hid (r < 18446744073709551616)) (w : World) : Calls Try.prog 15 #[.int .u64 r] w (RetU (unboxV r) w) := by
  by_cases h : 18446744069414584320 ≤ r
  · have E : Hid (unboxV r = r % 4294967296) := by show _ = _; unfold unboxV; rw [if_pos h]; have := hr.out; omega
    have n1 : ((r : Int) / 4294967296 == 4294967295) = true := by rw [beq_iff_eq]; have := hr.out; omega
    have e0 : bits .and .u64 (r : Int) 4294967295 = ((r % 4294967296 : Nat) : Int) := mask32 r hr.out
    clear h
    go_enter Try.func15, Try.ntmps15
    go_wp2_with fail
    go_ret
    exact retU_mk (by rw [E.out]; first | rfl | omega) (by repeat (first | (with_reducible first | exact Below.refl _ _ | assumption | exact Nat.le_refl _ | refine Below.drew ?_ | refine Below.alloc ?_ ?_ _ | refine Below.setCell ?_ ?_ _ | refine le_alloc ?_ | refine le_set ?_ | refine le_drew ?_ | refine below_step (by assumption) ?_ ?_ | refine le_below (by assumption) ?_) | (dsimp only; omega)))
  · have E : Hid (unboxV r = quietB false) := by show _ = _; unfold unboxV; rw [if_neg h]; rfl
    have n1 : ((r : Int) / 4294967296 == 4294967295) = false := by rw [beq_eq_false_iff_ne]; omega
    clear h
    go_enter Try.func15, Try.ntmps15
    go_wp2_with fail
    refine (rquiet_4 _).mono ?_; rintro e w2 ⟨rfl, hb2⟩
    go_wp2_with fail
    go_ret
    exact retU_mk (by rw [E.out]) (by repeat (first | (with_reducible first | exact Below.refl _ _ | assumption | exact Nat.le_refl _ | refine Below.drew ?_ | refine Below.alloc ?_ ?_ _ | refine Below.setCell ?_ ?_ _ | refine le_alloc ?_ | refine le_set ?_ | refine le_drew ?_ | refine below_step (by assumption) ?_ ?_ | refine le_below (by assumption) ?_) | (dsimp only; omega)))
theorem u64_andNot_num (a k : Nat) (hk : k < 64) (ha : a < 2 ^ (k + 1)) (h64 : 2 ^ (k + 1) ≤ 18446744073709551616) : bits .andNot .u64 (a : Int) ((2 ^ k : Nat) : Int) = ((a % 2 ^ k : Nat) : Int) := by
  have hp : 2 ^ k < 18446744073709551616 := by rw [pow64]; exact Nat.pow_lt_pow_right (by decide) hk
  rw [u64_andNot_nat a (2 ^ k) (by omega) hp]
  congr 1
  apply Nat.eq_of_testBit_eq
  intro i
  rw [Nat.testBit_and, show (18446744073709551615 : Nat) - 2 ^ k = 2 ^ 64 - (2 ^ k + 1) by omega, Nat.testBit_two_pow_sub_succ (by rw [← pow64]; exact hp), Nat.testBit_two_pow, Nat.testBit_mod_two_pow]
  by_cases h1 : i < k
  · have : i < 64 := by omega
    have h2 : ¬ k = i := by omega
    simp [h1, h2, this]
  · by_cases h3 : i = k
    · subst h3; simp
    · have : a.testBit i = false := Nat.testBit_lt_two_pow (Nat.lt_of_lt_of_le ha (Nat.pow_le_pow_right (by decide) (by omega)))
      simp [this]
theorem far_clear (d : Bool) (a : Nat) : bits .andNot .u64 ((maskN d a : Nat) : Int) ((signB d : Nat) : Int) = (farN d a : Int) := by
  cases d
  · have h : maskN false a < 2 ^ (31 + 1) := by show a % 2147483648 + a / 2147483648 % 2 * 2147483648 < _; omega
    rw [show (signB false : Nat) = 2 ^ 31 by decide, u64_andNot_num _ 31 (by decide) h (by decide)]
    congr 1
    show (a % 2147483648 + a / 2147483648 % 2 * 2147483648) % 2147483648 = a % 2147483648; omega
  · have h : maskN true a < 2 ^ (63 + 1) := by show a % 9223372036854775808 + a / 9223372036854775808 % 2 * 9223372036854775808 < _; omega
    rw [show (signB true : Nat) = 2 ^ 63 by decide, u64_andNot_num _ 63 (by decide) h (by decide)]
    congr 1
    show (a % 9223372036854775808 + a / 9223372036854775808 % 2 * 9223372036854775808) % 9223372036854775808 = a % 9223372036854775808; omega
theorem far_sign (d m : Bool) (a : Nat) : bits .or .u64 (farN d a : Int) (noughtV d m : Int) = ((farN d a + noughtV d m : Nat) : Int) := by
  cases d
  · have f : farN false a < 2147483648 := Nat.mod_lt _ (by decide)
    cases m
    · rw [bits_or_u64_nat _ _ (by omega) (by decide), Nat.or_comm, or_disj 31 _ _ (by decide) f, Nat.add_comm]
    · rw [bits_or_u64_nat _ _ (by omega) (by decide), Nat.or_comm, or_disj 31 _ _ (by decide) f, Nat.add_comm]
  · have f : farN true a < 9223372036854775808 := Nat.mod_lt _ (by decide)
    cases m
    · rw [bits_or_u64_nat _ _ (by omega) (by decide), Nat.or_comm, or_disj 63 _ _ (by decide) f, Nat.add_comm]
    · rw [bits_or_u64_nat _ _ (by omega) (by decide), Nat.or_comm, or_disj 63 _ _ (by decide) f, Nat.add_comm]
def sgnM (k : Int) (d : Bool) (a b : Nat) : Bool := if k = 64 then minusN d b else if k = 65 then !minusN d b else (minusN d b != minusN d a)
theorem sgn_eq (k : Int) (d : Bool) (a b : Nat) : noughtV d (sgnM k d a b) = sgnV k d a b * signB d := by
  have hb : ∀ x : Nat, minusN d x = decide (x / signB d % 2 = 1) := fun x => rfl
  have h2 : ∀ x : Nat, x / signB d % 2 = 0 ∨ x / signB d % 2 = 1 := fun x => by omega
  unfold sgnM sgnV
  rw [hb, hb]
  rcases h2 a with p | p <;> rcases h2 b with q | q <;> rw [p, q] <;> (repeat' split) <;> simp [noughtV]
theorem RSign_64 (sz : Int) (d : Bool) (hsz : Hid (SzOk sz d)) (a b : Nat) (ha : Hid (a < 18446744073709551616)) (hb : Hid (b < 18446744073709551616)) (w : World) :
    Calls Try.prog 23 #[.int .i64 64, .int .i64 sz, .int .u64 a, .int .u64 b] w (RetU (farN d a + sgnV 64 d a b * signB d) w) := by
  have HG : Hid (noughtV d (sgnM 64 d a b) = sgnV 64 d a b * signB d) := sgn_eq _ _ _ _
  have HM : Hid (sgnM 64 d a b = minusN d b) := rfl
  have HFC := Lib.hid (far_clear d a)
  have HFS := Lib.hid (fun m => far_sign d m a)
  have HN : Hid (noughtV d true = signB d) := rfl
  go_enter Try.func23, Try.ntmps23
  go_wp2_with fail
  refine (rright_c sz d hsz _).mono ?_; rintro e w1 ⟨rfl, hb1⟩
  go_wp2_with fail
  refine (rminus_c sz d hsz b hb _).mono ?_; rintro e w2 ⟨rfl, hb2⟩
  generalize hmb : minusN d b = mb at *
  clear hmb
  go_wp2_with fail
  refine (rmask_c sz d hsz a ha _).mono ?_; rintro e w5 ⟨rfl, hb5⟩
  go_wp2_with fail
  refine (rnought_c sz d hsz true _).mono ?_; rintro e w6 ⟨rfl, hb6⟩
  rw [HN.out]
  go_wp2_with fail
  rw [HFC.out]
  refine (rnought_c sz d hsz _ _).mono ?_; rintro e w7 ⟨rfl, hb7⟩
  go_wp2_with fail
  go_ret
  exact retU_mk (by rw [← HG.out, HM.out]; exact HFS.out _) (by repeat (first | (with_reducible first | exact Below.refl _ _ | assumption | exact Nat.le_refl _ | refine Below.drew ?_ | refine Below.alloc ?_ ?_ _ | refine Below.setCell ?_ ?_ _ | refine le_alloc ?_ | refine le_set ?_ | refine le_drew ?_ | refine below_step (by assumption) ?_ ?_ | refine le_below (by assumption) ?_) | (dsimp only; omega)))
theorem RSign_65 (sz : Int) (d : Bool) (hsz : Hid (SzOk sz d)) (a b : Nat) (ha : Hid (a < 18446744073709551616)) (hb : Hid (b < 18446744073709551616)) (w : World) :
    Calls Try.prog 23 #[.int .i64 65, .int .i64 sz, .int .u64 a, .int .u64 b] w (RetU (farN d a + sgnV 65 d a b * signB d) w) := by
  have HG : Hid (noughtV d (sgnM 65 d a b) = sgnV 65 d a b * signB d) := sgn_eq _ _ _ _
  have HM : Hid (sgnM 65 d a b = !minusN d b) := rfl
  have HFC := Lib.hid (far_clear d a)
  have HFS := Lib.hid (fun m => far_sign d m a)
  have HN : Hid (noughtV d true = signB d) := rfl
  go_enter Try.func23, Try.ntmps23
  go_wp2_with fail
  refine (rright_c sz d hsz _).mono ?_; rintro e w1 ⟨rfl, hb1⟩
  go_wp2_with fail
  refine (rminus_c sz d hsz b hb _).mono ?_; rintro e w2 ⟨rfl, hb2⟩
  generalize hmb : minusN d b = mb at *
  clear hmb
  go_wp2_with fail
  refine (rmask_c sz d hsz a ha _).mono ?_; rintro e w5 ⟨rfl, hb5⟩
  go_wp2_with fail
  refine (rnought_c sz d hsz true _).mono ?_; rintro e w6 ⟨rfl, hb6⟩
  rw [HN.out]
  go_wp2_with fail
  rw [HFC.out]
  refine (rnought_c sz d hsz _ _).mono ?_; rintro e w7 ⟨rfl, hb7⟩
  go_wp2_with fail
  go_ret
  exact retU_mk (by rw [← HG.out, HM.out]; exact HFS.out _) (by repeat (first | (with_reducible first | exact Below.refl _ _ | assumption | exact Nat.le_refl _ | refine Below.drew ?_ | refine Below.alloc ?_ ?_ _ | refine Below.setCell ?_ ?_ _ | refine le_alloc ?_ | refine le_set ?_ | refine le_drew ?_ | refine below_step (by assumption) ?_ ?_ | refine le_below (by assumption) ?_) | (dsimp only; omega)))
theorem RSign_66 (sz : Int) (d : Bool) (hsz : Hid (SzOk sz d)) (a b : Nat) (ha : Hid (a < 18446744073709551616)) (hb : Hid (b < 18446744073709551616)) (w : World) :
    Calls Try.prog 23 #[.int .i64 66, .int .i64 sz, .int .u64 a, .int .u64 b] w (RetU (farN d a + sgnV 66 d a b * signB d) w) := by
  have HG : Hid (noughtV d (sgnM 66 d a b) = sgnV 66 d a b * signB d) := sgn_eq _ _ _ _
  have HM : Hid (sgnM 66 d a b = (minusN d b != minusN d a)) := rfl
  have HFC := Lib.hid (far_clear d a)
  have HFS := Lib.hid (fun m => far_sign d m a)
  have HN : Hid (noughtV d true = signB d) := rfl
  go_enter Try.func23, Try.ntmps23
  go_wp2_with fail
  refine (rright_c sz d hsz _).mono ?_; rintro e w1 ⟨rfl, hb1⟩
  go_wp2_with fail
  refine (rminus_c sz d hsz b hb _).mono ?_; rintro e w2 ⟨rfl, hb2⟩
  generalize hmb : minusN d b = mb at *
  clear hmb
  go_wp2_with fail
  refine (rminus_c sz d hsz a ha _).mono ?_; rintro e w4 ⟨rfl, hb4⟩
  go_wp2_with fail
  refine (rmask_c sz d hsz a ha _).mono ?_; rintro e w5 ⟨rfl, hb5⟩
  go_wp2_with fail
  refine (rnought_c sz d hsz true _).mono ?_; rintro e w6 ⟨rfl, hb6⟩
  rw [HN.out]
  go_wp2_with fail
  rw [HFC.out]
  refine (rnought_c sz d hsz _ _).mono ?_; rintro e w7 ⟨rfl, hb7⟩
  go_wp2_with fail
  go_ret
  exact retU_mk (by rw [← HG.out, HM.out]; exact HFS.out _) (by repeat (first | (with_reducible first | exact Below.refl _ _ | assumption | exact Nat.le_refl _ | refine Below.drew ?_ | refine Below.alloc ?_ ?_ _ | refine Below.setCell ?_ ?_ _ | refine le_alloc ?_ | refine le_set ?_ | refine le_drew ?_ | refine below_step (by assumption) ?_ ?_ | refine le_below (by assumption) ?_) | (dsimp only; omega)))
end Go.Proofs.Yteinjalnkhfecaa
