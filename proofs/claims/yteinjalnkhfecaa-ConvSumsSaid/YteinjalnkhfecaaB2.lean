/- The contracts of what conv asks of a float. -/
import Derived.Test.YteinjalnkhfecaaB1
import Derived.Deep.RegionHeld3
namespace Go.Proofs.Yteinjalnkhfecaa
open Go.ChangeShapes Go.WideShapes Go.ChangeAt Go.RowKit
set_option linter.unusedVariables false
set_option linter.unusedSimpArgs false
theorem and_mask (x k : Nat) (hx : x < 18446744073709551616) (hk : 2 ^ k ≤ 18446744073709551616) : bits .and .u64 (x : Int) ((2 ^ k - 1 : Nat) : Int) = ((x % 2 ^ k : Nat) : Int) := by
  have hp : 0 < 2 ^ k := Nat.two_pow_pos k
  rw [u64_and_nat _ _ hx (by omega), Nat.and_two_pow_sub_one_eq_mod]
theorem and_bit (x k : Nat) (hx : x < 18446744073709551616) (hk : k < 64) : (bits .and .u64 (x : Int) ((2 ^ k : Nat) : Int) != 0) = decide (x / 2 ^ k % 2 = 1) := by
  have hp : 0 < 2 ^ k := Nat.two_pow_pos k
  rw [u64_and_nat _ _ hx (by rw [pow64]; exact Nat.pow_lt_pow_right (by decide) hk), nat_bit, Bool.eq_iff_iff]
  simp only [bne_iff_ne, ne_eq, decide_eq_true_eq, Int.natCast_eq_zero, Nat.mul_eq_zero]
  omega
theorem or_frac (x k : Nat) (hk : k < 64) (hx : x < 2 ^ k) : bits .or .u64 (x : Int) ((2 ^ k : Nat) : Int) = ((x + 2 ^ k : Nat) : Int) := by
  have h64 : 2 ^ k < 18446744073709551616 := by rw [pow64]; exact Nat.pow_lt_pow_right (by decide) hk
  rw [bits_or_u64_nat _ _ (by omega) h64, Nat.or_comm, or_disj k _ _ (by simp) hx, Nat.add_comm]
theorem wrap64_nat (n : Nat) (h : n < 9223372036854775808) : wrap64 (n : Int) = n := IntWalk.wrap64_in _ ⟨by omega, by omega⟩
theorem or_sign (s x k : Nat) (hk : k < 64) (hs : s = 0 ∨ s = 2 ^ k) (hx : x < 2 ^ k) : bits .or .u64 (s : Int) (x : Int) = ((s + x : Nat) : Int) := by
  have h64 : 2 ^ k < 18446744073709551616 := by rw [pow64]; exact Nat.pow_lt_pow_right (by decide) hk
  rw [bits_or_u64_nat _ _ (by omega) (by omega), or_disj k _ _ ?_ hx]
  rcases hs with rfl | rfl <;> simp

def farN (d : Bool) (a : Nat) : Nat := a % signB d
def minusN (d : Bool) (a : Nat) : Bool := decide (a / signB d % 2 = 1)
def maskN (d : Bool) (a : Nat) : Nat := a % signB d + a / signB d % 2 * signB d
def clsX (q i f x : Nat) (m : Bool) : Int :=
  if q ≤ x then 9 else if i < x then 8 else if m then 7 - (if x = i then 7 else if f ≤ x then 6 else if x ≠ 0 then 5 else 4) else (if x = i then 7 else if f ≤ x then 6 else if x ≠ 0 then 5 else 4)
def clsV (d : Bool) (a : Nat) : Int := clsX (quietB d) (infB d) (fracT d) (farN d a) (minusN d a)
def noneN (d : Bool) (a : Nat) : Bool := decide (infB d < farN d a)
def rankV (d : Bool) (a : Nat) : Int := if minusN d a then -1 - (farN d a : Int) else farN d a

theorem isMinus_f (a : Nat) (ha : Hid (a < 18446744073709551616)) (w : World) : Calls Try.prog 40 #[.agg #[.int .i64 8, .int .i64 23], .int .u64 a] w (RetB (minusN false a) w) := by
  have HS : Hid (signB false = 2147483648) := rfl
  have e1 := and_bit a 31 ha.out (by decide)
  rw [show ((2 ^ 31 : Nat) : Int) = 2147483648 by decide] at e1
  have E1 := Lib.hid e1; clear e1
  go_enter Try.func40, Try.ntmps40
  go_wp2_with fail
  refine (sign_c false _ _ (.inl ⟨rfl, rfl, rfl⟩) _).mono ?_; rintro e w1 ⟨rfl, hb1⟩; obtain ⟨hc1, hf1⟩ := bcell hb1; have hz1 := hb1.size; (try simp only [sz_alloc, sz_drew, sz_set] at hz1 hc1 hf1); have l1_0 : w.heap.size < w1.heap.size := (by omega); have n1_0 : ¬ w.heap.size = w1.heap.size := (by omega); have m1_0 : ¬ w1.heap.size = w.heap.size := (by omega); have k1_0 := fun o => hc1 (w.heap.size) o (by omega); have f1_0 := fun o => hf1 (w.heap.size) o (by omega); (try simp (disch := (first | rfl | omega | (simp only [sz_alloc, sz_drew, sz_set]; omega))) only [sz_alloc, sz_drew, sz_set, World.cell?_drew, World.frozen?_drew, World.cell?_alloc_at, World.cell?_alloc_past, World.frozen?_alloc_at, World.frozen?_alloc_past] at k1_0 f1_0)
  rw [HS.out]
  go_wp2_with fail
  go_ret
  exact retB_mk E1.out (by repeat (first | (with_reducible first | exact Below.refl _ _ | assumption | exact Nat.le_refl _ | refine Below.drew ?_ | refine Below.alloc ?_ ?_ _ | refine Below.setCell ?_ ?_ _ | refine le_alloc ?_ | refine le_set ?_ | refine le_drew ?_ | refine below_step (by assumption) ?_ ?_ | refine le_below (by assumption) ?_) | (dsimp only; omega)))
theorem far_f (a : Nat) (ha : Hid (a < 18446744073709551616)) (w : World) : Calls Try.prog 66 #[.agg #[.int .i64 8, .int .i64 23], .int .u64 a] w (RetU (farN false a) w) := by
  have HS : Hid (signB false = 2147483648) := rfl
  have e1 : bits .and .u64 (a : Int) 2147483647 = ((a % 2147483648 : Nat) : Int) := and_mask a 31 ha.out (by decide)
  have E1 := Lib.hid e1; clear e1
  go_enter Try.func66, Try.ntmps66
  go_wp2_with fail
  refine (sign_c false _ _ (.inl ⟨rfl, rfl, rfl⟩) _).mono ?_; rintro e w1 ⟨rfl, hb1⟩; obtain ⟨hc1, hf1⟩ := bcell hb1; have hz1 := hb1.size; (try simp only [sz_alloc, sz_drew, sz_set] at hz1 hc1 hf1); have l1_0 : w.heap.size < w1.heap.size := (by omega); have n1_0 : ¬ w.heap.size = w1.heap.size := (by omega); have m1_0 : ¬ w1.heap.size = w.heap.size := (by omega); have k1_0 := fun o => hc1 (w.heap.size) o (by omega); have f1_0 := fun o => hf1 (w.heap.size) o (by omega); (try simp (disch := (first | rfl | omega | (simp only [sz_alloc, sz_drew, sz_set]; omega))) only [sz_alloc, sz_drew, sz_set, World.cell?_drew, World.frozen?_drew, World.cell?_alloc_at, World.cell?_alloc_past, World.frozen?_alloc_at, World.frozen?_alloc_past] at k1_0 f1_0)
  rw [HS.out]
  go_wp2_with fail
  go_ret
  exact retU_mk E1.out (by repeat (first | (with_reducible first | exact Below.refl _ _ | assumption | exact Nat.le_refl _ | refine Below.drew ?_ | refine Below.alloc ?_ ?_ _ | refine Below.setCell ?_ ?_ _ | refine le_alloc ?_ | refine le_set ?_ | refine le_drew ?_ | refine below_step (by assumption) ?_ ?_ | refine le_below (by assumption) ?_) | (dsimp only; omega)))

set_option maxRecDepth 100000 in
set_option maxHeartbeats 2000000 in
theorem class_f (a : Nat) (ha : Hid (a < 18446744073709551616)) (w : World) : Calls Try.prog 41 #[.agg #[.int .i64 8, .int .i64 23], .int .u64 a] w (RetI (clsV false a) w) := by
  have HQ : Hid (((quietB false : Nat) : Int) = 2143289344) := rfl
  have HI : Hid (((infV false false : Nat) : Int) = 2139095040) := rfl
  have HC : Hid (clsV false a = clsX 2143289344 2139095040 8388608 (farN false a) (minusN false a)) := rfl
  have HX : Hid (farN false a < 2147483648) := Nat.mod_lt _ (by decide)
  go_enter Try.func41, Try.ntmps41
  go_wp2_with fail
  refine (far_f a ha _).mono ?_; rintro e w1 ⟨rfl, hb1⟩; obtain ⟨hc1, hf1⟩ := bcell hb1; have hz1 := hb1.size; (try simp only [sz_alloc, sz_drew, sz_set] at hz1 hc1 hf1); have l1_0 : w.heap.size < w1.heap.size := (by omega); have n1_0 : ¬ w.heap.size = w1.heap.size := (by omega); have m1_0 : ¬ w1.heap.size = w.heap.size := (by omega); have k1_0 := fun o => hc1 (w.heap.size) o (by omega); have f1_0 := fun o => hf1 (w.heap.size) o (by omega); (try simp (disch := (first | rfl | omega | (simp only [sz_alloc, sz_drew, sz_set]; omega))) only [sz_alloc, sz_drew, sz_set, World.cell?_drew, World.frozen?_drew, World.cell?_alloc_at, World.cell?_alloc_past, World.frozen?_alloc_at, World.frozen?_alloc_past] at k1_0 f1_0)
  clear hc1 hf1
  generalize farN false a = x at *
  go_wp2_with fail
  refine (quiet_c false _ _ (.inl ⟨rfl, rfl, rfl⟩) _).mono ?_; rintro e w2 ⟨rfl, hb2⟩; obtain ⟨hc2, hf2⟩ := bcell hb2; have hz2 := hb2.size; (try simp only [sz_alloc, sz_drew, sz_set] at hz2 hc2 hf2); have l2_0 : w.heap.size < w2.heap.size := (by omega); have n2_0 : ¬ w.heap.size = w2.heap.size := (by omega); have m2_0 : ¬ w2.heap.size = w.heap.size := (by omega); have k2_0 := fun o => hc2 (w.heap.size) o (by omega); have f2_0 := fun o => hf2 (w.heap.size) o (by omega); (try simp (disch := (first | rfl | omega | (simp only [sz_alloc, sz_drew, sz_set]; omega))) only [sz_alloc, sz_drew, sz_set, World.cell?_drew, World.frozen?_drew, World.cell?_alloc_at, World.cell?_alloc_past, World.frozen?_alloc_at, World.frozen?_alloc_past, hc1, hf1] at k2_0 f2_0)
  clear hc2 hf2
  rw [HQ.out]
  by_cases c1 : 2143289344 ≤ x
  · have g1 : (2143289344 : Int) ≤ (x : Int) := by omega
    have E : Hid (clsV false a = 9) := by show _ = _; rw [HC.out]; unfold clsX; rw [if_pos c1]
    have n1 : ¬ (x : Int) < 2143289344 := by omega
    clear c1
    go_wp2_with fail
    go_ret
    exact retI_mk E.out.symm (by repeat (first | (with_reducible first | exact Below.refl _ _ | assumption | exact Nat.le_refl _ | refine Below.drew ?_ | refine Below.alloc ?_ ?_ _ | refine Below.setCell ?_ ?_ _ | refine le_alloc ?_ | refine le_set ?_ | refine le_drew ?_ | refine below_step (by assumption) ?_ ?_ | refine le_below (by assumption) ?_) | (dsimp only; omega)))
  · have g1 : (x : Int) < 2143289344 := by omega
    have n1 : decide ((2143289344 : Int) ≤ (x : Int)) = false := decide_eq_false (by omega)
    have HC1 : Hid (clsV false a = if 2139095040 < x then 8 else if minusN false a then 7 - (if x = 2139095040 then 7 else if 8388608 ≤ x then 6 else if x ≠ 0 then 5 else 4) else (if x = 2139095040 then 7 else if 8388608 ≤ x then 6 else if x ≠ 0 then 5 else 4)) := by
      show _ = _; rw [HC.out]; unfold clsX; rw [if_neg c1]
    clear c1
    go_wp2_with fail
    refine (infinity_c false _ _ (.inl ⟨rfl, rfl, rfl⟩) _ _).mono ?_; rintro e w3 ⟨rfl, hb3⟩; obtain ⟨hc3, hf3⟩ := bcell hb3; have hz3 := hb3.size; (try simp only [sz_alloc, sz_drew, sz_set] at hz3 hc3 hf3); have l3_0 : w.heap.size < w3.heap.size := (by omega); have n3_0 : ¬ w.heap.size = w3.heap.size := (by omega); have m3_0 : ¬ w3.heap.size = w.heap.size := (by omega); have k3_0 := fun o => hc3 (w.heap.size) o (by omega); have f3_0 := fun o => hf3 (w.heap.size) o (by omega); (try simp (disch := (first | rfl | omega | (simp only [sz_alloc, sz_drew, sz_set]; omega))) only [sz_alloc, sz_drew, sz_set, World.cell?_drew, World.frozen?_drew, World.cell?_alloc_at, World.cell?_alloc_past, World.frozen?_alloc_at, World.frozen?_alloc_past, hc2, hc1, hf2, hf1] at k3_0 f3_0)
    clear hc3 hf3
    rw [HI.out]
    by_cases c2 : 2139095040 < x
    · have g2 : (2139095040 : Int) < (x : Int) := by omega
      have n2 : ¬ (x : Int) ≤ 2139095040 := by omega
      have E : Hid (clsV false a = 8) := by show _ = _; rw [HC1.out, if_pos c2]
      clear c2
      go_wp2_with fail
      go_ret
      exact retI_mk E.out.symm (by repeat (first | (with_reducible first | exact Below.refl _ _ | assumption | exact Nat.le_refl _ | refine Below.drew ?_ | refine Below.alloc ?_ ?_ _ | refine Below.setCell ?_ ?_ _ | refine le_alloc ?_ | refine le_set ?_ | refine le_drew ?_ | refine below_step (by assumption) ?_ ?_ | refine le_below (by assumption) ?_) | (dsimp only; omega)))
    · have g2 : (x : Int) ≤ 2139095040 := by omega
      have n2 : decide ((2139095040 : Int) < (x : Int)) = false := decide_eq_false (by omega)
      have HC2 : Hid (clsV false a = if minusN false a then 7 - (if x = 2139095040 then 7 else if 8388608 ≤ x then 6 else if x ≠ 0 then 5 else 4) else (if x = 2139095040 then 7 else if 8388608 ≤ x then 6 else if x ≠ 0 then 5 else 4)) := by
        show _ = _; rw [HC1.out, if_neg c2]
      clear c2
      go_wp2_with fail
      refine (infinity_c false _ _ (.inl ⟨rfl, rfl, rfl⟩) _ _).mono ?_; rintro e w4 ⟨rfl, hb4⟩; obtain ⟨hc4, hf4⟩ := bcell hb4; have hz4 := hb4.size; (try simp only [sz_alloc, sz_drew, sz_set] at hz4 hc4 hf4); have l4_0 : w.heap.size < w4.heap.size := (by omega); have n4_0 : ¬ w.heap.size = w4.heap.size := (by omega); have m4_0 : ¬ w4.heap.size = w.heap.size := (by omega); have k4_0 := fun o => hc4 (w.heap.size) o (by omega); have f4_0 := fun o => hf4 (w.heap.size) o (by omega); (try simp (disch := (first | rfl | omega | (simp only [sz_alloc, sz_drew, sz_set]; omega))) only [sz_alloc, sz_drew, sz_set, World.cell?_drew, World.frozen?_drew, World.cell?_alloc_at, World.cell?_alloc_past, World.frozen?_alloc_at, World.frozen?_alloc_past, hc3, hc2, hc1, hf3, hf2, hf1] at k4_0 f4_0)
      clear hc4 hf4
      rw [HI.out]
      by_cases c3 : x = 2139095040
      · have g3 : ((x : Int) == 2139095040) = true := by rw [beq_iff_eq]; omega
        have HC3 : Hid (clsV false a = if minusN false a then 0 else 7) := by show _ = _; rw [HC2.out, if_pos c3]; rfl
        clear c3
        go_wp2_with fail
        refine (isMinus_f a ha _).mono ?_; rintro e w5 ⟨rfl, hb5⟩
        generalize minusN false a = m at *
        cases m
        all_goals go_wp2_with fail
        all_goals go_ret
        all_goals exact retI_mk HC3.out.symm (by repeat (first | (with_reducible first | exact Below.refl _ _ | assumption | exact Nat.le_refl _ | refine Below.drew ?_ | refine Below.alloc ?_ ?_ _ | refine Below.setCell ?_ ?_ _ | refine le_alloc ?_ | refine le_set ?_ | refine le_drew ?_ | refine below_step (by assumption) ?_ ?_ | refine le_below (by assumption) ?_) | (dsimp only; omega)))
      · have g3 : ((x : Int) == 2139095040) = false := by rw [beq_eq_false_iff_ne]; omega
        by_cases c4 : 8388608 ≤ x
        · have g4 : (8388608 : Int) ≤ (x : Int) := by omega
          have n4 : ¬ (x : Int) < 8388608 := by omega
          have HC3 : Hid (clsV false a = if minusN false a then 1 else 6) := by show _ = _; rw [HC2.out, if_neg c3, if_pos c4]; rfl
          clear c3 c4
          go_wp2_with fail
          refine (isMinus_f a ha _).mono ?_; rintro e w5 ⟨rfl, hb5⟩
          generalize minusN false a = m at *
          cases m
          all_goals go_wp2_with fail
          all_goals go_ret
          all_goals exact retI_mk HC3.out.symm (by repeat (first | (with_reducible first | exact Below.refl _ _ | assumption | exact Nat.le_refl _ | refine Below.drew ?_ | refine Below.alloc ?_ ?_ _ | refine Below.setCell ?_ ?_ _ | refine le_alloc ?_ | refine le_set ?_ | refine le_drew ?_ | refine below_step (by assumption) ?_ ?_ | refine le_below (by assumption) ?_) | (dsimp only; omega)))
        · have g4 : (x : Int) < 8388608 := by omega
          have n4 : decide ((8388608 : Int) ≤ (x : Int)) = false := decide_eq_false (by omega)
          by_cases c5 : x = 0
          · have g5 : ((x : Int) != 0) = false := by rw [c5]; rfl
            have HC3 : Hid (clsV false a = if minusN false a then 3 else 4) := by show _ = _; rw [HC2.out, if_neg c3, if_neg c4, if_neg (show ¬ x ≠ 0 by omega)]; rfl
            clear c3 c4 c5
            go_wp2_with fail
            refine (isMinus_f a ha _).mono ?_; rintro e w5 ⟨rfl, hb5⟩
            generalize minusN false a = m at *
            cases m
            all_goals go_wp2_with fail
            all_goals go_ret
            all_goals exact retI_mk HC3.out.symm (by repeat (first | (with_reducible first | exact Below.refl _ _ | assumption | exact Nat.le_refl _ | refine Below.drew ?_ | refine Below.alloc ?_ ?_ _ | refine Below.setCell ?_ ?_ _ | refine le_alloc ?_ | refine le_set ?_ | refine le_drew ?_ | refine below_step (by assumption) ?_ ?_ | refine le_below (by assumption) ?_) | (dsimp only; omega)))
          · have g5 : ((x : Int) != 0) = true := by rw [bne_iff_ne]; omega
            have HC3 : Hid (clsV false a = if minusN false a then 2 else 5) := by show _ = _; rw [HC2.out, if_neg c3, if_neg c4, if_pos (show x ≠ 0 by omega)]; rfl
            clear c3 c4 c5
            go_wp2_with fail
            refine (isMinus_f a ha _).mono ?_; rintro e w5 ⟨rfl, hb5⟩
            generalize minusN false a = m at *
            cases m
            all_goals go_wp2_with fail
            all_goals go_ret
            all_goals exact retI_mk HC3.out.symm (by repeat (first | (with_reducible first | exact Below.refl _ _ | assumption | exact Nat.le_refl _ | refine Below.drew ?_ | refine Below.alloc ?_ ?_ _ | refine Below.setCell ?_ ?_ _ | refine le_alloc ?_ | refine le_set ?_ | refine le_drew ?_ | refine below_step (by assumption) ?_ ?_ | refine le_below (by assumption) ?_) | (dsimp only; omega)))

theorem isMinus_t (a : Nat) (ha : Hid (a < 18446744073709551616)) (w : World) : Calls Try.prog 40 #[.agg #[.int .i64 11, .int .i64 52], .int .u64 a] w (RetB (minusN true a) w) := by
  have HS : Hid (signB true = 9223372036854775808) := rfl
  have e1 := and_bit a 63 ha.out (by decide)
  rw [show ((2 ^ 63 : Nat) : Int) = 9223372036854775808 by decide] at e1
  have E1 := Lib.hid e1; clear e1
  go_enter Try.func40, Try.ntmps40
  go_wp2_with fail
  refine (sign_c true _ _ (.inr ⟨rfl, rfl, rfl⟩) _).mono ?_; rintro e w1 ⟨rfl, hb1⟩; obtain ⟨hc1, hf1⟩ := bcell hb1; have hz1 := hb1.size; (try simp only [sz_alloc, sz_drew, sz_set] at hz1 hc1 hf1); have l1_0 : w.heap.size < w1.heap.size := (by omega); have n1_0 : ¬ w.heap.size = w1.heap.size := (by omega); have m1_0 : ¬ w1.heap.size = w.heap.size := (by omega); have k1_0 := fun o => hc1 (w.heap.size) o (by omega); have f1_0 := fun o => hf1 (w.heap.size) o (by omega); (try simp (disch := (first | rfl | omega | (simp only [sz_alloc, sz_drew, sz_set]; omega))) only [sz_alloc, sz_drew, sz_set, World.cell?_drew, World.frozen?_drew, World.cell?_alloc_at, World.cell?_alloc_past, World.frozen?_alloc_at, World.frozen?_alloc_past] at k1_0 f1_0)
  rw [HS.out]
  go_wp2_with fail
  go_ret
  exact retB_mk E1.out (by repeat (first | (with_reducible first | exact Below.refl _ _ | assumption | exact Nat.le_refl _ | refine Below.drew ?_ | refine Below.alloc ?_ ?_ _ | refine Below.setCell ?_ ?_ _ | refine le_alloc ?_ | refine le_set ?_ | refine le_drew ?_ | refine below_step (by assumption) ?_ ?_ | refine le_below (by assumption) ?_) | (dsimp only; omega)))
theorem far_t (a : Nat) (ha : Hid (a < 18446744073709551616)) (w : World) : Calls Try.prog 66 #[.agg #[.int .i64 11, .int .i64 52], .int .u64 a] w (RetU (farN true a) w) := by
  have HS : Hid (signB true = 9223372036854775808) := rfl
  have e1 : bits .and .u64 (a : Int) 9223372036854775807 = ((a % 9223372036854775808 : Nat) : Int) := and_mask a 63 ha.out (by decide)
  have E1 := Lib.hid e1; clear e1
  go_enter Try.func66, Try.ntmps66
  go_wp2_with fail
  refine (sign_c true _ _ (.inr ⟨rfl, rfl, rfl⟩) _).mono ?_; rintro e w1 ⟨rfl, hb1⟩; obtain ⟨hc1, hf1⟩ := bcell hb1; have hz1 := hb1.size; (try simp only [sz_alloc, sz_drew, sz_set] at hz1 hc1 hf1); have l1_0 : w.heap.size < w1.heap.size := (by omega); have n1_0 : ¬ w.heap.size = w1.heap.size := (by omega); have m1_0 : ¬ w1.heap.size = w.heap.size := (by omega); have k1_0 := fun o => hc1 (w.heap.size) o (by omega); have f1_0 := fun o => hf1 (w.heap.size) o (by omega); (try simp (disch := (first | rfl | omega | (simp only [sz_alloc, sz_drew, sz_set]; omega))) only [sz_alloc, sz_drew, sz_set, World.cell?_drew, World.frozen?_drew, World.cell?_alloc_at, World.cell?_alloc_past, World.frozen?_alloc_at, World.frozen?_alloc_past] at k1_0 f1_0)
  rw [HS.out]
  go_wp2_with fail
  go_ret
  exact retU_mk E1.out (by repeat (first | (with_reducible first | exact Below.refl _ _ | assumption | exact Nat.le_refl _ | refine Below.drew ?_ | refine Below.alloc ?_ ?_ _ | refine Below.setCell ?_ ?_ _ | refine le_alloc ?_ | refine le_set ?_ | refine le_drew ?_ | refine below_step (by assumption) ?_ ?_ | refine le_below (by assumption) ?_) | (dsimp only; omega)))

set_option maxRecDepth 100000 in
set_option maxHeartbeats 2000000 in
theorem class_t (a : Nat) (ha : Hid (a < 18446744073709551616)) (w : World) : Calls Try.prog 41 #[.agg #[.int .i64 11, .int .i64 52], .int .u64 a] w (RetI (clsV true a) w) := by
  have HQ : Hid (((quietB true : Nat) : Int) = 9221120237041090560) := rfl
  have HI : Hid (((infV true false : Nat) : Int) = 9218868437227405312) := rfl
  have HC : Hid (clsV true a = clsX 9221120237041090560 9218868437227405312 4503599627370496 (farN true a) (minusN true a)) := rfl
  have HX : Hid (farN true a < 9223372036854775808) := Nat.mod_lt _ (by decide)
  go_enter Try.func41, Try.ntmps41
  go_wp2_with fail
  refine (far_t a ha _).mono ?_; rintro e w1 ⟨rfl, hb1⟩; obtain ⟨hc1, hf1⟩ := bcell hb1; have hz1 := hb1.size; (try simp only [sz_alloc, sz_drew, sz_set] at hz1 hc1 hf1); have l1_0 : w.heap.size < w1.heap.size := (by omega); have n1_0 : ¬ w.heap.size = w1.heap.size := (by omega); have m1_0 : ¬ w1.heap.size = w.heap.size := (by omega); have k1_0 := fun o => hc1 (w.heap.size) o (by omega); have f1_0 := fun o => hf1 (w.heap.size) o (by omega); (try simp (disch := (first | rfl | omega | (simp only [sz_alloc, sz_drew, sz_set]; omega))) only [sz_alloc, sz_drew, sz_set, World.cell?_drew, World.frozen?_drew, World.cell?_alloc_at, World.cell?_alloc_past, World.frozen?_alloc_at, World.frozen?_alloc_past] at k1_0 f1_0)
  clear hc1 hf1
  generalize farN true a = x at *
  go_wp2_with fail
  refine (quiet_c true _ _ (.inr ⟨rfl, rfl, rfl⟩) _).mono ?_; rintro e w2 ⟨rfl, hb2⟩; obtain ⟨hc2, hf2⟩ := bcell hb2; have hz2 := hb2.size; (try simp only [sz_alloc, sz_drew, sz_set] at hz2 hc2 hf2); have l2_0 : w.heap.size < w2.heap.size := (by omega); have n2_0 : ¬ w.heap.size = w2.heap.size := (by omega); have m2_0 : ¬ w2.heap.size = w.heap.size := (by omega); have k2_0 := fun o => hc2 (w.heap.size) o (by omega); have f2_0 := fun o => hf2 (w.heap.size) o (by omega); (try simp (disch := (first | rfl | omega | (simp only [sz_alloc, sz_drew, sz_set]; omega))) only [sz_alloc, sz_drew, sz_set, World.cell?_drew, World.frozen?_drew, World.cell?_alloc_at, World.cell?_alloc_past, World.frozen?_alloc_at, World.frozen?_alloc_past, hc1, hf1] at k2_0 f2_0)
  clear hc2 hf2
  rw [HQ.out]
  by_cases c1 : 9221120237041090560 ≤ x
  · have g1 : (9221120237041090560 : Int) ≤ (x : Int) := by omega
    have E : Hid (clsV true a = 9) := by show _ = _; rw [HC.out]; unfold clsX; rw [if_pos c1]
    have n1 : ¬ (x : Int) < 9221120237041090560 := by omega
    clear c1
    go_wp2_with fail
    go_ret
    exact retI_mk E.out.symm (by repeat (first | (with_reducible first | exact Below.refl _ _ | assumption | exact Nat.le_refl _ | refine Below.drew ?_ | refine Below.alloc ?_ ?_ _ | refine Below.setCell ?_ ?_ _ | refine le_alloc ?_ | refine le_set ?_ | refine le_drew ?_ | refine below_step (by assumption) ?_ ?_ | refine le_below (by assumption) ?_) | (dsimp only; omega)))
  · have g1 : (x : Int) < 9221120237041090560 := by omega
    have n1 : decide ((9221120237041090560 : Int) ≤ (x : Int)) = false := decide_eq_false (by omega)
    have HC1 : Hid (clsV true a = if 9218868437227405312 < x then 8 else if minusN true a then 7 - (if x = 9218868437227405312 then 7 else if 4503599627370496 ≤ x then 6 else if x ≠ 0 then 5 else 4) else (if x = 9218868437227405312 then 7 else if 4503599627370496 ≤ x then 6 else if x ≠ 0 then 5 else 4)) := by
      show _ = _; rw [HC.out]; unfold clsX; rw [if_neg c1]
    clear c1
    go_wp2_with fail
    refine (infinity_c true _ _ (.inr ⟨rfl, rfl, rfl⟩) _ _).mono ?_; rintro e w3 ⟨rfl, hb3⟩; obtain ⟨hc3, hf3⟩ := bcell hb3; have hz3 := hb3.size; (try simp only [sz_alloc, sz_drew, sz_set] at hz3 hc3 hf3); have l3_0 : w.heap.size < w3.heap.size := (by omega); have n3_0 : ¬ w.heap.size = w3.heap.size := (by omega); have m3_0 : ¬ w3.heap.size = w.heap.size := (by omega); have k3_0 := fun o => hc3 (w.heap.size) o (by omega); have f3_0 := fun o => hf3 (w.heap.size) o (by omega); (try simp (disch := (first | rfl | omega | (simp only [sz_alloc, sz_drew, sz_set]; omega))) only [sz_alloc, sz_drew, sz_set, World.cell?_drew, World.frozen?_drew, World.cell?_alloc_at, World.cell?_alloc_past, World.frozen?_alloc_at, World.frozen?_alloc_past, hc2, hc1, hf2, hf1] at k3_0 f3_0)
    clear hc3 hf3
    rw [HI.out]
    by_cases c2 : 9218868437227405312 < x
    · have g2 : (9218868437227405312 : Int) < (x : Int) := by omega
      have n2 : ¬ (x : Int) ≤ 9218868437227405312 := by omega
      have E : Hid (clsV true a = 8) := by show _ = _; rw [HC1.out, if_pos c2]
      clear c2
      go_wp2_with fail
      go_ret
      exact retI_mk E.out.symm (by repeat (first | (with_reducible first | exact Below.refl _ _ | assumption | exact Nat.le_refl _ | refine Below.drew ?_ | refine Below.alloc ?_ ?_ _ | refine Below.setCell ?_ ?_ _ | refine le_alloc ?_ | refine le_set ?_ | refine le_drew ?_ | refine below_step (by assumption) ?_ ?_ | refine le_below (by assumption) ?_) | (dsimp only; omega)))
    · have g2 : (x : Int) ≤ 9218868437227405312 := by omega
      have n2 : decide ((9218868437227405312 : Int) < (x : Int)) = false := decide_eq_false (by omega)
      have HC2 : Hid (clsV true a = if minusN true a then 7 - (if x = 9218868437227405312 then 7 else if 4503599627370496 ≤ x then 6 else if x ≠ 0 then 5 else 4) else (if x = 9218868437227405312 then 7 else if 4503599627370496 ≤ x then 6 else if x ≠ 0 then 5 else 4)) := by
        show _ = _; rw [HC1.out, if_neg c2]
      clear c2
      go_wp2_with fail
      refine (infinity_c true _ _ (.inr ⟨rfl, rfl, rfl⟩) _ _).mono ?_; rintro e w4 ⟨rfl, hb4⟩; obtain ⟨hc4, hf4⟩ := bcell hb4; have hz4 := hb4.size; (try simp only [sz_alloc, sz_drew, sz_set] at hz4 hc4 hf4); have l4_0 : w.heap.size < w4.heap.size := (by omega); have n4_0 : ¬ w.heap.size = w4.heap.size := (by omega); have m4_0 : ¬ w4.heap.size = w.heap.size := (by omega); have k4_0 := fun o => hc4 (w.heap.size) o (by omega); have f4_0 := fun o => hf4 (w.heap.size) o (by omega); (try simp (disch := (first | rfl | omega | (simp only [sz_alloc, sz_drew, sz_set]; omega))) only [sz_alloc, sz_drew, sz_set, World.cell?_drew, World.frozen?_drew, World.cell?_alloc_at, World.cell?_alloc_past, World.frozen?_alloc_at, World.frozen?_alloc_past, hc3, hc2, hc1, hf3, hf2, hf1] at k4_0 f4_0)
      clear hc4 hf4
      rw [HI.out]
      by_cases c3 : x = 9218868437227405312
      · have g3 : ((x : Int) == 9218868437227405312) = true := by rw [beq_iff_eq]; omega
        have HC3 : Hid (clsV true a = if minusN true a then 0 else 7) := by show _ = _; rw [HC2.out, if_pos c3]; rfl
        clear c3
        go_wp2_with fail
        refine (isMinus_t a ha _).mono ?_; rintro e w5 ⟨rfl, hb5⟩
        generalize minusN true a = m at *
        cases m
        all_goals go_wp2_with fail
        all_goals go_ret
        all_goals exact retI_mk HC3.out.symm (by repeat (first | (with_reducible first | exact Below.refl _ _ | assumption | exact Nat.le_refl _ | refine Below.drew ?_ | refine Below.alloc ?_ ?_ _ | refine Below.setCell ?_ ?_ _ | refine le_alloc ?_ | refine le_set ?_ | refine le_drew ?_ | refine below_step (by assumption) ?_ ?_ | refine le_below (by assumption) ?_) | (dsimp only; omega)))
      · have g3 : ((x : Int) == 9218868437227405312) = false := by rw [beq_eq_false_iff_ne]; omega
        by_cases c4 : 4503599627370496 ≤ x
        · have g4 : (4503599627370496 : Int) ≤ (x : Int) := by omega
          have n4 : ¬ (x : Int) < 4503599627370496 := by omega
          have HC3 : Hid (clsV true a = if minusN true a then 1 else 6) := by show _ = _; rw [HC2.out, if_neg c3, if_pos c4]; rfl
          clear c3 c4
          go_wp2_with fail
          refine (isMinus_t a ha _).mono ?_; rintro e w5 ⟨rfl, hb5⟩
          generalize minusN true a = m at *
          cases m
          all_goals go_wp2_with fail
          all_goals go_ret
          all_goals exact retI_mk HC3.out.symm (by repeat (first | (with_reducible first | exact Below.refl _ _ | assumption | exact Nat.le_refl _ | refine Below.drew ?_ | refine Below.alloc ?_ ?_ _ | refine Below.setCell ?_ ?_ _ | refine le_alloc ?_ | refine le_set ?_ | refine le_drew ?_ | refine below_step (by assumption) ?_ ?_ | refine le_below (by assumption) ?_) | (dsimp only; omega)))
        · have g4 : (x : Int) < 4503599627370496 := by omega
          have n4 : decide ((4503599627370496 : Int) ≤ (x : Int)) = false := decide_eq_false (by omega)
          by_cases c5 : x = 0
          · have g5 : ((x : Int) != 0) = false := by rw [c5]; rfl
            have HC3 : Hid (clsV true a = if minusN true a then 3 else 4) := by show _ = _; rw [HC2.out, if_neg c3, if_neg c4, if_neg (show ¬ x ≠ 0 by omega)]; rfl
            clear c3 c4 c5
            go_wp2_with fail
            refine (isMinus_t a ha _).mono ?_; rintro e w5 ⟨rfl, hb5⟩
            generalize minusN true a = m at *
            cases m
            all_goals go_wp2_with fail
            all_goals go_ret
            all_goals exact retI_mk HC3.out.symm (by repeat (first | (with_reducible first | exact Below.refl _ _ | assumption | exact Nat.le_refl _ | refine Below.drew ?_ | refine Below.alloc ?_ ?_ _ | refine Below.setCell ?_ ?_ _ | refine le_alloc ?_ | refine le_set ?_ | refine le_drew ?_ | refine below_step (by assumption) ?_ ?_ | refine le_below (by assumption) ?_) | (dsimp only; omega)))
          · have g5 : ((x : Int) != 0) = true := by rw [bne_iff_ne]; omega
            have HC3 : Hid (clsV true a = if minusN true a then 2 else 5) := by show _ = _; rw [HC2.out, if_neg c3, if_neg c4, if_pos (show x ≠ 0 by omega)]; rfl
            clear c3 c4 c5
            go_wp2_with fail
            refine (isMinus_t a ha _).mono ?_; rintro e w5 ⟨rfl, hb5⟩
            generalize minusN true a = m at *
            cases m
            all_goals go_wp2_with fail
            all_goals go_ret
            all_goals exact retI_mk HC3.out.symm (by repeat (first | (with_reducible first | exact Below.refl _ _ | assumption | exact Nat.le_refl _ | refine Below.drew ?_ | refine Below.alloc ?_ ?_ _ | refine Below.setCell ?_ ?_ _ | refine le_alloc ?_ | refine le_set ?_ | refine le_drew ?_ | refine below_step (by assumption) ?_ ?_ | refine le_below (by assumption) ?_) | (dsimp only; omega)))
end Go.Proofs.Yteinjalnkhfecaa
