/- The contracts of what conv asks of a float, continued. -/
import Derived.Test.YteinjalnkhfecaaB2
namespace Go.Proofs.Yteinjalnkhfecaa
open Go.ChangeShapes Go.WideShapes Go.ChangeAt Go.RowKit
set_option linter.unusedVariables false
set_option linter.unusedSimpArgs false
def noneV (d : Bool) (a : Nat) : Bool := decide (8 ≤ clsV d a)
def flagS (c1 c2 : Int) : Int := if c1 = 8 ∨ c2 = 8 then 16 else 0

theorem bits_num_f (a : Nat) (ha : a < 18446744073709551616) : bits .or .u64 ((farN false a : Nat) : Int) (bits .and .u64 (a : Int) 2147483648) = (maskN false a : Int) := by
  have e : bits .and .u64 (a : Int) 2147483648 = ((a / 2147483648 % 2 * 2147483648 : Nat) : Int) := by
    rw [show (2147483648 : Int) = ((2 ^ 31 : Nat) : Int) by decide, u64_and_nat _ _ ha (by decide), nat_bit]
  have f : farN false a < 2147483648 := Nat.mod_lt _ (by decide)
  have g : a / 2147483648 % 2 < 2 := Nat.mod_lt _ (by decide)
  rw [e, bits_or_u64_nat _ _ (by omega) (by omega), Nat.or_comm, or_disj 31 _ _ (by simp) f, Nat.add_comm]
  rfl

theorem bits_num_t (a : Nat) (ha : a < 18446744073709551616) : bits .or .u64 ((farN true a : Nat) : Int) (bits .and .u64 (a : Int) 9223372036854775808) = (maskN true a : Int) := by
  have e : bits .and .u64 (a : Int) 9223372036854775808 = ((a / 9223372036854775808 % 2 * 9223372036854775808 : Nat) : Int) := by
    rw [show (9223372036854775808 : Int) = ((2 ^ 63 : Nat) : Int) by decide, u64_and_nat _ _ ha (by decide), nat_bit]
  have f : farN true a < 9223372036854775808 := Nat.mod_lt _ (by decide)
  have g : a / 9223372036854775808 % 2 < 2 := Nat.mod_lt _ (by decide)
  rw [e, bits_or_u64_nat _ _ (by omega) (by omega), Nat.or_comm, or_disj 63 _ _ (by simp) f, Nat.add_comm]
  rfl

theorem isNone_f (a : Nat) (ha : Hid (a < 18446744073709551616)) (w : World) : Calls Try.prog 68 #[.agg #[.int .i64 8, .int .i64 23], .int .u64 a] w (RetB (noneV false a) w) := by
  have HN : Hid (noneV false a = decide (8 ≤ clsV false a)) := rfl
  go_enter Try.func68, Try.ntmps68
  go_wp2_with fail
  refine (class_f a ha _).mono ?_; rintro e w1 ⟨rfl, hb1⟩
  generalize clsV false a = c at *
  go_wp2_with fail
  go_ret
  exact retB_mk HN.out.symm (by repeat (first | (with_reducible first | exact Below.refl _ _ | assumption | exact Nat.le_refl _ | refine Below.drew ?_ | refine Below.alloc ?_ ?_ _ | refine Below.setCell ?_ ?_ _ | refine le_alloc ?_ | refine le_set ?_ | refine le_drew ?_ | refine below_step (by assumption) ?_ ?_ | refine le_below (by assumption) ?_) | (dsimp only; omega)))
set_option maxHeartbeats 1000000 in
theorem ofSig2_f (x y : Nat) (hx : Hid (x < 18446744073709551616)) (hy : Hid (y < 18446744073709551616)) (w : World) (a : Nat) (ha : a < w.heap.size) (h0 : ∀ o, w.cell? ⟨a, o, none⟩ = (#[.int .u64 x, .int .u64 y] : Array Value)[o]?) :
    Calls Try.prog 61 #[.agg #[.int .i64 8, .int .i64 23], .slice (some ⟨a, 0, none⟩) 2 2] w (RetI (flagS (clsV false x) (clsV false y)) w) := by
  go_enter Try.func61, Try.ntmps61
  go_wp2_with fail
  refine wp_loop_rounds 3 ?_
  rw [rounds_succ]
  go_wp2_with fail
  refine (class_f x hx _).mono ?_; rintro e w1 ⟨rfl, hb1⟩; obtain ⟨hc1, hf1⟩ := bcell hb1; have hz1 := hb1.size; (try simp only [sz_alloc, sz_drew, sz_set] at hz1 hc1 hf1); have l1_0 : w.heap.size < w1.heap.size := (by omega); have n1_0 : ¬ w.heap.size = w1.heap.size := (by omega); have m1_0 : ¬ w1.heap.size = w.heap.size := (by omega); have k1_0 := fun o => hc1 (w.heap.size) o (by omega); have f1_0 := fun o => hf1 (w.heap.size) o (by omega); (try simp (disch := (first | rfl | omega | (simp only [sz_alloc, sz_drew, sz_set]; omega))) only [sz_alloc, sz_drew, sz_set, World.cell?_drew, World.frozen?_drew, World.cell?_alloc_at, World.cell?_alloc_past, World.frozen?_alloc_at, World.frozen?_alloc_past] at k1_0 f1_0); have l1_1 : a < w1.heap.size := (by omega); have n1_1 : ¬ a = w1.heap.size := (by omega); have m1_1 : ¬ w1.heap.size = a := (by omega); have k1_1 := fun o => hc1 (a) o (by omega); have f1_1 := fun o => hf1 (a) o (by omega); (try simp (disch := (first | rfl | omega | (simp only [sz_alloc, sz_drew, sz_set]; omega))) only [sz_alloc, sz_drew, sz_set, World.cell?_drew, World.frozen?_drew, World.cell?_alloc_at, World.cell?_alloc_past, World.frozen?_alloc_at, World.frozen?_alloc_past] at k1_1 f1_1)
  clear hc1 hf1
  generalize hq1 : clsV false x = c1
  have HQ1 := Lib.hid hq1; clear hq1
  by_cases h1 : c1 = 8
  · have g1 : (c1 == 8) = true := by rw [beq_iff_eq]; exact h1
    have E : Hid (flagS (clsV false x) (clsV false y) = 16) := by show _ = _; rw [HQ1.out]; unfold flagS; rw [if_pos (.inl h1)]
    clear h1
    go_wp2_with fail
    go_ret
    exact retI_mk E.out.symm (by repeat (first | (with_reducible first | exact Below.refl _ _ | assumption | exact Nat.le_refl _ | refine Below.drew ?_ | refine Below.alloc ?_ ?_ _ | refine Below.setCell ?_ ?_ _ | refine le_alloc ?_ | refine le_set ?_ | refine le_drew ?_ | refine below_step (by assumption) ?_ ?_ | refine le_below (by assumption) ?_) | (dsimp only; omega)))
  · have g1 : (c1 == 8) = false := by rw [beq_eq_false_iff_ne]; exact h1
    have H1 := Lib.hid h1; clear h1
    go_wp2_with fail
    rw [rounds_succ]
    go_wp2_with fail
    refine (class_f y hy _).mono ?_; rintro e w2 ⟨rfl, hb2⟩; obtain ⟨hc2, hf2⟩ := bcell hb2; have hz2 := hb2.size; (try simp only [sz_alloc, sz_drew, sz_set] at hz2 hc2 hf2); have l2_0 : w.heap.size < w2.heap.size := (by omega); have n2_0 : ¬ w.heap.size = w2.heap.size := (by omega); have m2_0 : ¬ w2.heap.size = w.heap.size := (by omega); have k2_0 := fun o => hc2 (w.heap.size) o (by omega); have f2_0 := fun o => hf2 (w.heap.size) o (by omega); (try simp (disch := (first | rfl | omega | (simp only [sz_alloc, sz_drew, sz_set]; omega))) only [sz_alloc, sz_drew, sz_set, World.cell?_drew, World.frozen?_drew, World.cell?_alloc_at, World.cell?_alloc_past, World.frozen?_alloc_at, World.frozen?_alloc_past, hc1, hf1] at k2_0 f2_0); have l2_1 : a < w2.heap.size := (by omega); have n2_1 : ¬ a = w2.heap.size := (by omega); have m2_1 : ¬ w2.heap.size = a := (by omega); have k2_1 := fun o => hc2 (a) o (by omega); have f2_1 := fun o => hf2 (a) o (by omega); (try simp (disch := (first | rfl | omega | (simp only [sz_alloc, sz_drew, sz_set]; omega))) only [sz_alloc, sz_drew, sz_set, World.cell?_drew, World.frozen?_drew, World.cell?_alloc_at, World.cell?_alloc_past, World.frozen?_alloc_at, World.frozen?_alloc_past, hc1, hf1] at k2_1 f2_1)
    clear hc2 hf2
    generalize hq2 : clsV false y = c2
    have HQ2 := Lib.hid hq2; clear hq2
    by_cases h2 : c2 = 8
    · have g2 : (c2 == 8) = true := by rw [beq_iff_eq]; exact h2
      have E : Hid (flagS (clsV false x) (clsV false y) = 16) := by show _ = _; rw [HQ1.out, HQ2.out]; unfold flagS; rw [if_pos (.inr h2)]
      clear h2
      go_wp2_with fail
      go_ret
      exact retI_mk E.out.symm (by repeat (first | (with_reducible first | exact Below.refl _ _ | assumption | exact Nat.le_refl _ | refine Below.drew ?_ | refine Below.alloc ?_ ?_ _ | refine Below.setCell ?_ ?_ _ | refine le_alloc ?_ | refine le_set ?_ | refine le_drew ?_ | refine below_step (by assumption) ?_ ?_ | refine le_below (by assumption) ?_) | (dsimp only; omega)))
    · have g2 : (c2 == 8) = false := by rw [beq_eq_false_iff_ne]; exact h2
      have E : Hid (flagS (clsV false x) (clsV false y) = 0) := by show _ = _; rw [HQ1.out, HQ2.out]; unfold flagS; rw [if_neg (by intro h; rcases h with h | h; exact H1.out h; exact h2 h)]
      clear h2
      go_wp2_with fail
      rw [rounds_succ]
      go_wp2_with fail
      go_ret
      exact retI_mk E.out.symm (by repeat (first | (with_reducible first | exact Below.refl _ _ | assumption | exact Nat.le_refl _ | refine Below.drew ?_ | refine Below.alloc ?_ ?_ _ | refine Below.setCell ?_ ?_ _ | refine le_alloc ?_ | refine le_set ?_ | refine le_drew ?_ | refine below_step (by assumption) ?_ ?_ | refine le_below (by assumption) ?_) | (dsimp only; omega)))
theorem bits_f (a : Nat) (ha : Hid (a < 18446744073709551616)) (w : World) : Calls Try.prog 69 #[.agg #[.int .i64 8, .int .i64 23], .int .u64 a] w (RetU (maskN false a) w) := by
  have HS : Hid (signB false = 2147483648) := rfl
  have HM : Hid (bits .or .u64 ((farN false a : Nat) : Int) (bits .and .u64 (a : Int) 2147483648) = (maskN false a : Int)) := bits_num_f a ha.out
  go_enter Try.func69, Try.ntmps69
  go_wp2_with fail
  go_region_held3 (fun w' => w'.cell? ⟨w.heap.size, 0, none⟩ = some (.int .i64 8) ∧ w'.cell? ⟨w.heap.size, 1, none⟩ = some (.int .i64 23)) (go_keep)
    (first
      | (go_at_call 66; refine (far_f a ha _).mono ?_; rintro e w1 ⟨rfl, hb1⟩; obtain ⟨hc1, hf1⟩ := bcell hb1; have hz1 := hb1.size; (try simp only [sz_alloc, sz_drew, sz_set] at hz1 hc1 hf1); have l1_0 : w.heap.size < w1.heap.size := (by omega); have n1_0 : ¬ w.heap.size = w1.heap.size := (by omega); have m1_0 : ¬ w1.heap.size = w.heap.size := (by omega); have k1_0 := fun o => hc1 (w.heap.size) o (by omega); have f1_0 := fun o => hf1 (w.heap.size) o (by omega); (try simp (disch := (first | rfl | omega | (simp only [sz_alloc, sz_drew, sz_set]; omega))) only [sz_alloc, sz_drew, sz_set, World.cell?_drew, World.frozen?_drew, World.cell?_alloc_at, World.cell?_alloc_past, World.frozen?_alloc_at, World.frozen?_alloc_past] at k1_0 f1_0))
      | (go_at_call 67; refine (sign_c false _ _ (.inl ⟨rfl, rfl, rfl⟩) _).mono ?_; rintro e w2 ⟨rfl, hb2⟩; obtain ⟨hc2, hf2⟩ := bcell hb2; have hz2 := hb2.size; (try simp only [sz_alloc, sz_drew, sz_set] at hz2 hc2 hf2); have l2_0 : w.heap.size < w2.heap.size := (by omega); have n2_0 : ¬ w.heap.size = w2.heap.size := (by omega); have m2_0 : ¬ w2.heap.size = w.heap.size := (by omega); have k2_0 := fun o => hc2 (w.heap.size) o (by omega); have f2_0 := fun o => hf2 (w.heap.size) o (by omega); (try simp (disch := (first | rfl | omega | (simp only [sz_alloc, sz_drew, sz_set]; omega))) only [sz_alloc, sz_drew, sz_set, World.cell?_drew, World.frozen?_drew, World.cell?_alloc_at, World.cell?_alloc_past, World.frozen?_alloc_at, World.frozen?_alloc_past] at k2_0 f2_0)))
  all_goals (try rw [HS.out])
  all_goals go_wp2_with fail
  all_goals go_ret
  all_goals exact retU_mk HM.out (by repeat (first | (with_reducible first | exact Below.refl _ _ | assumption | exact Nat.le_refl _ | refine Below.drew ?_ | refine Below.alloc ?_ ?_ _ | refine Below.setCell ?_ ?_ _ | refine le_alloc ?_ | refine le_set ?_ | refine le_drew ?_ | refine below_step (by assumption) ?_ ?_ | refine le_below (by assumption) ?_) | (dsimp only; omega)))
theorem rank_f (a : Nat) (ha : Hid (a < 18446744073709551616)) (w : World) : Calls Try.prog 70 #[.agg #[.int .i64 8, .int .i64 23], .int .u64 a] w (RetI (rankV false a) w) := by
  have HR : Hid (rankV false a = if minusN false a then -1 - (farN false a : Int) else farN false a) := rfl
  have HX : Hid (farN false a < 2147483648) := Nat.mod_lt _ (by decide)
  go_enter Try.func70, Try.ntmps70
  go_wp2_with fail
  refine (isMinus_f a ha _).mono ?_; rintro e w1 ⟨rfl, hb1⟩; obtain ⟨hc1, hf1⟩ := bcell hb1; have hz1 := hb1.size; (try simp only [sz_alloc, sz_drew, sz_set] at hz1 hc1 hf1); have l1_0 : w.heap.size < w1.heap.size := (by omega); have n1_0 : ¬ w.heap.size = w1.heap.size := (by omega); have m1_0 : ¬ w1.heap.size = w.heap.size := (by omega); have k1_0 := fun o => hc1 (w.heap.size) o (by omega); have f1_0 := fun o => hf1 (w.heap.size) o (by omega); (try simp (disch := (first | rfl | omega | (simp only [sz_alloc, sz_drew, sz_set]; omega))) only [sz_alloc, sz_drew, sz_set, World.cell?_drew, World.frozen?_drew, World.cell?_alloc_at, World.cell?_alloc_past, World.frozen?_alloc_at, World.frozen?_alloc_past] at k1_0 f1_0)
  clear hc1 hf1
  generalize minusN false a = m at *
  cases m
  all_goals go_wp2_with fail
  all_goals (refine (far_f a ha _).mono ?_; rintro e w2 ⟨rfl, hb2⟩)
  all_goals
    generalize farN false a = x at *
    have e1 : wrap64 (x : Int) = x := IntWalk.wrap64_in _ ⟨by omega, by have := HX.out; omega⟩
    have e2 : wrap64 (-1 - (x : Int)) = -1 - (x : Int) := IntWalk.wrap64_in _ ⟨by have := HX.out; omega, by omega⟩
    go_wp2_with fail
    go_ret
    exact retI_mk (by rw [HR.out]; simp [e1, e2]) (by repeat (first | (with_reducible first | exact Below.refl _ _ | assumption | exact Nat.le_refl _ | refine Below.drew ?_ | refine Below.alloc ?_ ?_ _ | refine Below.setCell ?_ ?_ _ | refine le_alloc ?_ | refine le_set ?_ | refine le_drew ?_ | refine below_step (by assumption) ?_ ?_ | refine le_below (by assumption) ?_) | (dsimp only; omega)))

theorem isNone_t (a : Nat) (ha : Hid (a < 18446744073709551616)) (w : World) : Calls Try.prog 68 #[.agg #[.int .i64 11, .int .i64 52], .int .u64 a] w (RetB (noneV true a) w) := by
  have HN : Hid (noneV true a = decide (8 ≤ clsV true a)) := rfl
  go_enter Try.func68, Try.ntmps68
  go_wp2_with fail
  refine (class_t a ha _).mono ?_; rintro e w1 ⟨rfl, hb1⟩
  generalize clsV true a = c at *
  go_wp2_with fail
  go_ret
  exact retB_mk HN.out.symm (by repeat (first | (with_reducible first | exact Below.refl _ _ | assumption | exact Nat.le_refl _ | refine Below.drew ?_ | refine Below.alloc ?_ ?_ _ | refine Below.setCell ?_ ?_ _ | refine le_alloc ?_ | refine le_set ?_ | refine le_drew ?_ | refine below_step (by assumption) ?_ ?_ | refine le_below (by assumption) ?_) | (dsimp only; omega)))
set_option maxHeartbeats 1000000 in
theorem ofSig2_t (x y : Nat) (hx : Hid (x < 18446744073709551616)) (hy : Hid (y < 18446744073709551616)) (w : World) (a : Nat) (ha : a < w.heap.size) (h0 : ∀ o, w.cell? ⟨a, o, none⟩ = (#[.int .u64 x, .int .u64 y] : Array Value)[o]?) :
    Calls Try.prog 61 #[.agg #[.int .i64 11, .int .i64 52], .slice (some ⟨a, 0, none⟩) 2 2] w (RetI (flagS (clsV true x) (clsV true y)) w) := by
  go_enter Try.func61, Try.ntmps61
  go_wp2_with fail
  refine wp_loop_rounds 3 ?_
  rw [rounds_succ]
  go_wp2_with fail
  refine (class_t x hx _).mono ?_; rintro e w1 ⟨rfl, hb1⟩; obtain ⟨hc1, hf1⟩ := bcell hb1; have hz1 := hb1.size; (try simp only [sz_alloc, sz_drew, sz_set] at hz1 hc1 hf1); have l1_0 : w.heap.size < w1.heap.size := (by omega); have n1_0 : ¬ w.heap.size = w1.heap.size := (by omega); have m1_0 : ¬ w1.heap.size = w.heap.size := (by omega); have k1_0 := fun o => hc1 (w.heap.size) o (by omega); have f1_0 := fun o => hf1 (w.heap.size) o (by omega); (try simp (disch := (first | rfl | omega | (simp only [sz_alloc, sz_drew, sz_set]; omega))) only [sz_alloc, sz_drew, sz_set, World.cell?_drew, World.frozen?_drew, World.cell?_alloc_at, World.cell?_alloc_past, World.frozen?_alloc_at, World.frozen?_alloc_past] at k1_0 f1_0); have l1_1 : a < w1.heap.size := (by omega); have n1_1 : ¬ a = w1.heap.size := (by omega); have m1_1 : ¬ w1.heap.size = a := (by omega); have k1_1 := fun o => hc1 (a) o (by omega); have f1_1 := fun o => hf1 (a) o (by omega); (try simp (disch := (first | rfl | omega | (simp only [sz_alloc, sz_drew, sz_set]; omega))) only [sz_alloc, sz_drew, sz_set, World.cell?_drew, World.frozen?_drew, World.cell?_alloc_at, World.cell?_alloc_past, World.frozen?_alloc_at, World.frozen?_alloc_past] at k1_1 f1_1)
  clear hc1 hf1
  generalize hq1 : clsV true x = c1
  have HQ1 := Lib.hid hq1; clear hq1
  by_cases h1 : c1 = 8
  · have g1 : (c1 == 8) = true := by rw [beq_iff_eq]; exact h1
    have E : Hid (flagS (clsV true x) (clsV true y) = 16) := by show _ = _; rw [HQ1.out]; unfold flagS; rw [if_pos (.inl h1)]
    clear h1
    go_wp2_with fail
    go_ret
    exact retI_mk E.out.symm (by repeat (first | (with_reducible first | exact Below.refl _ _ | assumption | exact Nat.le_refl _ | refine Below.drew ?_ | refine Below.alloc ?_ ?_ _ | refine Below.setCell ?_ ?_ _ | refine le_alloc ?_ | refine le_set ?_ | refine le_drew ?_ | refine below_step (by assumption) ?_ ?_ | refine le_below (by assumption) ?_) | (dsimp only; omega)))
  · have g1 : (c1 == 8) = false := by rw [beq_eq_false_iff_ne]; exact h1
    have H1 := Lib.hid h1; clear h1
    go_wp2_with fail
    rw [rounds_succ]
    go_wp2_with fail
    refine (class_t y hy _).mono ?_; rintro e w2 ⟨rfl, hb2⟩; obtain ⟨hc2, hf2⟩ := bcell hb2; have hz2 := hb2.size; (try simp only [sz_alloc, sz_drew, sz_set] at hz2 hc2 hf2); have l2_0 : w.heap.size < w2.heap.size := (by omega); have n2_0 : ¬ w.heap.size = w2.heap.size := (by omega); have m2_0 : ¬ w2.heap.size = w.heap.size := (by omega); have k2_0 := fun o => hc2 (w.heap.size) o (by omega); have f2_0 := fun o => hf2 (w.heap.size) o (by omega); (try simp (disch := (first | rfl | omega | (simp only [sz_alloc, sz_drew, sz_set]; omega))) only [sz_alloc, sz_drew, sz_set, World.cell?_drew, World.frozen?_drew, World.cell?_alloc_at, World.cell?_alloc_past, World.frozen?_alloc_at, World.frozen?_alloc_past, hc1, hf1] at k2_0 f2_0); have l2_1 : a < w2.heap.size := (by omega); have n2_1 : ¬ a = w2.heap.size := (by omega); have m2_1 : ¬ w2.heap.size = a := (by omega); have k2_1 := fun o => hc2 (a) o (by omega); have f2_1 := fun o => hf2 (a) o (by omega); (try simp (disch := (first | rfl | omega | (simp only [sz_alloc, sz_drew, sz_set]; omega))) only [sz_alloc, sz_drew, sz_set, World.cell?_drew, World.frozen?_drew, World.cell?_alloc_at, World.cell?_alloc_past, World.frozen?_alloc_at, World.frozen?_alloc_past, hc1, hf1] at k2_1 f2_1)
    clear hc2 hf2
    generalize hq2 : clsV true y = c2
    have HQ2 := Lib.hid hq2; clear hq2
    by_cases h2 : c2 = 8
    · have g2 : (c2 == 8) = true := by rw [beq_iff_eq]; exact h2
      have E : Hid (flagS (clsV true x) (clsV true y) = 16) := by show _ = _; rw [HQ1.out, HQ2.out]; unfold flagS; rw [if_pos (.inr h2)]
      clear h2
      go_wp2_with fail
      go_ret
      exact retI_mk E.out.symm (by repeat (first | (with_reducible first | exact Below.refl _ _ | assumption | exact Nat.le_refl _ | refine Below.drew ?_ | refine Below.alloc ?_ ?_ _ | refine Below.setCell ?_ ?_ _ | refine le_alloc ?_ | refine le_set ?_ | refine le_drew ?_ | refine below_step (by assumption) ?_ ?_ | refine le_below (by assumption) ?_) | (dsimp only; omega)))
    · have g2 : (c2 == 8) = false := by rw [beq_eq_false_iff_ne]; exact h2
      have E : Hid (flagS (clsV true x) (clsV true y) = 0) := by show _ = _; rw [HQ1.out, HQ2.out]; unfold flagS; rw [if_neg (by intro h; rcases h with h | h; exact H1.out h; exact h2 h)]
      clear h2
      go_wp2_with fail
      rw [rounds_succ]
      go_wp2_with fail
      go_ret
      exact retI_mk E.out.symm (by repeat (first | (with_reducible first | exact Below.refl _ _ | assumption | exact Nat.le_refl _ | refine Below.drew ?_ | refine Below.alloc ?_ ?_ _ | refine Below.setCell ?_ ?_ _ | refine le_alloc ?_ | refine le_set ?_ | refine le_drew ?_ | refine below_step (by assumption) ?_ ?_ | refine le_below (by assumption) ?_) | (dsimp only; omega)))
theorem bits_t (a : Nat) (ha : Hid (a < 18446744073709551616)) (w : World) : Calls Try.prog 69 #[.agg #[.int .i64 11, .int .i64 52], .int .u64 a] w (RetU (maskN true a) w) := by
  have HS : Hid (signB true = 9223372036854775808) := rfl
  have HM : Hid (bits .or .u64 ((farN true a : Nat) : Int) (bits .and .u64 (a : Int) 9223372036854775808) = (maskN true a : Int)) := bits_num_t a ha.out
  go_enter Try.func69, Try.ntmps69
  go_wp2_with fail
  go_region_held3 (fun w' => w'.cell? ⟨w.heap.size, 0, none⟩ = some (.int .i64 11) ∧ w'.cell? ⟨w.heap.size, 1, none⟩ = some (.int .i64 52)) (go_keep)
    (first
      | (go_at_call 66; refine (far_t a ha _).mono ?_; rintro e w1 ⟨rfl, hb1⟩; obtain ⟨hc1, hf1⟩ := bcell hb1; have hz1 := hb1.size; (try simp only [sz_alloc, sz_drew, sz_set] at hz1 hc1 hf1); have l1_0 : w.heap.size < w1.heap.size := (by omega); have n1_0 : ¬ w.heap.size = w1.heap.size := (by omega); have m1_0 : ¬ w1.heap.size = w.heap.size := (by omega); have k1_0 := fun o => hc1 (w.heap.size) o (by omega); have f1_0 := fun o => hf1 (w.heap.size) o (by omega); (try simp (disch := (first | rfl | omega | (simp only [sz_alloc, sz_drew, sz_set]; omega))) only [sz_alloc, sz_drew, sz_set, World.cell?_drew, World.frozen?_drew, World.cell?_alloc_at, World.cell?_alloc_past, World.frozen?_alloc_at, World.frozen?_alloc_past] at k1_0 f1_0))
      | (go_at_call 67; refine (sign_c true _ _ (.inr ⟨rfl, rfl, rfl⟩) _).mono ?_; rintro e w2 ⟨rfl, hb2⟩; obtain ⟨hc2, hf2⟩ := bcell hb2; have hz2 := hb2.size; (try simp only [sz_alloc, sz_drew, sz_set] at hz2 hc2 hf2); have l2_0 : w.heap.size < w2.heap.size := (by omega); have n2_0 : ¬ w.heap.size = w2.heap.size := (by omega); have m2_0 : ¬ w2.heap.size = w.heap.size := (by omega); have k2_0 := fun o => hc2 (w.heap.size) o (by omega); have f2_0 := fun o => hf2 (w.heap.size) o (by omega); (try simp (disch := (first | rfl | omega | (simp only [sz_alloc, sz_drew, sz_set]; omega))) only [sz_alloc, sz_drew, sz_set, World.cell?_drew, World.frozen?_drew, World.cell?_alloc_at, World.cell?_alloc_past, World.frozen?_alloc_at, World.frozen?_alloc_past] at k2_0 f2_0)))
  all_goals (try rw [HS.out])
  all_goals go_wp2_with fail
  all_goals go_ret
  all_goals exact retU_mk HM.out (by repeat (first | (with_reducible first | exact Below.refl _ _ | assumption | exact Nat.le_refl _ | refine Below.drew ?_ | refine Below.alloc ?_ ?_ _ | refine Below.setCell ?_ ?_ _ | refine le_alloc ?_ | refine le_set ?_ | refine le_drew ?_ | refine below_step (by assumption) ?_ ?_ | refine le_below (by assumption) ?_) | (dsimp only; omega)))
theorem rank_t (a : Nat) (ha : Hid (a < 18446744073709551616)) (w : World) : Calls Try.prog 70 #[.agg #[.int .i64 11, .int .i64 52], .int .u64 a] w (RetI (rankV true a) w) := by
  have HR : Hid (rankV true a = if minusN true a then -1 - (farN true a : Int) else farN true a) := rfl
  have HX : Hid (farN true a < 9223372036854775808) := Nat.mod_lt _ (by decide)
  go_enter Try.func70, Try.ntmps70
  go_wp2_with fail
  refine (isMinus_t a ha _).mono ?_; rintro e w1 ⟨rfl, hb1⟩; obtain ⟨hc1, hf1⟩ := bcell hb1; have hz1 := hb1.size; (try simp only [sz_alloc, sz_drew, sz_set] at hz1 hc1 hf1); have l1_0 : w.heap.size < w1.heap.size := (by omega); have n1_0 : ¬ w.heap.size = w1.heap.size := (by omega); have m1_0 : ¬ w1.heap.size = w.heap.size := (by omega); have k1_0 := fun o => hc1 (w.heap.size) o (by omega); have f1_0 := fun o => hf1 (w.heap.size) o (by omega); (try simp (disch := (first | rfl | omega | (simp only [sz_alloc, sz_drew, sz_set]; omega))) only [sz_alloc, sz_drew, sz_set, World.cell?_drew, World.frozen?_drew, World.cell?_alloc_at, World.cell?_alloc_past, World.frozen?_alloc_at, World.frozen?_alloc_past] at k1_0 f1_0)
  clear hc1 hf1
  generalize minusN true a = m at *
  cases m
  all_goals go_wp2_with fail
  all_goals (refine (far_t a ha _).mono ?_; rintro e w2 ⟨rfl, hb2⟩)
  all_goals
    generalize farN true a = x at *
    have e1 : wrap64 (x : Int) = x := IntWalk.wrap64_in _ ⟨by omega, by have := HX.out; omega⟩
    have e2 : wrap64 (-1 - (x : Int)) = -1 - (x : Int) := IntWalk.wrap64_in _ ⟨by have := HX.out; omega, by omega⟩
    go_wp2_with fail
    go_ret
    exact retI_mk (by rw [HR.out]; simp [e1, e2]) (by repeat (first | (with_reducible first | exact Below.refl _ _ | assumption | exact Nat.le_refl _ | refine Below.drew ?_ | refine Below.alloc ?_ ?_ _ | refine Below.setCell ?_ ?_ _ | refine le_alloc ?_ | refine le_set ?_ | refine le_drew ?_ | refine below_step (by assumption) ?_ ?_ | refine le_below (by assumption) ?_) | (dsimp only; omega)))
end Go.Proofs.Yteinjalnkhfecaa
