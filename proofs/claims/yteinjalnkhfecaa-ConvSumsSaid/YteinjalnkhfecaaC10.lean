/- The contracts of the other layout, of one float's flags. -/
import Derived.Test.YteinjalnkhfecaaC9
namespace Go.Proofs.Yteinjalnkhfecaa
open Go.ChangeShapes Go.WideShapes Go.ChangeAt Go.RowKit
set_option linter.unusedVariables false
set_option linter.unusedSimpArgs false
theorem other_c (sz : Int) (d : Bool) (hsz : Hid (SzOk sz d)) (w : World) :
    Calls Try.prog 60 #[.int .i64 sz] w (fun e w' => ∃ E F : Int, e = .returned (.agg #[.int .i64 E, .int .i64 F]) ∧ Hid (Lay (!d) E F) ∧ Below w.heap.size w w') := by
  have hs : sz = if d then 8 else 4 := hsz.out
  subst hs
  cases d
  all_goals
    simp only [Bool.false_eq_true, if_false, if_true]
    go_enter Try.func60, Try.ntmps60
    go_wp2_with fail
  · refine (layoutOf_s 8 true rfl _).mono ?_; rintro e w1 ⟨E, F, rfl, hd, hb1⟩; obtain ⟨hc1, hf1⟩ := bcell hb1; have hz1 := hb1.size; (try simp only [sz_alloc, sz_drew, sz_set] at hz1 hc1 hf1); have l1_0 : w.heap.size < w1.heap.size := (by omega); have n1_0 : ¬ w.heap.size = w1.heap.size := (by omega); have m1_0 : ¬ w1.heap.size = w.heap.size := (by omega); have k1_0 := fun o => hc1 (w.heap.size) o (by omega); have f1_0 := fun o => hf1 (w.heap.size) o (by omega); (try simp (disch := (first | rfl | omega | (simp only [sz_alloc, sz_drew, sz_set]; omega))) only [sz_alloc, sz_drew, sz_set, World.cell?_drew, World.frozen?_drew, World.cell?_alloc_at, World.cell?_alloc_past, World.frozen?_alloc_at, World.frozen?_alloc_past] at k1_0 f1_0)
    go_wp2_with fail
    go_outline
    exact bodyPost_ret (v := .agg #[_, _]) (by simp [results, Try.results60, go_sem, k1_0, sz_set, l1_0, World.cell?_alloc_past] <;> (first | rfl | (repeat' (first | rfl | apply And.intro)))) rfl ⟨E, F, rfl, hd, (by repeat (first | (with_reducible first | exact Below.refl _ _ | assumption | exact Nat.le_refl _ | refine Below.drew ?_ | refine Below.alloc ?_ ?_ _ | refine Below.setCell ?_ ?_ _ | refine le_alloc ?_ | refine le_set ?_ | refine le_drew ?_ | refine below_step (by assumption) ?_ ?_ | refine le_below (by assumption) ?_) | (dsimp only; omega)))⟩
  · refine (layoutOf_s 4 false rfl _).mono ?_; rintro e w1 ⟨E, F, rfl, hd, hb1⟩; obtain ⟨hc1, hf1⟩ := bcell hb1; have hz1 := hb1.size; (try simp only [sz_alloc, sz_drew, sz_set] at hz1 hc1 hf1); have l1_0 : w.heap.size < w1.heap.size := (by omega); have n1_0 : ¬ w.heap.size = w1.heap.size := (by omega); have m1_0 : ¬ w1.heap.size = w.heap.size := (by omega); have k1_0 := fun o => hc1 (w.heap.size) o (by omega); have f1_0 := fun o => hf1 (w.heap.size) o (by omega); (try simp (disch := (first | rfl | omega | (simp only [sz_alloc, sz_drew, sz_set]; omega))) only [sz_alloc, sz_drew, sz_set, World.cell?_drew, World.frozen?_drew, World.cell?_alloc_at, World.cell?_alloc_past, World.frozen?_alloc_at, World.frozen?_alloc_past] at k1_0 f1_0)
    go_wp2_with fail
    go_outline
    exact bodyPost_ret (v := .agg #[_, _]) (by simp [results, Try.results60, go_sem, k1_0, sz_set, l1_0, World.cell?_alloc_past] <;> (first | rfl | (repeat' (first | rfl | apply And.intro)))) rfl ⟨E, F, rfl, hd, (by repeat (first | (with_reducible first | exact Below.refl _ _ | assumption | exact Nat.le_refl _ | refine Below.drew ?_ | refine Below.alloc ?_ ?_ _ | refine Below.setCell ?_ ?_ _ | refine le_alloc ?_ | refine le_set ?_ | refine le_drew ?_ | refine below_step (by assumption) ?_ ?_ | refine le_below (by assumption) ?_) | (dsimp only; omega)))⟩
def flag1 (c : Int) : Int := if c = 8 then 16 else 0
set_option maxHeartbeats 1000000 in
theorem ofSig1_c (d : Bool) (E F : Int) (hd : Hid (Lay d E F)) (x : Nat) (hx : Hid (x < 18446744073709551616)) (w : World) (a : Nat) (ha : a < w.heap.size) (h0 : ∀ o, w.cell? ⟨a, o, none⟩ = (#[.int .u64 x] : Array Value)[o]?) :
    Calls Try.prog 61 #[.agg #[.int .i64 E, .int .i64 F], .slice (some ⟨a, 0, none⟩) 1 1] w (RetI (flag1 (clsV d x)) w) := by
  go_enter Try.func61, Try.ntmps61
  go_wp2_with fail
  refine wp_loop_rounds 2 ?_
  rw [rounds_succ]
  go_wp2_with fail
  refine (class_c d E F hd x hx _).mono ?_; rintro e w1 ⟨rfl, hb1⟩; obtain ⟨hc1, hf1⟩ := bcell hb1; have hz1 := hb1.size; (try simp only [sz_alloc, sz_drew, sz_set] at hz1 hc1 hf1); have l1_0 : w.heap.size < w1.heap.size := (by omega); have n1_0 : ¬ w.heap.size = w1.heap.size := (by omega); have m1_0 : ¬ w1.heap.size = w.heap.size := (by omega); have k1_0 := fun o => hc1 (w.heap.size) o (by omega); have f1_0 := fun o => hf1 (w.heap.size) o (by omega); (try simp (disch := (first | rfl | omega | (simp only [sz_alloc, sz_drew, sz_set]; omega))) only [sz_alloc, sz_drew, sz_set, World.cell?_drew, World.frozen?_drew, World.cell?_alloc_at, World.cell?_alloc_past, World.frozen?_alloc_at, World.frozen?_alloc_past] at k1_0 f1_0); have l1_1 : a < w1.heap.size := (by omega); have n1_1 : ¬ a = w1.heap.size := (by omega); have m1_1 : ¬ w1.heap.size = a := (by omega); have k1_1 := fun o => hc1 (a) o (by omega); have f1_1 := fun o => hf1 (a) o (by omega); (try simp (disch := (first | rfl | omega | (simp only [sz_alloc, sz_drew, sz_set]; omega))) only [sz_alloc, sz_drew, sz_set, World.cell?_drew, World.frozen?_drew, World.cell?_alloc_at, World.cell?_alloc_past, World.frozen?_alloc_at, World.frozen?_alloc_past] at k1_1 f1_1)
  clear hc1 hf1
  generalize hq : clsV d x = c1
  have HQ := Lib.hid hq; clear hq
  by_cases h1 : c1 = 8
  · have g1 : (c1 == 8) = true := by rw [beq_iff_eq]; exact h1
    have E0 : Hid (flag1 c1 = 16) := if_pos h1
    clear h1
    go_wp2_with fail
    go_ret
    exact retI_mk (by rw [HQ.out]; exact E0.out.symm) (by repeat (first | (with_reducible first | exact Below.refl _ _ | assumption | exact Nat.le_refl _ | refine Below.drew ?_ | refine Below.alloc ?_ ?_ _ | refine Below.setCell ?_ ?_ _ | refine le_alloc ?_ | refine le_set ?_ | refine le_drew ?_ | refine below_step (by assumption) ?_ ?_ | refine le_below (by assumption) ?_) | (dsimp only; omega)))
  · have g1 : (c1 == 8) = false := by rw [beq_eq_false_iff_ne]; exact h1
    have E0 : Hid (flag1 c1 = 0) := if_neg h1
    clear h1
    go_wp2_with fail
    rw [rounds_succ]
    go_wp2_with fail
    go_ret
    exact retI_mk (by rw [HQ.out]; exact E0.out.symm) (by repeat (first | (with_reducible first | exact Below.refl _ _ | assumption | exact Nat.le_refl _ | refine Below.drew ?_ | refine Below.alloc ?_ ?_ _ | refine Below.setCell ?_ ?_ _ | refine le_alloc ?_ | refine le_set ?_ | refine le_drew ?_ | refine below_step (by assumption) ?_ ?_ | refine le_below (by assumption) ?_) | (dsimp only; omega)))
def cvtV (d : Bool) (rm : Int) (a : Nat) : Nat × Int :=
  if clsV (!d) a = 8 ∨ clsV (!d) a = 9 then (quietB d, flag1 (clsV (!d) a))
  else if clsV (!d) a = 7 ∨ clsV (!d) a = 0 then (infV d (minusN (!d) a), 0)
  else roundV d rm (minusN (!d) a) (readE (!d) a) (readG (!d) a)
/- The finite ones and the infinite ones; what is no number is not here yet. -/
set_option maxRecDepth 100000 in
theorem Convert_fin (sz : Int) (d : Bool) (hsz : Hid (SzOk sz d)) (rm : Int) (hrm : Hid (0 ≤ rm ∧ rm ≤ 4)) (a : Nat) (ha : Hid (a < 18446744073709551616)) (n8 : Hid (clsV (!d) a ≠ 8)) (n9 : Hid (clsV (!d) a ≠ 9)) (w : World) :
    Calls Try.prog 20 #[.int .i64 sz, .int .i64 rm, .int .u64 a] w (RetP (cvtV d rm a) w) := by
  go_enter Try.func20, Try.ntmps20
  go_wp2_with fail
  refine (layoutOf_s sz d hsz _).mono ?_; rintro e w1 ⟨E, F, rfl, hd, hb1⟩; obtain ⟨hc1, hf1⟩ := bcell hb1; have hz1 := hb1.size; (try simp only [sz_alloc, sz_drew, sz_set] at hz1 hc1 hf1)
  clear hc1 hf1
  go_wp2_with fail
  refine (mode_c rm hrm.out _).mono ?_; rintro e w2 ⟨rfl, hb2⟩; obtain ⟨hc2, hf2⟩ := bcell hb2; have hz2 := hb2.size; (try simp only [sz_alloc, sz_drew, sz_set] at hz2 hc2 hf2); have l2_0 : w1.heap.size < w2.heap.size := (by omega); have n2_0 : ¬ w1.heap.size = w2.heap.size := (by omega); have m2_0 : ¬ w2.heap.size = w1.heap.size := (by omega); have k2_0 := fun o => hc2 (w1.heap.size) o (by omega); have f2_0 := fun o => hf2 (w1.heap.size) o (by omega); (try simp (disch := (first | rfl | omega | (simp only [sz_alloc, sz_drew, sz_set]; omega))) only [sz_alloc, sz_drew, sz_set, World.cell?_drew, World.frozen?_drew, World.cell?_alloc_at, World.cell?_alloc_past, World.frozen?_alloc_at, World.frozen?_alloc_past] at k2_0 f2_0)
  clear hc2 hf2
  go_wp2_with fail
  refine (other_c sz d hsz _).mono ?_; rintro e w3 ⟨E2, F2, rfl, hd2, hb3⟩; obtain ⟨hc3, hf3⟩ := bcell hb3; have hz3 := hb3.size; (try simp only [sz_alloc, sz_drew, sz_set] at hz3 hc3 hf3); have l3_0 : w1.heap.size < w3.heap.size := (by omega); have n3_0 : ¬ w1.heap.size = w3.heap.size := (by omega); have m3_0 : ¬ w3.heap.size = w1.heap.size := (by omega); have k3_0 := fun o => hc3 (w1.heap.size) o (by omega); have f3_0 := fun o => hf3 (w1.heap.size) o (by omega); (try simp (disch := (first | rfl | omega | (simp only [sz_alloc, sz_drew, sz_set]; omega))) only [sz_alloc, sz_drew, sz_set, World.cell?_drew, World.frozen?_drew, World.cell?_alloc_at, World.cell?_alloc_past, World.frozen?_alloc_at, World.frozen?_alloc_past, hc2, hf2] at k3_0 f3_0)
  clear hc3 hf3
  go_wp2_with fail
  have HT : Hid (cvtV d rm a = if clsV (!d) a = 8 ∨ clsV (!d) a = 9 then (quietB d, flag1 (clsV (!d) a)) else if clsV (!d) a = 7 ∨ clsV (!d) a = 0 then (infV d (minusN (!d) a), 0) else roundV d rm (minusN (!d) a) (readE (!d) a) (readG (!d) a)) := rfl
  have HC := Lib.hid (fun v => class_c (!d) E2 F2 hd2 a ha v)
  have HM := Lib.hid (fun v => isMinus_c (!d) E2 F2 hd2 a ha v)
  have HRd := Lib.hid (fun v => read_c (!d) E2 F2 hd2 a ha v)
  have HSg := Lib.hid (fun v b hb hc => ofSig1_c (!d) E2 F2 hd2 a ha v b hb hc)
  have HRo := Lib.hid (fun v => round_c d E F hd.out rm (minusN (!d) a) (readE (!d) a) (readG (!d) a) (readG_b (!d) a) (readE_b (!d) a).out.1 (readE_b (!d) a).out.2 v)
  generalize minusN (!d) a = m at *
  generalize readE (!d) a = ex at *
  generalize readG (!d) a = g at *
  generalize clsV (!d) a = c at *
  generalize cvtV d rm a = out at *
  generalize roundV d rm m ex g = ro at *
  refine (HC.out _).mono ?_; rintro e w4 ⟨rfl, hb4⟩; obtain ⟨hc4, hf4⟩ := bcell hb4; have hz4 := hb4.size; (try simp only [sz_alloc, sz_drew, sz_set] at hz4 hc4 hf4); have l4_0 : w1.heap.size < w4.heap.size := (by omega); have n4_0 : ¬ w1.heap.size = w4.heap.size := (by omega); have m4_0 : ¬ w4.heap.size = w1.heap.size := (by omega); have k4_0 := fun o => hc4 (w1.heap.size) o (by omega); have f4_0 := fun o => hf4 (w1.heap.size) o (by omega); (try simp (disch := (first | rfl | omega | (simp only [sz_alloc, sz_drew, sz_set]; omega))) only [sz_alloc, sz_drew, sz_set, World.cell?_drew, World.frozen?_drew, World.cell?_alloc_at, World.cell?_alloc_past, World.frozen?_alloc_at, World.frozen?_alloc_past, hc3, hc2, hf3, hf2] at k4_0 f4_0); have l4_1 : w3.heap.size < w4.heap.size := (by omega); have n4_1 : ¬ w3.heap.size = w4.heap.size := (by omega); have m4_1 : ¬ w4.heap.size = w3.heap.size := (by omega); have k4_1 := fun o => hc4 (w3.heap.size) o (by omega); have f4_1 := fun o => hf4 (w3.heap.size) o (by omega); (try simp (disch := (first | rfl | omega | (simp only [sz_alloc, sz_drew, sz_set]; omega))) only [sz_alloc, sz_drew, sz_set, World.cell?_drew, World.frozen?_drew, World.cell?_alloc_at, World.cell?_alloc_past, World.frozen?_alloc_at, World.frozen?_alloc_past, hc3, hc2, hf3, hf2] at k4_1 f4_1)
  clear hc4 hf4
  have c8 := n8.out
  have c9 := n9.out
  by_cases c7 : c = 7
  · subst c7
    have HO : Hid (out = (infV d m, 0)) := by show _ = _; rw [HT.out, if_neg (by decide), if_pos (by decide)]
    clear HT HRo
    go_wp2_with fail
    go_region_held3 (fun w' => w'.cell? ⟨w1.heap.size, 0, none⟩ = some (.int .i64 E) ∧ w'.cell? ⟨w1.heap.size, 1, none⟩ = some (.int .i64 F) ∧ w'.cell? ⟨w3.heap.size, 0, none⟩ = some (.int .i64 E2) ∧ w'.cell? ⟨w3.heap.size, 1, none⟩ = some (.int .i64 F2)) (all_goals (first | (go_keep; done) | (simp (disch := omega) only [cell_set_far]; simp [*])))
      (first
        | (go_at_call 40; refine (HM.out _).mono ?_; rintro e w5 ⟨rfl, hb5⟩; obtain ⟨hc5, hf5⟩ := bcell hb5; have hz5 := hb5.size; (try simp only [sz_alloc, sz_drew, sz_set] at hz5 hc5 hf5); have l5_0 : w1.heap.size < w5.heap.size := (by omega); have n5_0 : ¬ w1.heap.size = w5.heap.size := (by omega); have m5_0 : ¬ w5.heap.size = w1.heap.size := (by omega); have k5_0 := fun o => hc5 (w1.heap.size) o (by omega); have f5_0 := fun o => hf5 (w1.heap.size) o (by omega); (try simp (disch := (first | rfl | omega | (simp only [sz_alloc, sz_drew, sz_set]; omega))) only [sz_alloc, sz_drew, sz_set, World.cell?_drew, World.frozen?_drew, World.cell?_alloc_at, World.cell?_alloc_past, World.frozen?_alloc_at, World.frozen?_alloc_past, hc4, hc3, hc2, hf4, hf3, hf2] at k5_0 f5_0); have l5_1 : w3.heap.size < w5.heap.size := (by omega); have n5_1 : ¬ w3.heap.size = w5.heap.size := (by omega); have m5_1 : ¬ w5.heap.size = w3.heap.size := (by omega); have k5_1 := fun o => hc5 (w3.heap.size) o (by omega); have f5_1 := fun o => hf5 (w3.heap.size) o (by omega); (try simp (disch := (first | rfl | omega | (simp only [sz_alloc, sz_drew, sz_set]; omega))) only [sz_alloc, sz_drew, sz_set, World.cell?_drew, World.frozen?_drew, World.cell?_alloc_at, World.cell?_alloc_past, World.frozen?_alloc_at, World.frozen?_alloc_past, hc4, hc3, hc2, hf4, hf3, hf2] at k5_1 f5_1))
        | (go_at_call 62; refine (infinity_c d E F hd.out m _).mono ?_; rintro e w6 ⟨rfl, hb6⟩; obtain ⟨hc6, hf6⟩ := bcell hb6; have hz6 := hb6.size; (try simp only [sz_alloc, sz_drew, sz_set] at hz6 hc6 hf6); have l6_0 : w1.heap.size < w6.heap.size := (by omega); have n6_0 : ¬ w1.heap.size = w6.heap.size := (by omega); have m6_0 : ¬ w6.heap.size = w1.heap.size := (by omega); have k6_0 := fun o => hc6 (w1.heap.size) o (by omega); have f6_0 := fun o => hf6 (w1.heap.size) o (by omega); (try simp (disch := (first | rfl | omega | (simp only [sz_alloc, sz_drew, sz_set]; omega))) only [sz_alloc, sz_drew, sz_set, World.cell?_drew, World.frozen?_drew, World.cell?_alloc_at, World.cell?_alloc_past, World.frozen?_alloc_at, World.frozen?_alloc_past, hc5, hc4, hc3, hc2, hf5, hf4, hf3, hf2] at k6_0 f6_0); have l6_1 : w3.heap.size < w6.heap.size := (by omega); have n6_1 : ¬ w3.heap.size = w6.heap.size := (by omega); have m6_1 : ¬ w6.heap.size = w3.heap.size := (by omega); have k6_1 := fun o => hc6 (w3.heap.size) o (by omega); have f6_1 := fun o => hf6 (w3.heap.size) o (by omega); (try simp (disch := (first | rfl | omega | (simp only [sz_alloc, sz_drew, sz_set]; omega))) only [sz_alloc, sz_drew, sz_set, World.cell?_drew, World.frozen?_drew, World.cell?_alloc_at, World.cell?_alloc_past, World.frozen?_alloc_at, World.frozen?_alloc_past, hc5, hc4, hc3, hc2, hf5, hf4, hf3, hf2] at k6_1 f6_1)))
    all_goals go_wp2_with fail
    all_goals go_ret2
    all_goals exact retP_mk (by rw [HO.out]) (by rw [HO.out]) (by repeat (first | (with_reducible first | exact Below.refl _ _ | assumption | exact Nat.le_refl _ | refine Below.drew ?_ | refine Below.alloc ?_ ?_ _ | refine Below.setCell ?_ ?_ _ | refine le_alloc ?_ | refine le_set ?_ | refine le_drew ?_ | refine below_step (by assumption) ?_ ?_ | refine le_below (by assumption) ?_) | (dsimp only; omega)))
  by_cases c0 : c = 0
  · subst c0
    have HO : Hid (out = (infV d m, 0)) := by show _ = _; rw [HT.out, if_neg (by decide), if_pos (by decide)]
    clear HT HRo
    go_wp2_with fail
    go_region_held3 (fun w' => w'.cell? ⟨w1.heap.size, 0, none⟩ = some (.int .i64 E) ∧ w'.cell? ⟨w1.heap.size, 1, none⟩ = some (.int .i64 F) ∧ w'.cell? ⟨w3.heap.size, 0, none⟩ = some (.int .i64 E2) ∧ w'.cell? ⟨w3.heap.size, 1, none⟩ = some (.int .i64 F2)) (all_goals (first | (go_keep; done) | (simp (disch := omega) only [cell_set_far]; simp [*])))
      (first
        | (go_at_call 40; refine (HM.out _).mono ?_; rintro e w5 ⟨rfl, hb5⟩; obtain ⟨hc5, hf5⟩ := bcell hb5; have hz5 := hb5.size; (try simp only [sz_alloc, sz_drew, sz_set] at hz5 hc5 hf5); have l5_0 : w1.heap.size < w5.heap.size := (by omega); have n5_0 : ¬ w1.heap.size = w5.heap.size := (by omega); have m5_0 : ¬ w5.heap.size = w1.heap.size := (by omega); have k5_0 := fun o => hc5 (w1.heap.size) o (by omega); have f5_0 := fun o => hf5 (w1.heap.size) o (by omega); (try simp (disch := (first | rfl | omega | (simp only [sz_alloc, sz_drew, sz_set]; omega))) only [sz_alloc, sz_drew, sz_set, World.cell?_drew, World.frozen?_drew, World.cell?_alloc_at, World.cell?_alloc_past, World.frozen?_alloc_at, World.frozen?_alloc_past, hc4, hc3, hc2, hf4, hf3, hf2] at k5_0 f5_0); have l5_1 : w3.heap.size < w5.heap.size := (by omega); have n5_1 : ¬ w3.heap.size = w5.heap.size := (by omega); have m5_1 : ¬ w5.heap.size = w3.heap.size := (by omega); have k5_1 := fun o => hc5 (w3.heap.size) o (by omega); have f5_1 := fun o => hf5 (w3.heap.size) o (by omega); (try simp (disch := (first | rfl | omega | (simp only [sz_alloc, sz_drew, sz_set]; omega))) only [sz_alloc, sz_drew, sz_set, World.cell?_drew, World.frozen?_drew, World.cell?_alloc_at, World.cell?_alloc_past, World.frozen?_alloc_at, World.frozen?_alloc_past, hc4, hc3, hc2, hf4, hf3, hf2] at k5_1 f5_1))
        | (go_at_call 62; refine (infinity_c d E F hd.out m _).mono ?_; rintro e w6 ⟨rfl, hb6⟩; obtain ⟨hc6, hf6⟩ := bcell hb6; have hz6 := hb6.size; (try simp only [sz_alloc, sz_drew, sz_set] at hz6 hc6 hf6); have l6_0 : w1.heap.size < w6.heap.size := (by omega); have n6_0 : ¬ w1.heap.size = w6.heap.size := (by omega); have m6_0 : ¬ w6.heap.size = w1.heap.size := (by omega); have k6_0 := fun o => hc6 (w1.heap.size) o (by omega); have f6_0 := fun o => hf6 (w1.heap.size) o (by omega); (try simp (disch := (first | rfl | omega | (simp only [sz_alloc, sz_drew, sz_set]; omega))) only [sz_alloc, sz_drew, sz_set, World.cell?_drew, World.frozen?_drew, World.cell?_alloc_at, World.cell?_alloc_past, World.frozen?_alloc_at, World.frozen?_alloc_past, hc5, hc4, hc3, hc2, hf5, hf4, hf3, hf2] at k6_0 f6_0); have l6_1 : w3.heap.size < w6.heap.size := (by omega); have n6_1 : ¬ w3.heap.size = w6.heap.size := (by omega); have m6_1 : ¬ w6.heap.size = w3.heap.size := (by omega); have k6_1 := fun o => hc6 (w3.heap.size) o (by omega); have f6_1 := fun o => hf6 (w3.heap.size) o (by omega); (try simp (disch := (first | rfl | omega | (simp only [sz_alloc, sz_drew, sz_set]; omega))) only [sz_alloc, sz_drew, sz_set, World.cell?_drew, World.frozen?_drew, World.cell?_alloc_at, World.cell?_alloc_past, World.frozen?_alloc_at, World.frozen?_alloc_past, hc5, hc4, hc3, hc2, hf5, hf4, hf3, hf2] at k6_1 f6_1)))
    all_goals go_wp2_with fail
    all_goals go_ret2
    all_goals exact retP_mk (by rw [HO.out]) (by rw [HO.out]) (by repeat (first | (with_reducible first | exact Below.refl _ _ | assumption | exact Nat.le_refl _ | refine Below.drew ?_ | refine Below.alloc ?_ ?_ _ | refine Below.setCell ?_ ?_ _ | refine le_alloc ?_ | refine le_set ?_ | refine le_drew ?_ | refine below_step (by assumption) ?_ ?_ | refine le_below (by assumption) ?_) | (dsimp only; omega)))
  have b8 : (c == 8) = false := beq_eq_false_iff_ne.2 c8
  have b9 : (c == 9) = false := beq_eq_false_iff_ne.2 c9
  have b7 : (c == 7) = false := beq_eq_false_iff_ne.2 c7
  have b0 : (c == 0) = false := beq_eq_false_iff_ne.2 c0
  have HO : Hid (out = ro) := by show _ = _; rw [HT.out, if_neg (by omega), if_neg (by omega)]
  clear HT c8 c9 c7 c0
  go_wp2_with fail
  go_region_held3 (fun w' => w'.cell? ⟨w1.heap.size, 0, none⟩ = some (.int .i64 E) ∧ w'.cell? ⟨w1.heap.size, 1, none⟩ = some (.int .i64 F) ∧ w'.cell? ⟨w3.heap.size, 0, none⟩ = some (.int .i64 E2) ∧ w'.cell? ⟨w3.heap.size, 1, none⟩ = some (.int .i64 F2)) (all_goals (first | (go_keep; done) | (simp (disch := omega) only [cell_set_far]; simp [*])))
    (first
      | (go_at_call 44; refine (HRd.out _).mono ?_; rintro e w5 ⟨rfl, hb5⟩; obtain ⟨hc5, hf5⟩ := bcell hb5; have hz5 := hb5.size; (try simp only [sz_alloc, sz_drew, sz_set] at hz5 hc5 hf5); have l5_0 : w1.heap.size < w5.heap.size := (by omega); have n5_0 : ¬ w1.heap.size = w5.heap.size := (by omega); have m5_0 : ¬ w5.heap.size = w1.heap.size := (by omega); have k5_0 := fun o => hc5 (w1.heap.size) o (by omega); have f5_0 := fun o => hf5 (w1.heap.size) o (by omega); (try simp (disch := (first | rfl | omega | (simp only [sz_alloc, sz_drew, sz_set]; omega))) only [sz_alloc, sz_drew, sz_set, World.cell?_drew, World.frozen?_drew, World.cell?_alloc_at, World.cell?_alloc_past, World.frozen?_alloc_at, World.frozen?_alloc_past, hc4, hc3, hc2, hf4, hf3, hf2] at k5_0 f5_0); have l5_1 : w3.heap.size < w5.heap.size := (by omega); have n5_1 : ¬ w3.heap.size = w5.heap.size := (by omega); have m5_1 : ¬ w5.heap.size = w3.heap.size := (by omega); have k5_1 := fun o => hc5 (w3.heap.size) o (by omega); have f5_1 := fun o => hf5 (w3.heap.size) o (by omega); (try simp (disch := (first | rfl | omega | (simp only [sz_alloc, sz_drew, sz_set]; omega))) only [sz_alloc, sz_drew, sz_set, World.cell?_drew, World.frozen?_drew, World.cell?_alloc_at, World.cell?_alloc_past, World.frozen?_alloc_at, World.frozen?_alloc_past, hc4, hc3, hc2, hf4, hf3, hf2] at k5_1 f5_1))
      | (go_at_call 55; refine (HRo.out _).mono ?_; rintro e w6 ⟨rfl, hb6⟩; obtain ⟨hc6, hf6⟩ := bcell hb6; have hz6 := hb6.size; (try simp only [sz_alloc, sz_drew, sz_set] at hz6 hc6 hf6); have l6_0 : w1.heap.size < w6.heap.size := (by omega); have n6_0 : ¬ w1.heap.size = w6.heap.size := (by omega); have m6_0 : ¬ w6.heap.size = w1.heap.size := (by omega); have k6_0 := fun o => hc6 (w1.heap.size) o (by omega); have f6_0 := fun o => hf6 (w1.heap.size) o (by omega); (try simp (disch := (first | rfl | omega | (simp only [sz_alloc, sz_drew, sz_set]; omega))) only [sz_alloc, sz_drew, sz_set, World.cell?_drew, World.frozen?_drew, World.cell?_alloc_at, World.cell?_alloc_past, World.frozen?_alloc_at, World.frozen?_alloc_past, hc5, hc4, hc3, hc2, hf5, hf4, hf3, hf2] at k6_0 f6_0); have l6_1 : w3.heap.size < w6.heap.size := (by omega); have n6_1 : ¬ w3.heap.size = w6.heap.size := (by omega); have m6_1 : ¬ w6.heap.size = w3.heap.size := (by omega); have k6_1 := fun o => hc6 (w3.heap.size) o (by omega); have f6_1 := fun o => hf6 (w3.heap.size) o (by omega); (try simp (disch := (first | rfl | omega | (simp only [sz_alloc, sz_drew, sz_set]; omega))) only [sz_alloc, sz_drew, sz_set, World.cell?_drew, World.frozen?_drew, World.cell?_alloc_at, World.cell?_alloc_past, World.frozen?_alloc_at, World.frozen?_alloc_past, hc5, hc4, hc3, hc2, hf5, hf4, hf3, hf2] at k6_1 f6_1)))
  all_goals go_wp2_with fail
  all_goals go_ret2
  all_goals exact retP_mk (by rw [HO.out]) (by rw [HO.out]) (by repeat (first | (with_reducible first | exact Below.refl _ _ | assumption | exact Nat.le_refl _ | refine Below.drew ?_ | refine Below.alloc ?_ ?_ _ | refine Below.setCell ?_ ?_ _ | refine le_alloc ?_ | refine le_set ?_ | refine le_drew ?_ | refine below_step (by assumption) ?_ ?_ | refine le_below (by assumption) ?_) | (dsimp only; omega)))
end Go.Proofs.Yteinjalnkhfecaa
