/- Answers at a wrong size or mode; Convert of what is no number. -/
import Derived.Test.YteinjalnkhfecaaC10
namespace Go.Proofs.Yteinjalnkhfecaa
open Go.ChangeShapes Go.WideShapes Go.ChangeAt Go.RowKit
set_option linter.unusedVariables false
set_option linter.unusedSimpArgs false
set_option maxRecDepth 100000 in
theorem mode_no (rm : Int) (h : ¬ (0 ≤ rm ∧ rm ≤ 4)) (w : World) : Calls Try.prog 39 #[.int .i64 rm] w (RetB false w) := by
  by_cases h0 : 0 ≤ rm
  · have h5 : decide (rm < 5) = false := decide_eq_false (by omega)
    have h6 : ¬ rm < 5 := by omega
    go_enter Try.func39, Try.ntmps39
    go_wp2_with fail
    go_ret
    exact ⟨rfl, (by repeat (first | (with_reducible first | exact Below.refl _ _ | assumption | exact Nat.le_refl _ | refine Below.drew ?_ | refine Below.alloc ?_ ?_ _ | refine Below.setCell ?_ ?_ _ | refine le_alloc ?_ | refine le_set ?_ | refine le_drew ?_ | refine below_step (by assumption) ?_ ?_ | refine le_below (by assumption) ?_) | (dsimp only; omega)))⟩
  · have h5 : decide (0 ≤ rm) = false := decide_eq_false h0
    go_enter Try.func39, Try.ntmps39
    go_wp2_with fail
    go_ret
    exact ⟨rfl, (by repeat (first | (with_reducible first | exact Below.refl _ _ | assumption | exact Nat.le_refl _ | refine Below.drew ?_ | refine Below.alloc ?_ ?_ _ | refine Below.setCell ?_ ?_ _ | refine le_alloc ?_ | refine le_set ?_ | refine le_drew ?_ | refine below_step (by assumption) ?_ ?_ | refine le_below (by assumption) ?_) | (dsimp only; omega)))⟩
theorem rright_no (sz rm : Int) (h : ¬ ((sz = 4 ∨ sz = 8) ∧ 0 ≤ rm ∧ rm ≤ 4)) (w : World) : Calls Try.prog 47 #[.int .i64 sz, .int .i64 rm] w (RetB false w) := by
  by_cases h4 : sz = 4 ∨ sz = 8
  · have hm : ¬ (0 ≤ rm ∧ rm ≤ 4) := fun q => h ⟨h4, q⟩
    clear h
    by_cases h0 : 0 ≤ rm
    · have h5 : decide (rm ≤ 4) = false := decide_eq_false (by omega)
      have h6 : ¬ rm ≤ 4 := by omega
      clear hm
      rcases h4 with rfl | rfl
      all_goals
        go_enter Try.func47, Try.ntmps47
        go_wp2_with fail
        go_ret
        exact ⟨rfl, (by repeat (first | (with_reducible first | exact Below.refl _ _ | assumption | exact Nat.le_refl _ | refine Below.drew ?_ | refine Below.alloc ?_ ?_ _ | refine Below.setCell ?_ ?_ _ | refine le_alloc ?_ | refine le_set ?_ | refine le_drew ?_ | refine below_step (by assumption) ?_ ?_ | refine le_below (by assumption) ?_) | (dsimp only; omega)))⟩
    · have h5 : decide (0 ≤ rm) = false := decide_eq_false h0
      clear hm
      rcases h4 with rfl | rfl
      all_goals
        go_enter Try.func47, Try.ntmps47
        go_wp2_with fail
        go_ret
        exact ⟨rfl, (by repeat (first | (with_reducible first | exact Below.refl _ _ | assumption | exact Nat.le_refl _ | refine Below.drew ?_ | refine Below.alloc ?_ ?_ _ | refine Below.setCell ?_ ?_ _ | refine le_alloc ?_ | refine le_set ?_ | refine le_drew ?_ | refine below_step (by assumption) ?_ ?_ | refine le_below (by assumption) ?_) | (dsimp only; omega)))⟩
  · have g4 : (sz == 4) = false := by rw [beq_eq_false_iff_ne]; omega
    have g8 : (sz == 8) = false := by rw [beq_eq_false_iff_ne]; omega
    clear h h4
    go_enter Try.func47, Try.ntmps47
    go_wp2_with fail
    go_ret
    exact ⟨rfl, (by repeat (first | (with_reducible first | exact Below.refl _ _ | assumption | exact Nat.le_refl _ | refine Below.drew ?_ | refine Below.alloc ?_ ?_ _ | refine Below.setCell ?_ ?_ _ | refine le_alloc ?_ | refine le_set ?_ | refine le_drew ?_ | refine below_step (by assumption) ?_ ?_ | refine le_below (by assumption) ?_) | (dsimp only; omega)))⟩
theorem rright_m (sz : Int) (d : Bool) (hsz : Hid (SzOk sz d)) (rm : Int) (hrm : Hid (0 ≤ rm ∧ rm ≤ 4)) (w : World) : Calls Try.prog 47 #[.int .i64 sz, .int .i64 rm] w (RetB true w) := by
  have hs : sz = if d then 8 else 4 := hsz.out
  have c : rm = 0 ∨ rm = 1 ∨ rm = 2 ∨ rm = 3 ∨ rm = 4 := by have := hrm.out; omega
  subst hs
  cases d <;> rcases c with rfl | rfl | rfl | rfl | rfl
  all_goals
    simp only [Bool.false_eq_true, if_false, if_true]
    go_enter Try.func47, Try.ntmps47
    go_wp2_with fail
    go_ret
    exact ⟨rfl, (by repeat (first | (with_reducible first | exact Below.refl _ _ | assumption | exact Nat.le_refl _ | refine Below.drew ?_ | refine Below.alloc ?_ ?_ _ | refine Below.setCell ?_ ?_ _ | refine le_alloc ?_ | refine le_set ?_ | refine le_drew ?_ | refine below_step (by assumption) ?_ ?_ | refine le_below (by assumption) ?_) | (dsimp only; omega)))⟩
theorem ToInt_no (sz rm : Int) (h : ¬ ((sz = 4 ∨ sz = 8) ∧ 0 ≤ rm ∧ rm ≤ 4)) (wd u : Bool) (a : Nat) (w : World) : Calls Try.prog 16 #[.int .i64 sz, .int .i64 rm, .bool wd, .bool u, .int .u64 a] w (RetP (0, 0) w) := by
  by_cases h4 : sz = 4 ∨ sz = 8
  · have hm : ¬ (0 ≤ rm ∧ rm ≤ 4) := fun q => h ⟨h4, q⟩
    obtain ⟨d, hd⟩ : ∃ d, SzOk sz d := by
      rcases h4 with e | e
      · exact ⟨false, e⟩
      · exact ⟨true, e⟩
    clear h h4
    have HM := Lib.hid (mode_no rm hm); clear hm
    go_enter Try.func16, Try.ntmps16
    go_wp2_with fail
    refine (layoutOf_s sz d hd _).mono ?_; rintro e w1 ⟨E, F, rfl, hd, hb1⟩
    go_wp2_with fail
    refine (HM.out _).mono ?_; rintro e w2 ⟨rfl, hb2⟩
    go_wp2_with fail
    go_ret2
    exact retP_mk rfl rfl (by repeat (first | (with_reducible first | exact Below.refl _ _ | assumption | exact Nat.le_refl _ | refine Below.drew ?_ | refine Below.alloc ?_ ?_ _ | refine Below.setCell ?_ ?_ _ | refine le_alloc ?_ | refine le_set ?_ | refine le_drew ?_ | refine below_step (by assumption) ?_ ?_ | refine le_below (by assumption) ?_) | (dsimp only; omega)))
  · have g4 : (sz == 4) = false := by rw [beq_eq_false_iff_ne]; omega
    have g8 : (sz == 8) = false := by rw [beq_eq_false_iff_ne]; omega
    clear h h4
    go_enter Try.func16, Try.ntmps16
    go_wp2_with fail
    refine (layoutOf_no sz g4 g8 _).mono ?_; rintro e w1 ⟨rfl, hb1⟩
    go_wp2_with fail
    go_ret2
    exact retP_mk rfl rfl (by repeat (first | (with_reducible first | exact Below.refl _ _ | assumption | exact Nat.le_refl _ | refine Below.drew ?_ | refine Below.alloc ?_ ?_ _ | refine Below.setCell ?_ ?_ _ | refine le_alloc ?_ | refine le_set ?_ | refine le_drew ?_ | refine below_step (by assumption) ?_ ?_ | refine le_below (by assumption) ?_) | (dsimp only; omega)))
theorem ToIntR_no (sz rm : Int) (h : ¬ ((sz = 4 ∨ sz = 8) ∧ 0 ≤ rm ∧ rm ≤ 4)) (wd u : Bool) (a : Nat) (w : World) : Calls Try.prog 17 #[.int .i64 sz, .int .i64 rm, .bool wd, .bool u, .int .u64 a] w (RetP (0, 0) w) := by
  go_enter Try.func17, Try.ntmps17
  go_wp2_with fail
  refine (rright_no sz rm h _).mono ?_; rintro e w1 ⟨rfl, hb1⟩
  go_wp2_with fail
  go_ret2
  exact retP_mk rfl rfl (by repeat (first | (with_reducible first | exact Below.refl _ _ | assumption | exact Nat.le_refl _ | refine Below.drew ?_ | refine Below.alloc ?_ ?_ _ | refine Below.setCell ?_ ?_ _ | refine le_alloc ?_ | refine le_set ?_ | refine le_drew ?_ | refine below_step (by assumption) ?_ ?_ | refine le_below (by assumption) ?_) | (dsimp only; omega)))
theorem FromInt_no (sz rm : Int) (h : ¬ ((sz = 4 ∨ sz = 8) ∧ 0 ≤ rm ∧ rm ≤ 4)) (wd u : Bool) (a : Nat) (w : World) : Calls Try.prog 18 #[.int .i64 sz, .int .i64 rm, .bool wd, .bool u, .int .u64 a] w (RetP (0, 0) w) := by
  by_cases h4 : sz = 4 ∨ sz = 8
  · have hm : ¬ (0 ≤ rm ∧ rm ≤ 4) := fun q => h ⟨h4, q⟩
    obtain ⟨d, hd⟩ : ∃ d, SzOk sz d := by
      rcases h4 with e | e
      · exact ⟨false, e⟩
      · exact ⟨true, e⟩
    clear h h4
    have HM := Lib.hid (mode_no rm hm); clear hm
    go_enter Try.func18, Try.ntmps18
    go_wp2_with fail
    refine (layoutOf_s sz d hd _).mono ?_; rintro e w1 ⟨E, F, rfl, hd, hb1⟩
    go_wp2_with fail
    refine (HM.out _).mono ?_; rintro e w2 ⟨rfl, hb2⟩
    go_wp2_with fail
    go_ret2
    exact retP_mk rfl rfl (by repeat (first | (with_reducible first | exact Below.refl _ _ | assumption | exact Nat.le_refl _ | refine Below.drew ?_ | refine Below.alloc ?_ ?_ _ | refine Below.setCell ?_ ?_ _ | refine le_alloc ?_ | refine le_set ?_ | refine le_drew ?_ | refine below_step (by assumption) ?_ ?_ | refine le_below (by assumption) ?_) | (dsimp only; omega)))
  · have g4 : (sz == 4) = false := by rw [beq_eq_false_iff_ne]; omega
    have g8 : (sz == 8) = false := by rw [beq_eq_false_iff_ne]; omega
    clear h h4
    go_enter Try.func18, Try.ntmps18
    go_wp2_with fail
    refine (layoutOf_no sz g4 g8 _).mono ?_; rintro e w1 ⟨rfl, hb1⟩
    go_wp2_with fail
    go_ret2
    exact retP_mk rfl rfl (by repeat (first | (with_reducible first | exact Below.refl _ _ | assumption | exact Nat.le_refl _ | refine Below.drew ?_ | refine Below.alloc ?_ ?_ _ | refine Below.setCell ?_ ?_ _ | refine le_alloc ?_ | refine le_set ?_ | refine le_drew ?_ | refine below_step (by assumption) ?_ ?_ | refine le_below (by assumption) ?_) | (dsimp only; omega)))
theorem FromIntR_no (sz rm : Int) (h : ¬ ((sz = 4 ∨ sz = 8) ∧ 0 ≤ rm ∧ rm ≤ 4)) (wd u : Bool) (a : Nat) (w : World) : Calls Try.prog 19 #[.int .i64 sz, .int .i64 rm, .bool wd, .bool u, .int .u64 a] w (RetP (0, 0) w) := by
  go_enter Try.func19, Try.ntmps19
  go_wp2_with fail
  refine (rright_no sz rm h _).mono ?_; rintro e w1 ⟨rfl, hb1⟩
  go_wp2_with fail
  go_ret2
  exact retP_mk rfl rfl (by repeat (first | (with_reducible first | exact Below.refl _ _ | assumption | exact Nat.le_refl _ | refine Below.drew ?_ | refine Below.alloc ?_ ?_ _ | refine Below.setCell ?_ ?_ _ | refine le_alloc ?_ | refine le_set ?_ | refine le_drew ?_ | refine below_step (by assumption) ?_ ?_ | refine le_below (by assumption) ?_) | (dsimp only; omega)))
theorem Convert_no (sz rm : Int) (h : ¬ ((sz = 4 ∨ sz = 8) ∧ 0 ≤ rm ∧ rm ≤ 4)) (a : Nat) (w : World) : Calls Try.prog 20 #[.int .i64 sz, .int .i64 rm, .int .u64 a] w (RetP (0, 0) w) := by
  by_cases h4 : sz = 4 ∨ sz = 8
  · have hm : ¬ (0 ≤ rm ∧ rm ≤ 4) := fun q => h ⟨h4, q⟩
    obtain ⟨d, hd⟩ : ∃ d, SzOk sz d := by
      rcases h4 with e | e
      · exact ⟨false, e⟩
      · exact ⟨true, e⟩
    clear h h4
    have HM := Lib.hid (mode_no rm hm); clear hm
    go_enter Try.func20, Try.ntmps20
    go_wp2_with fail
    refine (layoutOf_s sz d hd _).mono ?_; rintro e w1 ⟨E, F, rfl, hd, hb1⟩
    go_wp2_with fail
    refine (HM.out _).mono ?_; rintro e w2 ⟨rfl, hb2⟩
    go_wp2_with fail
    go_ret2
    exact retP_mk rfl rfl (by repeat (first | (with_reducible first | exact Below.refl _ _ | assumption | exact Nat.le_refl _ | refine Below.drew ?_ | refine Below.alloc ?_ ?_ _ | refine Below.setCell ?_ ?_ _ | refine le_alloc ?_ | refine le_set ?_ | refine le_drew ?_ | refine below_step (by assumption) ?_ ?_ | refine le_below (by assumption) ?_) | (dsimp only; omega)))
  · have g4 : (sz == 4) = false := by rw [beq_eq_false_iff_ne]; omega
    have g8 : (sz == 8) = false := by rw [beq_eq_false_iff_ne]; omega
    clear h h4
    go_enter Try.func20, Try.ntmps20
    go_wp2_with fail
    refine (layoutOf_no sz g4 g8 _).mono ?_; rintro e w1 ⟨rfl, hb1⟩
    go_wp2_with fail
    go_ret2
    exact retP_mk rfl rfl (by repeat (first | (with_reducible first | exact Below.refl _ _ | assumption | exact Nat.le_refl _ | refine Below.drew ?_ | refine Below.alloc ?_ ?_ _ | refine Below.setCell ?_ ?_ _ | refine le_alloc ?_ | refine le_set ?_ | refine le_drew ?_ | refine below_step (by assumption) ?_ ?_ | refine le_below (by assumption) ?_) | (dsimp only; omega)))
theorem ConvertR_no (sz rm : Int) (h : ¬ ((sz = 4 ∨ sz = 8) ∧ 0 ≤ rm ∧ rm ≤ 4)) (a : Nat) (w : World) : Calls Try.prog 21 #[.int .i64 sz, .int .i64 rm, .int .u64 a] w (RetP (0, 0) w) := by
  go_enter Try.func21, Try.ntmps21
  go_wp2_with fail
  refine (rright_no sz rm h _).mono ?_; rintro e w1 ⟨rfl, hb1⟩
  go_wp2_with fail
  go_ret2
  exact retP_mk rfl rfl (by repeat (first | (with_reducible first | exact Below.refl _ _ | assumption | exact Nat.le_refl _ | refine Below.drew ?_ | refine Below.alloc ?_ ?_ _ | refine Below.setCell ?_ ?_ _ | refine le_alloc ?_ | refine le_set ?_ | refine le_drew ?_ | refine below_step (by assumption) ?_ ?_ | refine le_below (by assumption) ?_) | (dsimp only; omega)))
theorem sl_new (w : World) (x : Nat) (t : TypeId) : ∀ o, (w.alloc (Obj.cells #[.int .u64 x] t)).cell? ⟨w.heap.size, o, none⟩ = (#[.int .u64 (x : Int)] : Array Value)[o]? := by
  intro o; rw [World.cell?_alloc_at _ _ _ _ rfl]
theorem sl_keep {W w' : World} (hb : Below W.heap.size W w') : ∀ (w : World) (x : Nat) (t : TypeId), W = w.alloc (Obj.cells #[.int .u64 x] t) → ∀ o, w'.cell? ⟨w.heap.size, o, none⟩ = (#[.int .u64 (x : Int)] : Array Value)[o]? := by
  intro w x t h o; subst h; rw [hb.cell (p := ⟨w.heap.size, o, none⟩) (by simp)]; exact sl_new w x t o
theorem sl_keepd {W w' : World} (hb : Below W.heap.size W w') : ∀ (w : World) (x : Nat) (t : TypeId), W = (w.alloc (Obj.cells #[.int .u64 x] t)).drew → ∀ o, w'.cell? ⟨w.heap.size, o, none⟩ = (#[.int .u64 (x : Int)] : Array Value)[o]? := by
  intro w x t h o; subst h; rw [hb.cell (p := ⟨w.heap.size, o, none⟩) (by show _ < (w.alloc _).heap.size; simp)]; exact sl_new w x t o
set_option maxRecDepth 100000 in
set_option maxHeartbeats 2000000 in
theorem Convert_none (sz : Int) (d : Bool) (hsz : Hid (SzOk sz d)) (rm : Int) (hrm : Hid (0 ≤ rm ∧ rm ≤ 4)) (a : Nat) (ha : Hid (a < 18446744073709551616)) (n89 : Hid (clsV (!d) a = 8 ∨ clsV (!d) a = 9)) (w : World) :
    Calls Try.prog 20 #[.int .i64 sz, .int .i64 rm, .int .u64 a] w (RetP (cvtV d rm a) w) := by
  go_enter Try.func20, Try.ntmps20
  go_wp2_with fail
  refine (layoutOf_s sz d hsz _).mono ?_; rintro e w1 ⟨E, F, rfl, hd, hb1⟩; obtain ⟨hc1, hf1⟩ := bcell hb1; have hz1 := hb1.size; (try simp only [sz_alloc, sz_drew, sz_set] at hz1 hc1 hf1)
  clear hc1 hf1
  go_wp2_with fail
  refine (mode_c rm hrm.out _).mono ?_; rintro e w2 ⟨rfl, hb2⟩; obtain ⟨hc2, hf2⟩ := bcell hb2; have hz2 := hb2.size; (try simp only [sz_alloc, sz_drew, sz_set] at hz2 hc2 hf2); have l2_0 : w1.heap.size < w2.heap.size := (by omega); have n2_0 : ¬ w1.heap.size = w2.heap.size := (by omega); have m2_0 : ¬ w2.heap.size = w1.heap.size := (by omega); have k2_0 := fun o => hc2 (w1.heap.size) o (by omega); have f2_0 := fun o => hf2 (w1.heap.size) o (by omega); (try simp (disch := (first | rfl | omega | (simp only [sz_alloc, sz_drew, sz_set]; omega))) only [sz_alloc, sz_drew, sz_set, World.cell?_drew, World.frozen?_drew, World.cell?_alloc_at, World.cell?_alloc_past, World.frozen?_alloc_at, World.frozen?_alloc_past] at k2_0 f2_0)
  clear hc2 hf2
  go_wp2_with fail
  refine (other_c sz d hsz _).mono ?_; rintro e w3 ⟨E2, F2, rfl, hd2, hb3⟩; obtain ⟨hc3, hf3⟩ := bcell hb3; have hz3 := hb3.size; (try simp only [sz_alloc, sz_drew, sz_set] at hz3 hc3 hf3); have l3_0 : w1.heap.size < w3.heap.size := (by omega); have n3_0 : ¬ w1.heap.size = w3.heap.size := (by omega); have m3_0 : ¬ w3.heap.size = w1.heap.size := (by omega); have k3_0 := fun o => hc3 (w1.heap.size) o (by omega); have f3_0 := fun o => hf3 (w1.heap.size) o (by omega); (try simp (disch := (first | rfl | omega | (simp only [sz_alloc, sz_drew, sz_set]; omega))) only [sz_alloc, sz_drew, sz_set, World.cell?_drew, World.frozen?_drew, World.cell?_alloc_at, World.cell?_alloc_past, World.frozen?_alloc_at, World.frozen?_alloc_past, hc2, hf2] at k3_0 f3_0)
  clear hc3 hf3
  go_wp2_with fail
  have HT : Hid (cvtV d rm a = if clsV (!d) a = 8 ∨ clsV (!d) a = 9 then (quietB d, flag1 (clsV (!d) a)) else if clsV (!d) a = 7 ∨ clsV (!d) a = 0 then (infV d (minusN (!d) a), 0) else roundV d rm (minusN (!d) a) (readE (!d) a) (readG (!d) a)) := rfl
  have HC := Lib.hid (fun v => class_c (!d) E2 F2 hd2 a ha v)
  have HM := Lib.hid (fun v => isMinus_c (!d) E2 F2 hd2 a ha v)
  have HRd := Lib.hid (fun v => read_c (!d) E2 F2 hd2 a ha v)
  have HSg := Lib.hid (fun v b hb hc => ofSig1_c (!d) E2 F2 hd2 a ha v b hb hc)
  have HRo := Lib.hid (fun v => round_c d E F hd.out rm (minusN (!d) a) (readE (!d) a) (readG (!d) a) (readG_b (!d) a) (readE_b (!d) a).out.1 (readE_b (!d) a).out.2 v)
  generalize minusN (!d) a = m at *
  generalize readE (!d) a = ex at *
  generalize readG (!d) a = g at *
  generalize clsV (!d) a = c at *
  generalize cvtV d rm a = out at *
  generalize roundV d rm m ex g = ro at *
  refine (HC.out _).mono ?_; rintro e w4 ⟨rfl, hb4⟩; obtain ⟨hc4, hf4⟩ := bcell hb4; have hz4 := hb4.size; (try simp only [sz_alloc, sz_drew, sz_set] at hz4 hc4 hf4); have l4_0 : w1.heap.size < w4.heap.size := (by omega); have n4_0 : ¬ w1.heap.size = w4.heap.size := (by omega); have m4_0 : ¬ w4.heap.size = w1.heap.size := (by omega); have k4_0 := fun o => hc4 (w1.heap.size) o (by omega); have f4_0 := fun o => hf4 (w1.heap.size) o (by omega); (try simp (disch := (first | rfl | omega | (simp only [sz_alloc, sz_drew, sz_set]; omega))) only [sz_alloc, sz_drew, sz_set, World.cell?_drew, World.frozen?_drew, World.cell?_alloc_at, World.cell?_alloc_past, World.frozen?_alloc_at, World.frozen?_alloc_past, hc3, hc2, hf3, hf2] at k4_0 f4_0); have l4_1 : w3.heap.size < w4.heap.size := (by omega); have n4_1 : ¬ w3.heap.size = w4.heap.size := (by omega); have m4_1 : ¬ w4.heap.size = w3.heap.size := (by omega); have k4_1 := fun o => hc4 (w3.heap.size) o (by omega); have f4_1 := fun o => hf4 (w3.heap.size) o (by omega); (try simp (disch := (first | rfl | omega | (simp only [sz_alloc, sz_drew, sz_set]; omega))) only [sz_alloc, sz_drew, sz_set, World.cell?_drew, World.frozen?_drew, World.cell?_alloc_at, World.cell?_alloc_past, World.frozen?_alloc_at, World.frozen?_alloc_past, hc3, hc2, hf3, hf2] at k4_1 f4_1)
  clear hc4 hf4
  rcases n89.out with c8 | c8
  · subst c8
    have HO : Hid (out = (quietB d, 16)) := by show _ = _; rw [HT.out, if_pos (by decide)]; rfl
    clear HT HRo
    go_wp2_with fail
    go_region_held3 (fun w' => w'.cell? ⟨w1.heap.size, 0, none⟩ = some (.int .i64 E) ∧ w'.cell? ⟨w1.heap.size, 1, none⟩ = some (.int .i64 F) ∧ w'.cell? ⟨w3.heap.size, 0, none⟩ = some (.int .i64 E2) ∧ w'.cell? ⟨w3.heap.size, 1, none⟩ = some (.int .i64 F2)) (all_goals (first | (go_keep; done) | (simp (disch := omega) only [cell_set_far]; simp [*])))
      (first
        | (go_at_call 38; refine (quiet_c d E F hd.out _).mono ?_; rintro e w5 ⟨rfl, hb5⟩; have hs5 := sl_keep hb5; have hd5 := sl_keepd hb5; obtain ⟨hc5, hf5⟩ := bcell hb5; have hz5 := hb5.size; (try simp only [sz_alloc, sz_drew, sz_set] at hz5 hc5 hf5); have l5_0 : w1.heap.size < w5.heap.size := (by omega); have n5_0 : ¬ w1.heap.size = w5.heap.size := (by omega); have m5_0 : ¬ w5.heap.size = w1.heap.size := (by omega); have k5_0 := fun o => hc5 (w1.heap.size) o (by omega); have f5_0 := fun o => hf5 (w1.heap.size) o (by omega); (try simp (disch := (first | rfl | omega | (simp only [sz_alloc, sz_drew, sz_set]; omega))) only [sz_alloc, sz_drew, sz_set, World.cell?_drew, World.frozen?_drew, World.cell?_alloc_at, World.cell?_alloc_past, World.frozen?_alloc_at, World.frozen?_alloc_past, hc4, hc3, hc2, hf4, hf3, hf2] at k5_0 f5_0); have l5_1 : w3.heap.size < w5.heap.size := (by omega); have n5_1 : ¬ w3.heap.size = w5.heap.size := (by omega); have m5_1 : ¬ w5.heap.size = w3.heap.size := (by omega); have k5_1 := fun o => hc5 (w3.heap.size) o (by omega); have f5_1 := fun o => hf5 (w3.heap.size) o (by omega); (try simp (disch := (first | rfl | omega | (simp only [sz_alloc, sz_drew, sz_set]; omega))) only [sz_alloc, sz_drew, sz_set, World.cell?_drew, World.frozen?_drew, World.cell?_alloc_at, World.cell?_alloc_past, World.frozen?_alloc_at, World.frozen?_alloc_past, hc4, hc3, hc2, hf4, hf3, hf2] at k5_1 f5_1))
        | (go_at_call 61; refine (HSg.out _ _ (by first | (simp only [sz_alloc]; omega) | omega) (by first | exact sl_new _ _ _ | exact hs5 _ _ _ rfl | exact hd5 _ _ _ rfl)).mono ?_; rintro e w6 ⟨rfl, hb6⟩; obtain ⟨hc6, hf6⟩ := bcell hb6; have hz6 := hb6.size; (try simp only [sz_alloc, sz_drew, sz_set] at hz6 hc6 hf6); (first | (have l6_0 : w1.heap.size < w6.heap.size := (by omega); have n6_0 : ¬ w1.heap.size = w6.heap.size := (by omega); have m6_0 : ¬ w6.heap.size = w1.heap.size := (by omega); have k6_0 := fun o => hc6 (w1.heap.size) o (by omega); have f6_0 := fun o => hf6 (w1.heap.size) o (by omega); (try simp (disch := (first | rfl | omega | (simp only [sz_alloc, sz_drew, sz_set]; omega))) only [sz_alloc, sz_drew, sz_set, World.cell?_drew, World.frozen?_drew, World.cell?_alloc_at, World.cell?_alloc_past, World.frozen?_alloc_at, World.frozen?_alloc_past, hc5, hc4, hc3, hc2, hf5, hf4, hf3, hf2] at k6_0 f6_0); have l6_1 : w3.heap.size < w6.heap.size := (by omega); have n6_1 : ¬ w3.heap.size = w6.heap.size := (by omega); have m6_1 : ¬ w6.heap.size = w3.heap.size := (by omega); have k6_1 := fun o => hc6 (w3.heap.size) o (by omega); have f6_1 := fun o => hf6 (w3.heap.size) o (by omega); (try simp (disch := (first | rfl | omega | (simp only [sz_alloc, sz_drew, sz_set]; omega))) only [sz_alloc, sz_drew, sz_set, World.cell?_drew, World.frozen?_drew, World.cell?_alloc_at, World.cell?_alloc_past, World.frozen?_alloc_at, World.frozen?_alloc_past, hc5, hc4, hc3, hc2, hf5, hf4, hf3, hf2] at k6_1 f6_1)) | (have l6_0 : w1.heap.size < w6.heap.size := (by omega); have n6_0 : ¬ w1.heap.size = w6.heap.size := (by omega); have m6_0 : ¬ w6.heap.size = w1.heap.size := (by omega); have k6_0 := fun o => hc6 (w1.heap.size) o (by omega); have f6_0 := fun o => hf6 (w1.heap.size) o (by omega); (try simp (disch := (first | rfl | omega | (simp only [sz_alloc, sz_drew, sz_set]; omega))) only [sz_alloc, sz_drew, sz_set, World.cell?_drew, World.frozen?_drew, World.cell?_alloc_at, World.cell?_alloc_past, World.frozen?_alloc_at, World.frozen?_alloc_past, hc4, hc3, hc2, hf4, hf3, hf2] at k6_0 f6_0); have l6_1 : w3.heap.size < w6.heap.size := (by omega); have n6_1 : ¬ w3.heap.size = w6.heap.size := (by omega); have m6_1 : ¬ w6.heap.size = w3.heap.size := (by omega); have k6_1 := fun o => hc6 (w3.heap.size) o (by omega); have f6_1 := fun o => hf6 (w3.heap.size) o (by omega); (try simp (disch := (first | rfl | omega | (simp only [sz_alloc, sz_drew, sz_set]; omega))) only [sz_alloc, sz_drew, sz_set, World.cell?_drew, World.frozen?_drew, World.cell?_alloc_at, World.cell?_alloc_past, World.frozen?_alloc_at, World.frozen?_alloc_past, hc4, hc3, hc2, hf4, hf3, hf2] at k6_1 f6_1)))))
    all_goals go_wp2_with fail
    all_goals go_ret2
    all_goals exact retP_mk (by rw [HO.out]) (by rw [HO.out]; rfl) (by repeat (first | (with_reducible first | exact Below.refl _ _ | assumption | exact Nat.le_refl _ | refine Below.drew ?_ | refine Below.alloc ?_ ?_ _ | refine below_drewN ?_ _ | refine Below.setCell ?_ ?_ _ | refine le_alloc ?_ | refine le_set ?_ | refine le_drew ?_ | refine le_drewN ?_ | refine below_step (by assumption) ?_ ?_ | refine le_below (by assumption) ?_) | (dsimp only; omega)))
  · subst c8
    have HO : Hid (out = (quietB d, 0)) := by show _ = _; rw [HT.out, if_pos (by decide)]; rfl
    clear HT HRo
    go_wp2_with fail
    go_region_held3 (fun w' => w'.cell? ⟨w1.heap.size, 0, none⟩ = some (.int .i64 E) ∧ w'.cell? ⟨w1.heap.size, 1, none⟩ = some (.int .i64 F) ∧ w'.cell? ⟨w3.heap.size, 0, none⟩ = some (.int .i64 E2) ∧ w'.cell? ⟨w3.heap.size, 1, none⟩ = some (.int .i64 F2)) (all_goals (first | (go_keep; done) | (simp (disch := omega) only [cell_set_far]; simp [*])))
      (first
        | (go_at_call 38; refine (quiet_c d E F hd.out _).mono ?_; rintro e w5 ⟨rfl, hb5⟩; have hs5 := sl_keep hb5; have hd5 := sl_keepd hb5; obtain ⟨hc5, hf5⟩ := bcell hb5; have hz5 := hb5.size; (try simp only [sz_alloc, sz_drew, sz_set] at hz5 hc5 hf5); have l5_0 : w1.heap.size < w5.heap.size := (by omega); have n5_0 : ¬ w1.heap.size = w5.heap.size := (by omega); have m5_0 : ¬ w5.heap.size = w1.heap.size := (by omega); have k5_0 := fun o => hc5 (w1.heap.size) o (by omega); have f5_0 := fun o => hf5 (w1.heap.size) o (by omega); (try simp (disch := (first | rfl | omega | (simp only [sz_alloc, sz_drew, sz_set]; omega))) only [sz_alloc, sz_drew, sz_set, World.cell?_drew, World.frozen?_drew, World.cell?_alloc_at, World.cell?_alloc_past, World.frozen?_alloc_at, World.frozen?_alloc_past, hc4, hc3, hc2, hf4, hf3, hf2] at k5_0 f5_0); have l5_1 : w3.heap.size < w5.heap.size := (by omega); have n5_1 : ¬ w3.heap.size = w5.heap.size := (by omega); have m5_1 : ¬ w5.heap.size = w3.heap.size := (by omega); have k5_1 := fun o => hc5 (w3.heap.size) o (by omega); have f5_1 := fun o => hf5 (w3.heap.size) o (by omega); (try simp (disch := (first | rfl | omega | (simp only [sz_alloc, sz_drew, sz_set]; omega))) only [sz_alloc, sz_drew, sz_set, World.cell?_drew, World.frozen?_drew, World.cell?_alloc_at, World.cell?_alloc_past, World.frozen?_alloc_at, World.frozen?_alloc_past, hc4, hc3, hc2, hf4, hf3, hf2] at k5_1 f5_1))
        | (go_at_call 61; refine (HSg.out _ _ (by first | (simp only [sz_alloc]; omega) | omega) (by first | exact sl_new _ _ _ | exact hs5 _ _ _ rfl | exact hd5 _ _ _ rfl)).mono ?_; rintro e w6 ⟨rfl, hb6⟩; obtain ⟨hc6, hf6⟩ := bcell hb6; have hz6 := hb6.size; (try simp only [sz_alloc, sz_drew, sz_set] at hz6 hc6 hf6); (first | (have l6_0 : w1.heap.size < w6.heap.size := (by omega); have n6_0 : ¬ w1.heap.size = w6.heap.size := (by omega); have m6_0 : ¬ w6.heap.size = w1.heap.size := (by omega); have k6_0 := fun o => hc6 (w1.heap.size) o (by omega); have f6_0 := fun o => hf6 (w1.heap.size) o (by omega); (try simp (disch := (first | rfl | omega | (simp only [sz_alloc, sz_drew, sz_set]; omega))) only [sz_alloc, sz_drew, sz_set, World.cell?_drew, World.frozen?_drew, World.cell?_alloc_at, World.cell?_alloc_past, World.frozen?_alloc_at, World.frozen?_alloc_past, hc5, hc4, hc3, hc2, hf5, hf4, hf3, hf2] at k6_0 f6_0); have l6_1 : w3.heap.size < w6.heap.size := (by omega); have n6_1 : ¬ w3.heap.size = w6.heap.size := (by omega); have m6_1 : ¬ w6.heap.size = w3.heap.size := (by omega); have k6_1 := fun o => hc6 (w3.heap.size) o (by omega); have f6_1 := fun o => hf6 (w3.heap.size) o (by omega); (try simp (disch := (first | rfl | omega | (simp only [sz_alloc, sz_drew, sz_set]; omega))) only [sz_alloc, sz_drew, sz_set, World.cell?_drew, World.frozen?_drew, World.cell?_alloc_at, World.cell?_alloc_past, World.frozen?_alloc_at, World.frozen?_alloc_past, hc5, hc4, hc3, hc2, hf5, hf4, hf3, hf2] at k6_1 f6_1)) | (have l6_0 : w1.heap.size < w6.heap.size := (by omega); have n6_0 : ¬ w1.heap.size = w6.heap.size := (by omega); have m6_0 : ¬ w6.heap.size = w1.heap.size := (by omega); have k6_0 := fun o => hc6 (w1.heap.size) o (by omega); have f6_0 := fun o => hf6 (w1.heap.size) o (by omega); (try simp (disch := (first | rfl | omega | (simp only [sz_alloc, sz_drew, sz_set]; omega))) only [sz_alloc, sz_drew, sz_set, World.cell?_drew, World.frozen?_drew, World.cell?_alloc_at, World.cell?_alloc_past, World.frozen?_alloc_at, World.frozen?_alloc_past, hc4, hc3, hc2, hf4, hf3, hf2] at k6_0 f6_0); have l6_1 : w3.heap.size < w6.heap.size := (by omega); have n6_1 : ¬ w3.heap.size = w6.heap.size := (by omega); have m6_1 : ¬ w6.heap.size = w3.heap.size := (by omega); have k6_1 := fun o => hc6 (w3.heap.size) o (by omega); have f6_1 := fun o => hf6 (w3.heap.size) o (by omega); (try simp (disch := (first | rfl | omega | (simp only [sz_alloc, sz_drew, sz_set]; omega))) only [sz_alloc, sz_drew, sz_set, World.cell?_drew, World.frozen?_drew, World.cell?_alloc_at, World.cell?_alloc_past, World.frozen?_alloc_at, World.frozen?_alloc_past, hc4, hc3, hc2, hf4, hf3, hf2] at k6_1 f6_1)))))
    all_goals go_wp2_with fail
    all_goals go_ret2
    all_goals exact retP_mk (by rw [HO.out]) (by rw [HO.out]; rfl) (by repeat (first | (with_reducible first | exact Below.refl _ _ | assumption | exact Nat.le_refl _ | refine Below.drew ?_ | refine Below.alloc ?_ ?_ _ | refine below_drewN ?_ _ | refine Below.setCell ?_ ?_ _ | refine le_alloc ?_ | refine le_set ?_ | refine le_drew ?_ | refine le_drewN ?_ | refine below_step (by assumption) ?_ ?_ | refine le_below (by assumption) ?_) | (dsimp only; omega)))
end Go.Proofs.Yteinjalnkhfecaa
