/- The contracts of how floats are laid out. -/
import Derived.Test.YthjdeopfbjmmeaaA
import Derived.Deep.RegionHeld3
namespace Go.Proofs.Ythjdeopfbjmmeaa
open Go.ChangeShapes Go.WideShapes Go.ChangeAt Go.RowKit
set_option linter.unusedVariables false
set_option linter.unusedSimpArgs false

theorem most_c (d : Bool) (E F : Int) (hd : Lay d E F) (w : World) :
    Calls Try.prog 63 #[.agg #[.int .i64 E, .int .i64 F]] w (RetI (bias d) w) := by
  rcases hd with ⟨rfl, rfl, rfl⟩ | ⟨rfl, rfl, rfl⟩
  all_goals
    go_enter Try.func63, Try.ntmps63
    go_wp2
    go_ret
    exact retI_mk rfl (by repeat (first | (with_reducible first | exact Below.refl _ _ | assumption | exact Nat.le_refl _ | refine Below.drew ?_ | refine Below.alloc ?_ ?_ _ | refine Below.setCell ?_ ?_ _ | refine le_alloc ?_ | refine le_set ?_ | refine le_drew ?_ | refine below_step (by assumption) ?_ ?_ | refine le_below (by assumption) ?_) | (dsimp only; omega)))
theorem least_c (d : Bool) (E F : Int) (hd : Lay d E F) (w : World) :
    Calls Try.prog 64 #[.agg #[.int .i64 E, .int .i64 F]] w (RetI (1 - bias d) w) := by
  rcases hd with ⟨rfl, rfl, rfl⟩ | ⟨rfl, rfl, rfl⟩
  all_goals
    go_enter Try.func64, Try.ntmps64
    go_wp2
    go_ret
    exact retI_mk rfl (by repeat (first | (with_reducible first | exact Below.refl _ _ | assumption | exact Nat.le_refl _ | refine Below.drew ?_ | refine Below.alloc ?_ ?_ _ | refine Below.setCell ?_ ?_ _ | refine le_alloc ?_ | refine le_set ?_ | refine le_drew ?_ | refine below_step (by assumption) ?_ ?_ | refine le_below (by assumption) ?_) | (dsimp only; omega)))
theorem sign_c (d : Bool) (E F : Int) (hd : Lay d E F) (w : World) :
    Calls Try.prog 41 #[.agg #[.int .i64 E, .int .i64 F]] w (RetU (signB d) w) := by
  rcases hd with ⟨rfl, rfl, rfl⟩ | ⟨rfl, rfl, rfl⟩
  all_goals
    go_enter Try.func41, Try.ntmps41
    go_wp2
    go_ret
    exact retU_mk rfl (by repeat (first | (with_reducible first | exact Below.refl _ _ | assumption | exact Nat.le_refl _ | refine Below.drew ?_ | refine Below.alloc ?_ ?_ _ | refine Below.setCell ?_ ?_ _ | refine le_alloc ?_ | refine le_set ?_ | refine le_drew ?_ | refine below_step (by assumption) ?_ ?_ | refine le_below (by assumption) ?_) | (dsimp only; omega)))
theorem nought_c (d : Bool) (E F : Int) (hd : Lay d E F) (m : Bool) (w : World) :
    Calls Try.prog 52 #[.agg #[.int .i64 E, .int .i64 F], .bool m] w (RetU (noughtV d m) w) := by
  rcases hd with ⟨rfl, rfl, rfl⟩ | ⟨rfl, rfl, rfl⟩ <;> cases m
  all_goals
    go_enter Try.func52, Try.ntmps52
    go_wp2
    go_ret
    exact retU_mk rfl (by repeat (first | (with_reducible first | exact Below.refl _ _ | assumption | exact Nat.le_refl _ | refine Below.drew ?_ | refine Below.alloc ?_ ?_ _ | refine Below.setCell ?_ ?_ _ | refine le_alloc ?_ | refine le_set ?_ | refine le_drew ?_ | refine below_step (by assumption) ?_ ?_ | refine le_below (by assumption) ?_) | (dsimp only; omega)))
theorem classAtEnd_c (d : Bool) (E F : Int) (hd : Lay d E F) (fr : Nat) (w : World) :
    Calls Try.prog 62 #[.agg #[.int .i64 E, .int .i64 F], .int .u64 fr] w (RetI (classV d fr) w) := by
  rcases hd with ⟨rfl, rfl, rfl⟩ | ⟨rfl, rfl, rfl⟩
  all_goals
    go_enter Try.func62, Try.ntmps62
    go_wp2
    all_goals go_ret
    all_goals refine retI_mk ?_ (by repeat (first | (with_reducible first | exact Below.refl _ _ | assumption | exact Nat.le_refl _ | refine Below.drew ?_ | refine Below.alloc ?_ ?_ _ | refine Below.setCell ?_ ?_ _ | refine le_alloc ?_ | refine le_set ?_ | refine le_drew ?_ | refine below_step (by assumption) ?_ ?_ | refine le_below (by assumption) ?_) | (dsimp only; omega)))
    all_goals unfold classV fracT
    all_goals (try simp only [beq_iff_eq, beq_eq_false_iff_ne, bne_iff_ne, bne_eq_false_iff_eq, ne_eq, Bool.not_eq_true] at *)
    all_goals ((repeat' split) <;> (first | rfl | omega | (simp at *; done) | (simp at *; omega)))
theorem infinity_false (m : Bool) (w : World) :
    Calls Try.prog 51 #[.agg #[.int .i64 8, .int .i64 23], .bool m] w (RetU (infV false m) w) := by
  go_enter Try.func51, Try.ntmps51
  go_wp2_with fail
  go_region_held3 (fun w' => w'.cell? ⟨w.heap.size, 0, none⟩ = some (.int .i64 8) ∧ w'.cell? ⟨w.heap.size, 1, none⟩ = some (.int .i64 23)) (go_keep)
    (first
      | (go_at_call 52; refine (nought_c false _ _ (.inl ⟨rfl, rfl, rfl⟩) _ _).mono ?_; rintro e w1 ⟨rfl, hb1⟩; obtain ⟨hc1, hf1⟩ := bcell hb1; have hz1 := hb1.size; (try simp only [sz_alloc, sz_drew, sz_set] at hz1 hc1 hf1); have l1_0 : w.heap.size < w1.heap.size := (by omega); have n1_0 : ¬ w.heap.size = w1.heap.size := (by omega); have m1_0 : ¬ w1.heap.size = w.heap.size := (by omega); have k1_0 := fun o => hc1 (w.heap.size) o (by omega); have f1_0 := fun o => hf1 (w.heap.size) o (by omega); (try simp (disch := (first | rfl | omega | (simp only [sz_alloc, sz_drew, sz_set]; omega))) only [sz_alloc, sz_drew, sz_set, World.cell?_drew, World.frozen?_drew, World.cell?_alloc_at, World.cell?_alloc_past, World.frozen?_alloc_at, World.frozen?_alloc_past] at k1_0 f1_0))
      | (go_at_call 41; refine (sign_c false _ _ (.inl ⟨rfl, rfl, rfl⟩) _).mono ?_; rintro e w2 ⟨rfl, hb2⟩; obtain ⟨hc2, hf2⟩ := bcell hb2; have hz2 := hb2.size; (try simp only [sz_alloc, sz_drew, sz_set] at hz2 hc2 hf2); have l2_0 : w.heap.size < w2.heap.size := (by omega); have n2_0 : ¬ w.heap.size = w2.heap.size := (by omega); have m2_0 : ¬ w2.heap.size = w.heap.size := (by omega); have k2_0 := fun o => hc2 (w.heap.size) o (by omega); have f2_0 := fun o => hf2 (w.heap.size) o (by omega); (try simp (disch := (first | rfl | omega | (simp only [sz_alloc, sz_drew, sz_set]; omega))) only [sz_alloc, sz_drew, sz_set, World.cell?_drew, World.frozen?_drew, World.cell?_alloc_at, World.cell?_alloc_past, World.frozen?_alloc_at, World.frozen?_alloc_past] at k2_0 f2_0)))
  all_goals go_wp2
  all_goals go_ret
  all_goals refine retU_mk ?_ (by repeat (first | (with_reducible first | exact Below.refl _ _ | assumption | exact Nat.le_refl _ | refine Below.drew ?_ | refine Below.alloc ?_ ?_ _ | refine Below.setCell ?_ ?_ _ | refine le_alloc ?_ | refine le_set ?_ | refine le_drew ?_ | refine below_step (by assumption) ?_ ?_ | refine le_below (by assumption) ?_) | (dsimp only; omega)))
  all_goals cases m
  all_goals decide +kernel
theorem infinity_true (m : Bool) (w : World) :
    Calls Try.prog 51 #[.agg #[.int .i64 11, .int .i64 52], .bool m] w (RetU (infV true m) w) := by
  go_enter Try.func51, Try.ntmps51
  go_wp2_with fail
  go_region_held3 (fun w' => w'.cell? ⟨w.heap.size, 0, none⟩ = some (.int .i64 11) ∧ w'.cell? ⟨w.heap.size, 1, none⟩ = some (.int .i64 52)) (go_keep)
    (first
      | (go_at_call 52; refine (nought_c true _ _ (.inr ⟨rfl, rfl, rfl⟩) _ _).mono ?_; rintro e w1 ⟨rfl, hb1⟩; obtain ⟨hc1, hf1⟩ := bcell hb1; have hz1 := hb1.size; (try simp only [sz_alloc, sz_drew, sz_set] at hz1 hc1 hf1); have l1_0 : w.heap.size < w1.heap.size := (by omega); have n1_0 : ¬ w.heap.size = w1.heap.size := (by omega); have m1_0 : ¬ w1.heap.size = w.heap.size := (by omega); have k1_0 := fun o => hc1 (w.heap.size) o (by omega); have f1_0 := fun o => hf1 (w.heap.size) o (by omega); (try simp (disch := (first | rfl | omega | (simp only [sz_alloc, sz_drew, sz_set]; omega))) only [sz_alloc, sz_drew, sz_set, World.cell?_drew, World.frozen?_drew, World.cell?_alloc_at, World.cell?_alloc_past, World.frozen?_alloc_at, World.frozen?_alloc_past] at k1_0 f1_0))
      | (go_at_call 41; refine (sign_c true _ _ (.inr ⟨rfl, rfl, rfl⟩) _).mono ?_; rintro e w2 ⟨rfl, hb2⟩; obtain ⟨hc2, hf2⟩ := bcell hb2; have hz2 := hb2.size; (try simp only [sz_alloc, sz_drew, sz_set] at hz2 hc2 hf2); have l2_0 : w.heap.size < w2.heap.size := (by omega); have n2_0 : ¬ w.heap.size = w2.heap.size := (by omega); have m2_0 : ¬ w2.heap.size = w.heap.size := (by omega); have k2_0 := fun o => hc2 (w.heap.size) o (by omega); have f2_0 := fun o => hf2 (w.heap.size) o (by omega); (try simp (disch := (first | rfl | omega | (simp only [sz_alloc, sz_drew, sz_set]; omega))) only [sz_alloc, sz_drew, sz_set, World.cell?_drew, World.frozen?_drew, World.cell?_alloc_at, World.cell?_alloc_past, World.frozen?_alloc_at, World.frozen?_alloc_past] at k2_0 f2_0)))
  all_goals go_wp2
  all_goals go_ret
  all_goals refine retU_mk ?_ (by repeat (first | (with_reducible first | exact Below.refl _ _ | assumption | exact Nat.le_refl _ | refine Below.drew ?_ | refine Below.alloc ?_ ?_ _ | refine Below.setCell ?_ ?_ _ | refine le_alloc ?_ | refine le_set ?_ | refine le_drew ?_ | refine below_step (by assumption) ?_ ?_ | refine le_below (by assumption) ?_) | (dsimp only; omega)))
  all_goals cases m
  all_goals decide +kernel
theorem infinity_c (d : Bool) (E F : Int) (hd : Lay d E F) (m : Bool) (w : World) :
    Calls Try.prog 51 #[.agg #[.int .i64 E, .int .i64 F], .bool m] w (RetU (infV d m) w) := by
  rcases hd with ⟨rfl, rfl, rfl⟩ | ⟨rfl, rfl, rfl⟩
  · exact infinity_false m w
  · exact infinity_true m w
theorem greatest_c (d : Bool) (E F : Int) (hd : Lay d E F) (m : Bool) (w : World) :
    Calls Try.prog 97 #[.agg #[.int .i64 E, .int .i64 F], .bool m] w (RetU (infV d m - 1) w) := by
  go_enter Try.func97, Try.ntmps97
  go_wp2_with fail
  refine (infinity_c d E F hd m _).mono ?_
  rintro e w1 ⟨rfl, hb1⟩
  go_wp2_with fail
  go_ret
  refine retU_mk ?_ (by repeat (first | (with_reducible first | exact Below.refl _ _ | assumption | exact Nat.le_refl _ | refine Below.drew ?_ | refine Below.alloc ?_ ?_ _ | refine Below.setCell ?_ ?_ _ | refine le_alloc ?_ | refine le_set ?_ | refine le_drew ?_ | refine below_step (by assumption) ?_ ?_ | refine le_below (by assumption) ?_) | (dsimp only; omega)))
  rw [IntKind.wrap_u64]
  cases d <;> cases m <;> decide +kernel
theorem quiet_false (w : World) :
    Calls Try.prog 44 #[.agg #[.int .i64 8, .int .i64 23]] w (RetU (quietB false) w) := by
  have e22 : IntKind.i64.wrap 22 = 22 := by decide
  have e51 : IntKind.i64.wrap 51 = 51 := by decide
  go_enter Try.func44, Try.ntmps44
  go_wp2_with fail
  go_region_held3 (fun w' => w'.cell? ⟨w.heap.size, 0, none⟩ = some (.int .i64 8) ∧ w'.cell? ⟨w.heap.size, 1, none⟩ = some (.int .i64 23)) (go_keep)
    (first
      | (go_at_call 51; refine (infinity_c false _ _ (.inl ⟨rfl, rfl, rfl⟩) _ _).mono ?_; rintro e w1 ⟨rfl, hb1⟩; obtain ⟨hc1, hf1⟩ := bcell hb1; have hz1 := hb1.size; (try simp only [sz_alloc, sz_drew, sz_set] at hz1 hc1 hf1); have l1_0 : w.heap.size < w1.heap.size := (by omega); have n1_0 : ¬ w.heap.size = w1.heap.size := (by omega); have m1_0 : ¬ w1.heap.size = w.heap.size := (by omega); have k1_0 := fun o => hc1 (w.heap.size) o (by omega); have f1_0 := fun o => hf1 (w.heap.size) o (by omega); (try simp (disch := (first | rfl | omega | (simp only [sz_alloc, sz_drew, sz_set]; omega))) only [sz_alloc, sz_drew, sz_set, World.cell?_drew, World.frozen?_drew, World.cell?_alloc_at, World.cell?_alloc_past, World.frozen?_alloc_at, World.frozen?_alloc_past] at k1_0 f1_0)))
  all_goals go_wp2
  all_goals go_ret
  all_goals refine retU_mk ?_ (by repeat (first | (with_reducible first | exact Below.refl _ _ | assumption | exact Nat.le_refl _ | refine Below.drew ?_ | refine Below.alloc ?_ ?_ _ | refine Below.setCell ?_ ?_ _ | refine le_alloc ?_ | refine le_set ?_ | refine le_drew ?_ | refine below_step (by assumption) ?_ ?_ | refine le_below (by assumption) ?_) | (dsimp only; omega)))
  all_goals decide +kernel
theorem quiet_true (w : World) :
    Calls Try.prog 44 #[.agg #[.int .i64 11, .int .i64 52]] w (RetU (quietB true) w) := by
  have e22 : IntKind.i64.wrap 22 = 22 := by decide
  have e51 : IntKind.i64.wrap 51 = 51 := by decide
  go_enter Try.func44, Try.ntmps44
  go_wp2_with fail
  go_region_held3 (fun w' => w'.cell? ⟨w.heap.size, 0, none⟩ = some (.int .i64 11) ∧ w'.cell? ⟨w.heap.size, 1, none⟩ = some (.int .i64 52)) (go_keep)
    (first
      | (go_at_call 51; refine (infinity_c true _ _ (.inr ⟨rfl, rfl, rfl⟩) _ _).mono ?_; rintro e w1 ⟨rfl, hb1⟩; obtain ⟨hc1, hf1⟩ := bcell hb1; have hz1 := hb1.size; (try simp only [sz_alloc, sz_drew, sz_set] at hz1 hc1 hf1); have l1_0 : w.heap.size < w1.heap.size := (by omega); have n1_0 : ¬ w.heap.size = w1.heap.size := (by omega); have m1_0 : ¬ w1.heap.size = w.heap.size := (by omega); have k1_0 := fun o => hc1 (w.heap.size) o (by omega); have f1_0 := fun o => hf1 (w.heap.size) o (by omega); (try simp (disch := (first | rfl | omega | (simp only [sz_alloc, sz_drew, sz_set]; omega))) only [sz_alloc, sz_drew, sz_set, World.cell?_drew, World.frozen?_drew, World.cell?_alloc_at, World.cell?_alloc_past, World.frozen?_alloc_at, World.frozen?_alloc_past] at k1_0 f1_0)))
  all_goals go_wp2
  all_goals go_ret
  all_goals refine retU_mk ?_ (by repeat (first | (with_reducible first | exact Below.refl _ _ | assumption | exact Nat.le_refl _ | refine Below.drew ?_ | refine Below.alloc ?_ ?_ _ | refine Below.setCell ?_ ?_ _ | refine le_alloc ?_ | refine le_set ?_ | refine le_drew ?_ | refine below_step (by assumption) ?_ ?_ | refine le_below (by assumption) ?_) | (dsimp only; omega)))
  all_goals decide +kernel
theorem quiet_c (d : Bool) (E F : Int) (hd : Lay d E F) (w : World) :
    Calls Try.prog 44 #[.agg #[.int .i64 E, .int .i64 F]] w (RetU (quietB d) w) := by
  rcases hd with ⟨rfl, rfl, rfl⟩ | ⟨rfl, rfl, rfl⟩
  · exact quiet_false w
  · exact quiet_true w
/-- Is a number rounded to the next one farther from 0? -/
def awayV (rm : Int) (m : Bool) (k : Nat) (r : Int) : Bool :=
  if rm = 0 then decide (r = 3) || (decide (r = 2) && decide (k % 2 = 1))
  else if rm = 2 then decide (r ≠ 0) && m else if rm = 3 then decide (r ≠ 0) && !m else if rm = 4 then decide (2 ≤ r) else false
theorem away_c (rm : Int) (m : Bool) (k : Nat) (r : Int) (hk : Hid (k < 18446744073709551616)) (w : World) :
    Calls Try.prog 96 #[.int .i64 rm, .bool m, .int .u64 k, .int .i64 r] w (RetB (awayV rm m k r) w) := by
  go_enter Try.func96, Try.ntmps96
  go_wp2
  all_goals go_ret
  all_goals refine retB_mk ?_ (by repeat (first | (with_reducible first | exact Below.refl _ _ | assumption | exact Nat.le_refl _ | refine Below.drew ?_ | refine Below.alloc ?_ ?_ _ | refine Below.setCell ?_ ?_ _ | refine le_alloc ?_ | refine le_set ?_ | refine le_drew ?_ | refine below_step (by assumption) ?_ ?_ | refine le_below (by assumption) ?_) | (dsimp only; omega)))
  all_goals unfold awayV
  all_goals (try rw [and1' k hk.out])
  all_goals (try simp only [beq_iff_eq, beq_eq_false_iff_ne, bne_iff_ne, bne_eq_false_iff_eq, ne_eq, Bool.not_eq_true] at *)
  all_goals (try simp_all)
theorem layoutOf_no (size rm : Int) (h : ¬ ((size = 4 ∨ size = 8) ∧ 0 ≤ rm ∧ rm ≤ 4)) (w : World) :
    Calls Try.prog 33 #[.int .i64 size, .int .i64 rm] w (fun e w' => e = .returned (.tuple #[.agg #[.int .i64 0, .int .i64 0], .bool false]) ∧ Below w.heap.size w w') := by
  by_cases h1 : rm < 0
  · go_enter Try.func33, Try.ntmps33
    go_wp2
    exact bodyPost_ret (v := .tuple #[.agg #[_, _], .bool false]) (by simp [results, Try.results33, go_sem] <;> (first | rfl | (repeat' (first | rfl | apply And.intro)))) rfl ⟨rfl, (by repeat (first | (with_reducible first | exact Below.refl _ _ | assumption | exact Nat.le_refl _ | refine Below.drew ?_ | refine Below.alloc ?_ ?_ _ | refine Below.setCell ?_ ?_ _ | refine le_alloc ?_ | refine le_set ?_ | refine le_drew ?_ | refine below_step (by assumption) ?_ ?_ | refine le_below (by assumption) ?_) | (dsimp only; omega)))⟩
  · by_cases h2 : 4 < rm
    · go_enter Try.func33, Try.ntmps33
      go_wp2
      exact bodyPost_ret (v := .tuple #[.agg #[_, _], .bool false]) (by simp [results, Try.results33, go_sem] <;> (first | rfl | (repeat' (first | rfl | apply And.intro)))) rfl ⟨rfl, (by repeat (first | (with_reducible first | exact Below.refl _ _ | assumption | exact Nat.le_refl _ | refine Below.drew ?_ | refine Below.alloc ?_ ?_ _ | refine Below.setCell ?_ ?_ _ | refine le_alloc ?_ | refine le_set ?_ | refine le_drew ?_ | refine below_step (by assumption) ?_ ?_ | refine le_below (by assumption) ?_) | (dsimp only; omega)))⟩
    · have h4 : (size == 4) = false := by rw [beq_eq_false_iff_ne]; intro e; apply h; omega
      have h8 : (size == 8) = false := by rw [beq_eq_false_iff_ne]; intro e; apply h; omega
      have h3 : rm < 5 := by omega
      have h5 : 0 ≤ rm := by omega
      clear h h1 h2
      go_enter Try.func33, Try.ntmps33
      go_wp2
      exact bodyPost_ret (v := .tuple #[.agg #[_, _], .bool false]) (by simp [results, Try.results33, go_sem] <;> (first | rfl | (repeat' (first | rfl | apply And.intro)))) rfl ⟨rfl, (by repeat (first | (with_reducible first | exact Below.refl _ _ | assumption | exact Nat.le_refl _ | refine Below.drew ?_ | refine Below.alloc ?_ ?_ _ | refine Below.setCell ?_ ?_ _ | refine le_alloc ?_ | refine le_set ?_ | refine le_drew ?_ | refine below_step (by assumption) ?_ ?_ | refine le_below (by assumption) ?_) | (dsimp only; omega)))⟩
theorem layoutOf_c (d : Bool) (rm : Int) (h5 : 0 ≤ rm) (h3 : rm < 5) (w : World) :
    Calls Try.prog 33 #[.int .i64 (if d then 8 else 4), .int .i64 rm] w (fun e w' => ∃ E F : Int, e = .returned (.tuple #[.agg #[.int .i64 E, .int .i64 F], .bool true]) ∧ Lay d E F ∧ Below w.heap.size w w') := by
  cases d
  · simp only [Bool.false_eq_true, if_false]
    go_enter Try.func33, Try.ntmps33
    go_wp2
    exact bodyPost_ret (v := .tuple #[.agg #[_, _], .bool true]) (by simp [results, Try.results33, go_sem] <;> (first | rfl | (repeat' (first | rfl | apply And.intro)))) rfl ⟨8, 23, rfl, .inl ⟨rfl, rfl, rfl⟩, (by repeat (first | (with_reducible first | exact Below.refl _ _ | assumption | exact Nat.le_refl _ | refine Below.drew ?_ | refine Below.alloc ?_ ?_ _ | refine Below.setCell ?_ ?_ _ | refine le_alloc ?_ | refine le_set ?_ | refine le_drew ?_ | refine below_step (by assumption) ?_ ?_ | refine le_below (by assumption) ?_) | (dsimp only; omega)))⟩
  · simp only [if_true]
    go_enter Try.func33, Try.ntmps33
    go_wp2
    exact bodyPost_ret (v := .tuple #[.agg #[_, _], .bool true]) (by simp [results, Try.results33, go_sem] <;> (first | rfl | (repeat' (first | rfl | apply And.intro)))) rfl ⟨11, 52, rfl, .inr ⟨rfl, rfl, rfl⟩, (by repeat (first | (with_reducible first | exact Below.refl _ _ | assumption | exact Nat.le_refl _ | refine Below.drew ?_ | refine Below.alloc ?_ ?_ _ | refine Below.setCell ?_ ?_ _ | refine le_alloc ?_ | refine le_set ?_ | refine le_drew ?_ | refine below_step (by assumption) ?_ ?_ | refine le_below (by assumption) ?_) | (dsimp only; omega)))⟩
end Go.Proofs.Ythjdeopfbjmmeaa
