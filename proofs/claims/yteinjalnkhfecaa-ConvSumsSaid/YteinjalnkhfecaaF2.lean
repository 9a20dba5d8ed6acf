/- The answers that the document fixes, all of them. -/
import Derived.Test.YteinjalnkhfecaaF1
namespace Go.Proofs.Yteinjalnkhfecaa
open Go.ChangeShapes Go.WideShapes Go.ChangeAt Go.RowKit
set_option linter.unusedVariables false
set_option linter.unusedSimpArgs false
def RetV (n : Int) (W : World) (e : Ending) (w' : World) : Prop := e = .returned (.int .u64 n) ∧ Below W.heap.size W w'
theorem retL_eq {a b x y : Int} {W : World} {e : Ending} {w' : World} (h1 : x = a) (h2 : y = b) (h : RetL x y W e w') : RetL a b W e w' := by subst h1 h2; exact h
theorem retV_eq {a : Nat} {x : Int} {W : World} {e : Ending} {w' : World} (h1 : (a : Int) = x) (h : RetU a W e w') : RetV x W e w' := ⟨by rw [h.1, h1], h.2⟩
theorem ans_5 (w : World) : Calls Try.prog 28 #[.int .i64 70, .int .i64 4, .int .u64 2143289344, .int .u64 0] w (RetL 0 16 w) :=
  (Compare_70 4 false rfl 2143289344 0 (by show _ < _; decide) (by show _ < _; decide) w).mono fun _ _ h => retL_eq (by decide +kernel) (by decide +kernel) h
theorem ans_6 (w : World) : Calls Try.prog 26 #[.int .i64 67, .int .i64 4, .int .u64 2147483648, .int .u64 0] w (RetL 2147483648 0 w) :=
  (Pick_67 4 false rfl 2147483648 0 (by show _ < _; decide) (by show _ < _; decide) w).mono fun _ _ h => retL_eq (by decide +kernel) (by decide +kernel) h
theorem ans_7 (w : World) : Calls Try.prog 12 #[.int .u64 1065353216] w (RetV 18446744070479937536 w) :=
  (Box_c 1065353216 (by show _ < _; decide) w).mono fun _ _ h => retV_eq (by decide +kernel) h
theorem ans_8 (w : World) : Calls Try.prog 14 #[.int .u64 1065353216] w (RetV 2143289344 w) :=
  (Unbox_c 1065353216 (by show _ < _; decide) w).mono fun _ _ h => retV_eq (by decide +kernel) h
theorem ans_9 (w : World) : Calls Try.prog 24 #[.int .i64 4, .int .u64 1] w (RetV 32 w) :=
  (Class_c 4 false rfl 1 (by show _ < _; decide) w).mono fun _ _ h => retV_eq (by decide +kernel) h
theorem ans_10 (w : World) : Calls Try.prog 22 #[.int .i64 64, .int .i64 4, .int .u64 1, .int .u64 2147483648] w (RetV 2147483649 w) :=
  (Sign_c 64 (.inl rfl) 4 false rfl 1 2147483648 (by show _ < _; decide) (by show _ < _; decide) w).mono fun _ _ h => retV_eq (by decide +kernel) h
set_option maxRecDepth 100000 in
set_option maxHeartbeats 2000000 in
theorem awake_c (w : World) : Calls Try.prog 11 #[] w (RetB true w) := by
  go_enter Try.func11, Try.ntmps11
  go_wp2_with fail
  refine (ans_1 _).mono ?_; rintro e w1 ⟨rfl, hb1⟩
  go_wp2_with fail
  refine (ans_2 _).mono ?_; rintro e w2 ⟨rfl, hb2⟩
  go_wp2_with fail
  refine (ans_3 _).mono ?_; rintro e w3 ⟨rfl, hb3⟩
  go_wp2_with fail
  refine (ans_4 _).mono ?_; rintro e w4 ⟨rfl, hb4⟩
  go_wp2_with fail
  refine (ans_5 _).mono ?_; rintro e w5 ⟨rfl, hb5⟩
  go_wp2_with fail
  refine (ans_6 _).mono ?_; rintro e w6 ⟨rfl, hb6⟩
  go_wp2_with fail
  refine (ans_7 _).mono ?_; rintro e w7 ⟨rfl, hb7⟩
  go_wp2_with fail
  refine (ans_8 _).mono ?_; rintro e w8 ⟨rfl, hb8⟩
  go_wp2_with fail
  refine (ans_9 _).mono ?_; rintro e w9 ⟨rfl, hb9⟩
  go_wp2_with fail
  refine (ans_10 _).mono ?_; rintro e w10 ⟨rfl, hb10⟩
  go_wp2_with fail
  go_ret
  exact retB_mk rfl (by repeat (first | (with_reducible first | exact Below.refl _ _ | assumption | exact Nat.le_refl _ | refine Below.drew ?_ | refine Below.alloc ?_ ?_ _ | refine Below.setCell ?_ ?_ _ | refine le_alloc ?_ | refine le_set ?_ | refine le_drew ?_ | refine below_step (by assumption) ?_ ?_ | refine le_below (by assumption) ?_) | (dsimp only; omega)))
end Go.Proofs.Yteinjalnkhfecaa
