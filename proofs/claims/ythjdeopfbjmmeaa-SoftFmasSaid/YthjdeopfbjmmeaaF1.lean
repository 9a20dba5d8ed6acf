/- The answers that the document fixes. -/
import Derived.Test.YthjdeopfbjmmeaaE5
import Derived.Deep.QuietTactic
import Derived.BigQuiet
namespace Go.Proofs.Ythjdeopfbjmmeaa
open Go.ChangeShapes Go.WideShapes Go.ChangeAt Go.RowKit
set_option linter.unusedVariables false
set_option linter.unusedSimpArgs false
def RetL (a b : Int) (W : World) (e : Ending) (w' : World) : Prop := e = .returned (.tuple #[.int .u64 a, .int .i64 b]) ∧ Below W.heap.size W w'
theorem retL_of {r : Nat × Int} {a b : Int} {W : World} {e : Ending} {w' : World} (hr : r = (a.toNat, b)) (ha : 0 ≤ a) (h : RetP r W e w') : RetL a b W e w' := by
  obtain ⟨h1, h2⟩ := h
  refine ⟨?_, h2⟩
  rw [h1, hr]; simp only [Int.toNat_of_nonneg ha]
theorem ans_1 (w : World) : Calls Try.prog 13 #[.int .i64 4, .int .i64 0, .int .u64 1065353216, .int .u64 1065353216] w (RetL 1073741824 0 w) :=
  (Add_c 4 false rfl 0 (by decide) (by decide) 1065353216 1065353216 (by show _ < _; decide) (by show _ < _; decide) w).mono fun _ _ h => retL_of (by decide +kernel) (by decide) h
theorem ans_2 (w : World) : Calls Try.prog 19 #[.int .i64 4, .int .i64 0, .int .u64 1065353216, .int .u64 1077936128] w (RetL 1051372203 1 w) :=
  (Div_c 4 false rfl 0 (by decide) (by decide) 1065353216 1077936128 (by show _ < _; decide) (by show _ < _; decide) w).mono fun _ _ h => retL_of (by decide +kernel) (by decide) h
theorem ans_3 (w : World) : Calls Try.prog 21 #[.int .i64 4, .int .i64 0, .int .u64 3212836864] w (RetL 2143289344 16 w) :=
  (Sqrt_c 4 false rfl 0 (by decide) (by decide) 3212836864 (by show _ < _; decide) w).mono fun _ _ h => retL_of (by decide +kernel) (by decide) h
theorem ans_4 (w : World) : Calls Try.prog 23 #[.int .i64 4, .int .i64 0, .int .u64 1065353217, .int .u64 1065353217, .int .u64 3212836866] w (RetL 679477248 0 w) :=
  (Fma_c 4 false rfl 0 (by decide) (by decide) 1065353217 1065353217 3212836866 (by show _ < _; decide) (by show _ < _; decide) (by show _ < _; decide) w).mono fun _ _ h => retL_of (by decide +kernel) (by decide) h
theorem ans_5 (w : World) : Calls Try.prog 17 #[.int .i64 4, .int .i64 3, .int .u64 1, .int .u64 1056964608] w (RetL 1 3 w) :=
  (Mul_c 4 false rfl 3 (by decide) (by decide) 1 1056964608 (by show _ < _; decide) (by show _ < _; decide) w).mono fun _ _ h => retL_of (by decide +kernel) (by decide) h
theorem awake_c (w : World) : Calls Try.prog 12 #[] w (RetB true w) := by
  go_enter Try.func12, Try.ntmps12
  go_wp2_with fail
  refine (ans_1 _).mono ?_; rintro e w1 ⟨rfl, hb1⟩
  go_wp2_with fail
  refine (ans_2 _).mono ?_; rintro e w2 ⟨rfl, hb2⟩
  go_wp2_with fail
  refine (ans_3 _).mono ?_; rintro e w3 ⟨rfl, hb3⟩
  go_wp2_with fail
  refine (ans_4 _).mono ?_; rintro e w4 ⟨rfl, hb4⟩
  go_wp2_with fail
  refine (ans_5 _).mono ?_; rintro e w5 ⟨rfl, hb5⟩
  go_wp2_with fail
  go_ret
  exact retB_mk rfl (by repeat (first | (with_reducible first | exact Below.refl _ _ | assumption | exact Nat.le_refl _ | refine Below.drew ?_ | refine Below.alloc ?_ ?_ _ | refine Below.setCell ?_ ?_ _ | refine le_alloc ?_ | refine le_set ?_ | refine le_drew ?_ | refine below_step (by assumption) ?_ ?_ | refine le_below (by assumption) ?_) | (dsimp only; omega)))
end Go.Proofs.Ythjdeopfbjmmeaa
