/- The contract of the reference's pieces, letter by letter. -/
import Derived.Test.YtlohpakcikkdmaaR1
namespace Go.Proofs.Ytlohpakcikkdmaa
open Go.ChangeShapes Go.WideShapes Go.ChangeAt Go.RowKit
set_option linter.unusedVariables false
set_option linter.unusedSimpArgs false
/-- A slice of pieces, n of them, three numbers each. -/
def RetP (n : Nat) (xs : List Int) (W : World) (e : Ending) (w' : World) : Prop := ∃ B, e = .returned (.slice (some ⟨B, 0, none⟩) n n) ∧ NumsAt w' B .i64 xs ∧ W.heap.size ≤ B ∧ B < w'.heap.size ∧ Below W.heap.size W w'
theorem pieces_73 (w : World) : Calls Try.prog 33 #[.int .u8 73] w (RetP 1 [20, 12, 0] w) := by
  go_enter Try.func33, Try.ntmps33
  go_wp2
  go_ret
  refine ⟨w.heap.size, rfl, ?_, Nat.le_refl _, by rw [sz_alloc]; omega, (by repeat (first | (with_reducible first | exact Below.refl _ _ | assumption | exact Nat.le_refl _ | refine Below.drew ?_ | refine Below.alloc ?_ ?_ _ | refine Below.setCell ?_ ?_ _ | refine le_alloc ?_ | refine le_set ?_ | refine le_drew ?_ | refine below_step (by assumption) ?_ ?_ | refine le_below (by assumption) ?_) | (dsimp only; omega)))⟩
  intro o ho
  rw [World.cell?_alloc_at _ _ _ _ rfl]
  have : o = 0 ∨ o = 1 ∨ o = 2 := by simp at ho; omega
  rcases this with rfl | rfl | rfl <;> rfl
theorem pieces_83 (w : World) : Calls Try.prog 33 #[.int .u8 83] w (RetP 2 [7, 5, 0, 25, 7, 5] w) := by
  go_enter Try.func33, Try.ntmps33
  go_wp2
  go_ret
  refine ⟨w.heap.size, rfl, ?_, Nat.le_refl _, by rw [sz_alloc]; omega, (by repeat (first | (with_reducible first | exact Below.refl _ _ | assumption | exact Nat.le_refl _ | refine Below.drew ?_ | refine Below.alloc ?_ ?_ _ | refine Below.setCell ?_ ?_ _ | refine le_alloc ?_ | refine le_set ?_ | refine le_drew ?_ | refine below_step (by assumption) ?_ ?_ | refine le_below (by assumption) ?_) | (dsimp only; omega)))⟩
  intro o ho
  rw [World.cell?_alloc_at _ _ _ _ rfl]
  have : o = 0 ∨ o = 1 ∨ o = 2 ∨ o = 3 ∨ o = 4 ∨ o = 5 := by simp at ho; omega
  rcases this with rfl | rfl | rfl | rfl | rfl | rfl <;> rfl
theorem pieces_66 (w : World) : Calls Try.prog 33 #[.int .u8 66] w (RetP 4 [8, 4, 1, 25, 6, 5, 7, 1, 11, 31, 1, 12] w) := by
  go_enter Try.func33, Try.ntmps33
  go_wp2
  go_ret
  refine ⟨w.heap.size, rfl, ?_, Nat.le_refl _, by rw [sz_alloc]; omega, (by repeat (first | (with_reducible first | exact Below.refl _ _ | assumption | exact Nat.le_refl _ | refine Below.drew ?_ | refine Below.alloc ?_ ?_ _ | refine Below.setCell ?_ ?_ _ | refine le_alloc ?_ | refine le_set ?_ | refine le_drew ?_ | refine below_step (by assumption) ?_ ?_ | refine le_below (by assumption) ?_) | (dsimp only; omega)))⟩
  intro o ho
  rw [World.cell?_alloc_at _ _ _ _ rfl]
  have : o = 0 ∨ o = 1 ∨ o = 2 ∨ o = 3 ∨ o = 4 ∨ o = 5 ∨ o = 6 ∨ o = 7 ∨ o = 8 ∨ o = 9 ∨ o = 10 ∨ o = 11 := by simp at ho; omega
  rcases this with rfl | rfl | rfl | rfl | rfl | rfl | rfl | rfl | rfl | rfl | rfl | rfl <;> rfl
theorem pieces_85 (w : World) : Calls Try.prog 33 #[.int .u8 85] w (RetP 1 [12, 20, 12] w) := by
  go_enter Try.func33, Try.ntmps33
  go_wp2
  go_ret
  refine ⟨w.heap.size, rfl, ?_, Nat.le_refl _, by rw [sz_alloc]; omega, (by repeat (first | (with_reducible first | exact Below.refl _ _ | assumption | exact Nat.le_refl _ | refine Below.drew ?_ | refine Below.alloc ?_ ?_ _ | refine Below.setCell ?_ ?_ _ | refine le_alloc ?_ | refine le_set ?_ | refine le_drew ?_ | refine below_step (by assumption) ?_ ?_ | refine le_below (by assumption) ?_) | (dsimp only; omega)))⟩
  intro o ho
  rw [World.cell?_alloc_at _ _ _ _ rfl]
  have : o = 0 ∨ o = 1 ∨ o = 2 := by simp at ho; omega
  rcases this with rfl | rfl | rfl <;> rfl
theorem pieces_74 (w : World) : Calls Try.prog 33 #[.int .u8 74] w (RetP 4 [21, 10, 1, 20, 1, 11, 12, 8, 12, 31, 1, 20] w) := by
  go_enter Try.func33, Try.ntmps33
  go_wp2
  go_ret
  refine ⟨w.heap.size, rfl, ?_, Nat.le_refl _, by rw [sz_alloc]; omega, (by repeat (first | (with_reducible first | exact Below.refl _ _ | assumption | exact Nat.le_refl _ | refine Below.drew ?_ | refine Below.alloc ?_ ?_ _ | refine Below.setCell ?_ ?_ _ | refine le_alloc ?_ | refine le_set ?_ | refine le_drew ?_ | refine below_step (by assumption) ?_ ?_ | refine le_below (by assumption) ?_) | (dsimp only; omega)))⟩
  intro o ho
  rw [World.cell?_alloc_at _ _ _ _ rfl]
  have : o = 0 ∨ o = 1 ∨ o = 2 ∨ o = 3 ∨ o = 4 ∨ o = 5 ∨ o = 6 ∨ o = 7 ∨ o = 8 ∨ o = 9 ∨ o = 10 ∨ o = 11 := by simp at ho; omega
  rcases this with rfl | rfl | rfl | rfl | rfl | rfl | rfl | rfl | rfl | rfl | rfl | rfl <;> rfl
theorem pieces_0 (w : World) : Calls Try.prog 33 #[.int .u8 0] w (fun e w' => e = .returned (.slice none 0 0) ∧ Below w.heap.size w w') := by
  go_enter Try.func33, Try.ntmps33
  go_wp2
  go_ret
  exact ⟨rfl, (by repeat (first | (with_reducible first | exact Below.refl _ _ | assumption | exact Nat.le_refl _ | refine Below.drew ?_ | refine Below.alloc ?_ ?_ _ | refine Below.setCell ?_ ?_ _ | refine le_alloc ?_ | refine le_set ?_ | refine le_drew ?_ | refine below_step (by assumption) ?_ ?_ | refine le_below (by assumption) ?_) | (dsimp only; omega)))⟩
end Go.Proofs.Ytlohpakcikkdmaa
