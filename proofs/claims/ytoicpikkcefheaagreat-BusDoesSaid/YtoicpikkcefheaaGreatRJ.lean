/- The document's plic: New, Copy. -/
import Derived.Test.YtoicpikkcefheaaGreatRD
import Derived.RegionTactic
namespace Go.Proofs.YtoicpikkcefheaaGreat.P
open Go.ChangeShapes Go.WideShapes Go.ChangeAt Go.RowKit Go.Sort
open M (Fp Dj Cw Up Th)
set_option linter.unusedVariables false
set_option linter.unusedSimpArgs false
set_option maxRecDepth 20000
/-- One of its own. -/
def RetRPN (S : St) (W : World) (e0 : Ending) (w' : World) : Prop := ∃ b e p t ce cp ct, e0 = .returned (.pointer (some ⟨b, 0, none⟩)) ∧ (∃ u v s, IsRP w' b e p t ce cp ct u v s S) ∧ (∀ k o, own4 b e p t k o → W.heap.size ≤ k) ∧ Below W.heap.size W w'
theorem okS0r : OkS S0 := ⟨fun _ => (by decide : 0 < 8), fun _ => (by decide : 0 < 512), fun _ => (by decide : 0 < 8), fun _ => (by decide : 0 < 3)⟩
theorem raw_new {w' : World} {b e p t : Nat} (hb : b < w'.heap.size) (he : e < b) (hp : p < b) (ht : t < b) (h1 : e ≠ p) (h2 : e ≠ t) (h3 : p ≠ t)
    (B : ∀ j, w'.cell? ⟨b, j, none⟩ = #[.int .u64 0, .int .u64 0, .int .u64 0, .slice (some ⟨e, 0, none⟩) 2 2, .slice (some ⟨p, 0, none⟩) 9 9, .slice (some ⟨t, 0, none⟩) 2 2][j]?) (fb : ∀ j, w'.frozen? ⟨b, j, none⟩ = false)
    (E : ∀ j, w'.cell? ⟨e, j, none⟩ = #[.int .u64 0, .int .u64 0][j]?) (fe : ∀ j, w'.frozen? ⟨e, j, none⟩ = false)
    (Pp : ∀ j, w'.cell? ⟨p, j, none⟩ = #[.int .u64 0, .int .u64 0, .int .u64 0, .int .u64 0, .int .u64 0, .int .u64 0, .int .u64 0, .int .u64 0, .int .u64 0][j]?) (fp : ∀ j, w'.frozen? ⟨p, j, none⟩ = false)
    (T : ∀ j, w'.cell? ⟨t, j, none⟩ = #[.int .u64 0, .int .u64 0][j]?) (ft : ∀ j, w'.frozen? ⟨t, j, none⟩ = false) : IsRP w' b e p t 2 9 2 0 0 0 S0 := by
  refine ⟨⟨hb, by omega, by omega, by omega, by omega, by omega, by omega, h1, h2, h3, by rw [B]; rfl, by rw [B]; rfl, by rw [B]; rfl, by rw [B]; rfl, by rw [B]; rfl, by rw [B]; rfl, fb, fun i hi => ⟨?_, fe i⟩, fun i hi => ⟨?_, fp i⟩, fun i hi => ⟨?_, ft i⟩, by omega, by omega, by omega⟩, bits_zero, bits_zero, bits_zero, okS0r, ⟨fun k (hk : false = true) => (by exact absurd hk (by decide)), rfl, rfl, rfl⟩⟩
  · rw [E]; have : i = 0 ∨ i = 1 := by omega
    rcases this with rfl | rfl <;> rfl
  · rw [Pp]; have : i = 0 ∨ i = 1 ∨ i = 2 ∨ i = 3 ∨ i = 4 ∨ i = 5 ∨ i = 6 ∨ i = 7 ∨ i = 8 := by omega
    rcases this with rfl | rfl | rfl | rfl | rfl | rfl | rfl | rfl | rfl <;> rfl
  · rw [T]; have : i = 0 ∨ i = 1 := by omega
    rcases this with rfl | rfl <;> rfl
set_option maxRecDepth 100000 in
theorem newr_c (w : World) : Calls Tryz.prog 32 #[] w (RetRPN S0 w) := by
  have m2 : ∀ w, (Instr.makeSlice 95 (.int .i64 2) (.int .i64 2)).run Tryz.prog w = .ok (.slice (some ⟨w.heap.size, 0, none⟩) 2 2) (w.alloc (.cells #[.int .u64 0, .int .u64 0] 29)) := fun w => by kernel_rfl
  have m9 : ∀ w, (Instr.makeSlice 95 (.int .i64 9) (.int .i64 9)).run Tryz.prog w = .ok (.slice (some ⟨w.heap.size, 0, none⟩) 9 9) (w.alloc (.cells #[.int .u64 0, .int .u64 0, .int .u64 0, .int .u64 0, .int .u64 0, .int .u64 0, .int .u64 0, .int .u64 0, .int .u64 0] 29)) := fun w => by kernel_rfl
  go_enter Tryz.func32, Tryz.ntmps32
  go_wp2_with fail
  go_region
  · go_wp2_with fail
    go_ret
    refine ⟨w.heap.size + 1 + 1 + 1, w.heap.size, w.heap.size + 1, w.heap.size + 1 + 1, 2, 9, 2, rfl, ⟨0, 0, 0, raw_new ?_ ?_ ?_ ?_ ?_ ?_ ?_ ?_ ?_ ?_ ?_ ?_ ?_ ?_ ?_⟩, fun k o hk => ?_, ?_⟩
    all_goals (first
      | omega
      | (rcases hk with q | q | q | q <;> rw [q] <;> omega)
      | (simp only [sz_alloc, sz_drew]; done)
      | (simp only [sz_alloc, sz_drew]; omega)
      | (intro j; simp (disch := (first | rfl | omega | (simp only [sz_alloc, sz_drew, sz_set]; done) | (simp only [sz_alloc, sz_drew, sz_set]; omega))) only [sz_alloc, sz_drew, World.cell?_drew, World.frozen?_drew, World.cell?_alloc_at, World.cell?_alloc_past, World.frozen?_alloc_at, World.frozen?_alloc_past]; done)
      | exact (by repeat (first | (with_reducible first | exact Below.refl _ _ | assumption | exact Nat.le_refl _ | refine Below.drew ?_ | refine Below.alloc ?_ ?_ _ | refine Below.setCell ?_ ?_ _ | refine le_alloc ?_ | refine le_set ?_ | refine le_drew ?_ | refine below_step (by assumption) ?_ ?_ | refine le_below (by assumption) ?_) | (dsimp only; omega))))
  · go_wp2_with fail
    go_ret
    refine ⟨w.heap.size + 1 + 1 + 1, w.heap.size, w.heap.size + 1 + 1, w.heap.size + 1, 2, 9, 2, rfl, ⟨0, 0, 0, raw_new ?_ ?_ ?_ ?_ ?_ ?_ ?_ ?_ ?_ ?_ ?_ ?_ ?_ ?_ ?_⟩, fun k o hk => ?_, ?_⟩
    all_goals (first
      | omega
      | (rcases hk with q | q | q | q <;> rw [q] <;> omega)
      | (simp only [sz_alloc, sz_drew]; done)
      | (simp only [sz_alloc, sz_drew]; omega)
      | (intro j; simp (disch := (first | rfl | omega | (simp only [sz_alloc, sz_drew, sz_set]; done) | (simp only [sz_alloc, sz_drew, sz_set]; omega))) only [sz_alloc, sz_drew, World.cell?_drew, World.frozen?_drew, World.cell?_alloc_at, World.cell?_alloc_past, World.frozen?_alloc_at, World.frozen?_alloc_past]; done)
      | exact (by repeat (first | (with_reducible first | exact Below.refl _ _ | assumption | exact Nat.le_refl _ | refine Below.drew ?_ | refine Below.alloc ?_ ?_ _ | refine Below.setCell ?_ ?_ _ | refine le_alloc ?_ | refine le_set ?_ | refine le_drew ?_ | refine below_step (by assumption) ?_ ?_ | refine le_below (by assumption) ?_) | (dsimp only; omega))))
  · go_wp2_with fail
    go_ret
    refine ⟨w.heap.size + 1 + 1 + 1, w.heap.size + 1, w.heap.size, w.heap.size + 1 + 1, 2, 9, 2, rfl, ⟨0, 0, 0, raw_new ?_ ?_ ?_ ?_ ?_ ?_ ?_ ?_ ?_ ?_ ?_ ?_ ?_ ?_ ?_⟩, fun k o hk => ?_, ?_⟩
    all_goals (first
      | omega
      | (rcases hk with q | q | q | q <;> rw [q] <;> omega)
      | (simp only [sz_alloc, sz_drew]; done)
      | (simp only [sz_alloc, sz_drew]; omega)
      | (intro j; simp (disch := (first | rfl | omega | (simp only [sz_alloc, sz_drew, sz_set]; done) | (simp only [sz_alloc, sz_drew, sz_set]; omega))) only [sz_alloc, sz_drew, World.cell?_drew, World.frozen?_drew, World.cell?_alloc_at, World.cell?_alloc_past, World.frozen?_alloc_at, World.frozen?_alloc_past]; done)
      | exact (by repeat (first | (with_reducible first | exact Below.refl _ _ | assumption | exact Nat.le_refl _ | refine Below.drew ?_ | refine Below.alloc ?_ ?_ _ | refine Below.setCell ?_ ?_ _ | refine le_alloc ?_ | refine le_set ?_ | refine le_drew ?_ | refine below_step (by assumption) ?_ ?_ | refine le_below (by assumption) ?_) | (dsimp only; omega))))
  · go_wp2_with fail
    go_ret
    refine ⟨w.heap.size + 1 + 1 + 1, w.heap.size + 1 + 1, w.heap.size, w.heap.size + 1, 2, 9, 2, rfl, ⟨0, 0, 0, raw_new ?_ ?_ ?_ ?_ ?_ ?_ ?_ ?_ ?_ ?_ ?_ ?_ ?_ ?_ ?_⟩, fun k o hk => ?_, ?_⟩
    all_goals (first
      | omega
      | (rcases hk with q | q | q | q <;> rw [q] <;> omega)
      | (simp only [sz_alloc, sz_drew]; done)
      | (simp only [sz_alloc, sz_drew]; omega)
      | (intro j; simp (disch := (first | rfl | omega | (simp only [sz_alloc, sz_drew, sz_set]; done) | (simp only [sz_alloc, sz_drew, sz_set]; omega))) only [sz_alloc, sz_drew, World.cell?_drew, World.frozen?_drew, World.cell?_alloc_at, World.cell?_alloc_past, World.frozen?_alloc_at, World.frozen?_alloc_past]; done)
      | exact (by repeat (first | (with_reducible first | exact Below.refl _ _ | assumption | exact Nat.le_refl _ | refine Below.drew ?_ | refine Below.alloc ?_ ?_ _ | refine Below.setCell ?_ ?_ _ | refine le_alloc ?_ | refine le_set ?_ | refine le_drew ?_ | refine below_step (by assumption) ?_ ?_ | refine le_below (by assumption) ?_) | (dsimp only; omega))))
  · go_wp2_with fail
    go_ret
    refine ⟨w.heap.size + 1 + 1 + 1, w.heap.size + 1, w.heap.size + 1 + 1, w.heap.size, 2, 9, 2, rfl, ⟨0, 0, 0, raw_new ?_ ?_ ?_ ?_ ?_ ?_ ?_ ?_ ?_ ?_ ?_ ?_ ?_ ?_ ?_⟩, fun k o hk => ?_, ?_⟩
    all_goals (first
      | omega
      | (rcases hk with q | q | q | q <;> rw [q] <;> omega)
      | (simp only [sz_alloc, sz_drew]; done)
      | (simp only [sz_alloc, sz_drew]; omega)
      | (intro j; simp (disch := (first | rfl | omega | (simp only [sz_alloc, sz_drew, sz_set]; done) | (simp only [sz_alloc, sz_drew, sz_set]; omega))) only [sz_alloc, sz_drew, World.cell?_drew, World.frozen?_drew, World.cell?_alloc_at, World.cell?_alloc_past, World.frozen?_alloc_at, World.frozen?_alloc_past]; done)
      | exact (by repeat (first | (with_reducible first | exact Below.refl _ _ | assumption | exact Nat.le_refl _ | refine Below.drew ?_ | refine Below.alloc ?_ ?_ _ | refine Below.setCell ?_ ?_ _ | refine le_alloc ?_ | refine le_set ?_ | refine le_drew ?_ | refine below_step (by assumption) ?_ ?_ | refine le_below (by assumption) ?_) | (dsimp only; omega))))
  · go_wp2_with fail
    go_ret
    refine ⟨w.heap.size + 1 + 1 + 1, w.heap.size + 1 + 1, w.heap.size + 1, w.heap.size, 2, 9, 2, rfl, ⟨0, 0, 0, raw_new ?_ ?_ ?_ ?_ ?_ ?_ ?_ ?_ ?_ ?_ ?_ ?_ ?_ ?_ ?_⟩, fun k o hk => ?_, ?_⟩
    all_goals (first
      | omega
      | (rcases hk with q | q | q | q <;> rw [q] <;> omega)
      | (simp only [sz_alloc, sz_drew]; done)
      | (simp only [sz_alloc, sz_drew]; omega)
      | (intro j; simp (disch := (first | rfl | omega | (simp only [sz_alloc, sz_drew, sz_set]; done) | (simp only [sz_alloc, sz_drew, sz_set]; omega))) only [sz_alloc, sz_drew, World.cell?_drew, World.frozen?_drew, World.cell?_alloc_at, World.cell?_alloc_past, World.frozen?_alloc_at, World.frozen?_alloc_past]; done)
      | exact (by repeat (first | (with_reducible first | exact Below.refl _ _ | assumption | exact Nat.le_refl _ | refine Below.drew ?_ | refine Below.alloc ?_ ?_ _ | refine Below.setCell ?_ ?_ _ | refine le_alloc ?_ | refine le_set ?_ | refine le_drew ?_ | refine below_step (by assumption) ?_ ?_ | refine le_below (by assumption) ?_) | (dsimp only; omega))))
end Go.Proofs.YtoicpikkcefheaaGreat.P
