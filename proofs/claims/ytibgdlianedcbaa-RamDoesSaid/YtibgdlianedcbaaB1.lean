/- Has, find; what a memory is in the heap; New. -/
import Derived.Test.YtibgdlianedcbaaA
import Derived.WideMake
namespace Go.Proofs.Ytibgdlianedcbaa
open Go.Maps Go.WideMaps Go.ChangeShapes Go.WideShapes Go.ChangeAt Go.RowKit
set_option linter.unusedVariables false
set_option linter.unusedSimpArgs false
theorem hasV_yes (a : Nat) (sz : Int) (h : sz = 1 ∨ sz = 2 ∨ sz = 4 ∨ sz = 8) : hasV a sz = decide (2147483648 ≤ a ∧ (a : Int) - 2147483648 + sz ≤ 1048576) := by
  unfold hasV; simp [h]
theorem hasV_no (a : Nat) (sz : Int) (h : ¬ (sz = 1 ∨ sz = 2 ∨ sz = 4 ∨ sz = 8)) : hasV a sz = false := by
  unfold hasV; simp [h]
set_option maxRecDepth 100000 in
theorem has_1 (m : Value) (a : Nat) (ha : Hid (a < 18446744073709551616)) (w : World) : Calls Try.prog 16 #[m, .int .u64 a, .int .i64 1] w (RetB (hasV a 1) w) := by
  have HV : Hid (hasV a 1 = decide (2147483648 ≤ a ∧ (a : Int) - 2147483648 + 1 ≤ 1048576)) := hasV_yes a 1 (by decide)
  go_enter Try.func16, Try.ntmps16
  go_wp2_with fail
  · rename_i h
    have hlt := ha.out
    go_ret
    exact retB_mk (by rw [HV.out, IntKind.wrap_u64]; exact decide_eq_decide.2 (by omega)) (by repeat (first | (with_reducible first | exact Below.refl _ _ | assumption | exact Nat.le_refl _ | refine Below.drew ?_ | refine Below.alloc ?_ ?_ _ | refine below_drewN ?_ _ | refine Below.setCell ?_ ?_ _ | refine le_alloc ?_ | refine le_set ?_ | refine le_drew ?_ | refine le_drewN ?_ | refine below_step (by assumption) ?_ ?_ | refine le_below (by assumption) ?_) | (dsimp only; omega)))
  · rename_i h
    go_ret
    exact retB_mk (by rw [HV.out]; exact (decide_eq_false (by omega)).symm) (by repeat (first | (with_reducible first | exact Below.refl _ _ | assumption | exact Nat.le_refl _ | refine Below.drew ?_ | refine Below.alloc ?_ ?_ _ | refine below_drewN ?_ _ | refine Below.setCell ?_ ?_ _ | refine le_alloc ?_ | refine le_set ?_ | refine le_drew ?_ | refine le_drewN ?_ | refine below_step (by assumption) ?_ ?_ | refine le_below (by assumption) ?_) | (dsimp only; omega)))
set_option maxRecDepth 100000 in
theorem has_2 (m : Value) (a : Nat) (ha : Hid (a < 18446744073709551616)) (w : World) : Calls Try.prog 16 #[m, .int .u64 a, .int .i64 2] w (RetB (hasV a 2) w) := by
  have HV : Hid (hasV a 2 = decide (2147483648 ≤ a ∧ (a : Int) - 2147483648 + 2 ≤ 1048576)) := hasV_yes a 2 (by decide)
  go_enter Try.func16, Try.ntmps16
  go_wp2_with fail
  · rename_i h
    have hlt := ha.out
    go_ret
    exact retB_mk (by rw [HV.out, IntKind.wrap_u64]; exact decide_eq_decide.2 (by omega)) (by repeat (first | (with_reducible first | exact Below.refl _ _ | assumption | exact Nat.le_refl _ | refine Below.drew ?_ | refine Below.alloc ?_ ?_ _ | refine below_drewN ?_ _ | refine Below.setCell ?_ ?_ _ | refine le_alloc ?_ | refine le_set ?_ | refine le_drew ?_ | refine le_drewN ?_ | refine below_step (by assumption) ?_ ?_ | refine le_below (by assumption) ?_) | (dsimp only; omega)))
  · rename_i h
    go_ret
    exact retB_mk (by rw [HV.out]; exact (decide_eq_false (by omega)).symm) (by repeat (first | (with_reducible first | exact Below.refl _ _ | assumption | exact Nat.le_refl _ | refine Below.drew ?_ | refine Below.alloc ?_ ?_ _ | refine below_drewN ?_ _ | refine Below.setCell ?_ ?_ _ | refine le_alloc ?_ | refine le_set ?_ | refine le_drew ?_ | refine le_drewN ?_ | refine below_step (by assumption) ?_ ?_ | refine le_below (by assumption) ?_) | (dsimp only; omega)))
set_option maxRecDepth 100000 in
theorem has_4 (m : Value) (a : Nat) (ha : Hid (a < 18446744073709551616)) (w : World) : Calls Try.prog 16 #[m, .int .u64 a, .int .i64 4] w (RetB (hasV a 4) w) := by
  have HV : Hid (hasV a 4 = decide (2147483648 ≤ a ∧ (a : Int) - 2147483648 + 4 ≤ 1048576)) := hasV_yes a 4 (by decide)
  go_enter Try.func16, Try.ntmps16
  go_wp2_with fail
  · rename_i h
    have hlt := ha.out
    go_ret
    exact retB_mk (by rw [HV.out, IntKind.wrap_u64]; exact decide_eq_decide.2 (by omega)) (by repeat (first | (with_reducible first | exact Below.refl _ _ | assumption | exact Nat.le_refl _ | refine Below.drew ?_ | refine Below.alloc ?_ ?_ _ | refine below_drewN ?_ _ | refine Below.setCell ?_ ?_ _ | refine le_alloc ?_ | refine le_set ?_ | refine le_drew ?_ | refine le_drewN ?_ | refine below_step (by assumption) ?_ ?_ | refine le_below (by assumption) ?_) | (dsimp only; omega)))
  · rename_i h
    go_ret
    exact retB_mk (by rw [HV.out]; exact (decide_eq_false (by omega)).symm) (by repeat (first | (with_reducible first | exact Below.refl _ _ | assumption | exact Nat.le_refl _ | refine Below.drew ?_ | refine Below.alloc ?_ ?_ _ | refine below_drewN ?_ _ | refine Below.setCell ?_ ?_ _ | refine le_alloc ?_ | refine le_set ?_ | refine le_drew ?_ | refine le_drewN ?_ | refine below_step (by assumption) ?_ ?_ | refine le_below (by assumption) ?_) | (dsimp only; omega)))
set_option maxRecDepth 100000 in
theorem has_8 (m : Value) (a : Nat) (ha : Hid (a < 18446744073709551616)) (w : World) : Calls Try.prog 16 #[m, .int .u64 a, .int .i64 8] w (RetB (hasV a 8) w) := by
  have HV : Hid (hasV a 8 = decide (2147483648 ≤ a ∧ (a : Int) - 2147483648 + 8 ≤ 1048576)) := hasV_yes a 8 (by decide)
  go_enter Try.func16, Try.ntmps16
  go_wp2_with fail
  · rename_i h
    have hlt := ha.out
    go_ret
    exact retB_mk (by rw [HV.out, IntKind.wrap_u64]; exact decide_eq_decide.2 (by omega)) (by repeat (first | (with_reducible first | exact Below.refl _ _ | assumption | exact Nat.le_refl _ | refine Below.drew ?_ | refine Below.alloc ?_ ?_ _ | refine below_drewN ?_ _ | refine Below.setCell ?_ ?_ _ | refine le_alloc ?_ | refine le_set ?_ | refine le_drew ?_ | refine le_drewN ?_ | refine below_step (by assumption) ?_ ?_ | refine le_below (by assumption) ?_) | (dsimp only; omega)))
  · rename_i h
    go_ret
    exact retB_mk (by rw [HV.out]; exact (decide_eq_false (by omega)).symm) (by repeat (first | (with_reducible first | exact Below.refl _ _ | assumption | exact Nat.le_refl _ | refine Below.drew ?_ | refine Below.alloc ?_ ?_ _ | refine below_drewN ?_ _ | refine Below.setCell ?_ ?_ _ | refine le_alloc ?_ | refine le_set ?_ | refine le_drew ?_ | refine le_drewN ?_ | refine below_step (by assumption) ?_ ?_ | refine le_below (by assumption) ?_) | (dsimp only; omega)))
set_option maxRecDepth 100000 in
theorem has_no (m : Value) (a : Nat) (sz : Int) (h1 : (sz == 1) = false) (h2 : (sz == 2) = false) (h4 : (sz == 4) = false) (h8 : (sz == 8) = false) (w : World) : Calls Try.prog 16 #[m, .int .u64 a, .int .i64 sz] w (RetB (hasV a sz) w) := by
  have HV : Hid (hasV a sz = false) := hasV_no a sz (by simp at h1 h2 h4 h8; omega)
  have k1 : decide (sz = 1) = false := by simpa using h1
  have k2 : decide (sz = 2) = false := by simpa using h2
  have k4 : decide (sz = 4) = false := by simpa using h4
  have k8 : decide (sz = 8) = false := by simpa using h8
  go_enter Try.func16, Try.ntmps16
  go_wp2_with fail
  go_ret
  exact retB_mk (by rw [HV.out]) (by repeat (first | (with_reducible first | exact Below.refl _ _ | assumption | exact Nat.le_refl _ | refine Below.drew ?_ | refine Below.alloc ?_ ?_ _ | refine below_drewN ?_ _ | refine Below.setCell ?_ ?_ _ | refine le_alloc ?_ | refine le_set ?_ | refine le_drew ?_ | refine le_drewN ?_ | refine below_step (by assumption) ?_ ?_ | refine le_below (by assumption) ?_) | (dsimp only; omega)))
theorem has_c (m : Value) (a : Nat) (ha : Hid (a < 18446744073709551616)) (sz : Int) (w : World) : Calls Try.prog 16 #[m, .int .u64 a, .int .i64 sz] w (RetB (hasV a sz) w) := by
  by_cases h : sz = 1 ∨ sz = 2 ∨ sz = 4 ∨ sz = 8
  · rcases h with rfl | rfl | rfl | rfl
    · exact has_1 m a ha w
    · exact has_2 m a ha w
    · exact has_4 m a ha w
    · exact has_8 m a ha w
  · exact has_no m a sz (by simp; omega) (by simp; omega) (by simp; omega) (by simp; omega) w
def RetF (a : Nat) (W : World) (e : Ending) (w' : World) : Prop := e = .returned (.tuple #[.agg #[.int .u64 ((a / 4096 * 4096 : Nat) : Int)], .int .i64 ((a % 4096 : Nat) : Int)]) ∧ Below W.heap.size W w'
theorem find_c (a : Nat) (ha : Hid (a < 18446744073709551616)) (w : World) : Calls Try.prog 32 #[.int .u64 a] w (RetF a w) := by
  go_enter Try.func32, Try.ntmps32
  go_wp2_with fail
  have hlt := ha.out
  have e1 : IntKind.u64.wrap ((a : Int) - (a : Int) % 4096) = ((a / 4096 * 4096 : Nat) : Int) := by rw [IntKind.wrap_u64]; omega
  have e2 : (a : Int) % 4096 = ((a % 4096 : Nat) : Int) := by omega
  rw [e1]
  clear hlt e1
  refine bodyPost_ret (v := .tuple #[.agg #[.int .u64 ((a / 4096 * 4096 : Nat) : Int)], .int .i64 ((a : Int) % 4096)]) (by simp [results, Try.results32, go_sem] <;> (first | rfl | (repeat' (first | rfl | apply And.intro)))) rfl ⟨?_, (by repeat (first | (with_reducible first | exact Below.refl _ _ | assumption | exact Nat.le_refl _ | refine Below.drew ?_ | refine Below.alloc ?_ ?_ _ | refine below_drewN ?_ _ | refine Below.setCell ?_ ?_ _ | refine le_alloc ?_ | refine le_set ?_ | refine le_drew ?_ | refine le_drewN ?_ | refine below_step (by assumption) ?_ ?_ | refine le_below (by assumption) ?_) | (dsimp only; omega)))⟩
  rw [e2]
/-- A page: a block of 4096 bytes. -/
def PageIs (w : World) (p : Nat) (f : Nat → Nat) : Prop := p < w.heap.size ∧ ∀ i, i < 4096 → w.cell? ⟨p, i, none⟩ = some (.int .u8 (f i)) ∧ w.frozen? ⟨p, i, none⟩ = false
theorem PageIs.kept {w w' : World} {p : Nat} {f : Nat → Nat} {r : Option Nat} (h : PageIs w p f) (hg : w.grownBy w' r) (hne : some p ≠ r) : PageIs w' p f := by
  obtain ⟨h0, h1⟩ := h
  have hb := hg.block p h0 hne
  refine ⟨Nat.lt_of_lt_of_le h0 hg.size, fun i hi => ⟨?_, ?_⟩⟩
  · rw [World.cell?_of_block (w := w) (a := ⟨p, i, none⟩) hb]; exact (h1 i hi).1
  · rw [World.frozen?_of_block (w := w) (a := ⟨p, i, none⟩) hb]; exact (h1 i hi).2
/-- The pages that a map D names hold the bytes F; what it doesn't name is of zeros; each page is a block of its own. -/
def Laid (w : World) (D : DataW Unit) (F : Nat → Nat) : Prop :=
  (∀ s, s < 18446744073709551616 → Maps.has D (keyL s) = true → ∃ p, D.atKey (keyL s) noneD = pageD p ∧ PageIs w p (fun i => F (s + i))) ∧
  (∀ s, s < 18446744073709551616 → s % 4096 = 0 → Maps.has D (keyL s) = false → ∀ i, i < 4096 → F (s + i) = 0) ∧
  (∀ s t p, s < 18446744073709551616 → t < 18446744073709551616 → Maps.has D (keyL s) = true → Maps.has D (keyL t) = true → D.atKey (keyL s) noneD = pageD p → D.atKey (keyL t) noneD = pageD p → s = t)
/-- A memory at block m. -/
def Mem (w : World) (m : Nat) (F : Nat → Nat) : Prop := m < w.heap.size ∧ ∃ b n D, w.cell? ⟨m, 0, none⟩ = some (.map (some b)) ∧ w.ownsMap Try.prog 58 pageR b n D ∧ Laid w D F
theorem laid_nil (w : World) : Laid w (.map []) (fun _ => 0) := by
  have hn : ∀ s, Maps.has (.map [] : DataW Unit) (keyL s) = false := fun s => rfl
  refine ⟨fun s _ h => ?_, fun _ _ _ _ _ _ => rfl, fun s t p _ _ h _ _ _ => ?_⟩
  · rw [hn] at h; cases h
  · rw [hn] at h; cases h
def RetM (F : Nat → Nat) (W : World) (e : Ending) (w' : World) : Prop := ∃ m, e = .returned (.pointer (some ⟨m, 0, none⟩)) ∧ W.heap.size ≤ m ∧ Mem w' m F ∧ Below W.heap.size W w'
theorem new_c (w : World) : Calls Try.prog 8 #[] w (RetM (fun _ => 0) w) := by
  have hmm := @run_makeMap_plain Try.prog
  go_enter Try.func8, Try.ntmps8
  go_wp2_with fail
  go_ret
  refine ⟨w.heap.size + 1, rfl, Nat.le_succ _, ⟨?_, w.heap.size, 0, .map [], ?_, ?_, laid_nil _⟩, Below.alloc (Below.alloc (Below.refl _ _) (Nat.le_refl _) _) (by simp) _⟩
  · simp
  · rw [World.cell?_alloc_at _ _ _ _ (by simp)]; rfl
  · exact (World.ownsMap_made _ _ _ _).kept (World.grownBy_alloc _ _ none) (by simp)
end Go.Proofs.Ytibgdlianedcbaa
