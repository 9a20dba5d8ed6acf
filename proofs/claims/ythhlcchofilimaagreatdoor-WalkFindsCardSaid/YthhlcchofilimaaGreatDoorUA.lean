/- Taken from other texts: what is needed of them. -/
import Derived.Test.YthhlcchofilimaaGreatDoorProg
import Derived.WalkKit
import Derived.ProofKit
import Derived.Maps.OwnSet
import Derived.DeepKeys4
import Derived.RegionTactic
import Derived.Deep.QuietTactic
import Derived.BigQuiet
import Derived.OpenShut
import Derived.WalkLawsBesides
import Derived.WalkSpells
import Derived.ChangeAlike
import Derived.Outline
import Derived.Laws.Externs
import Derived.Lib.Hide
import Derived.WideMake
import Derived.Laws.IdiomCopy
import Derived.Laws.Bits64
namespace Go.Proofs.YthhlcchofilimaaGreatDoor.U.M
set_option linter.unusedVariables false
set_option linter.unusedSimpArgs false
set_option maxRecDepth 20000
set_option maxRecDepth 20000
/-- Is there a number of that size at that place? -/
def hasV (at_ : Nat) (sz : Int) : Bool := decide ((sz = 1 ∨ sz = 2 ∨ sz = 4 ∨ sz = 8) ∧ 2147483648 ≤ at_ ∧ (at_ : Int) - 2147483648 + sz ≤ 1048576)
end Go.Proofs.YthhlcchofilimaaGreatDoor.U.M
namespace Go.Proofs.YthhlcchofilimaaGreatDoor.U.M
set_option linter.unusedVariables false
set_option linter.unusedSimpArgs false
set_option maxRecDepth 20000
set_option maxRecDepth 20000
open Go.Maps Go.WideMaps Go.RowKit
theorem laidOut : laidOutB Tryz.prog = true := by kernel_rfl
theorem rowSpot : (124 : TypeId) < Tryz.prog.types.size := of_decide_eq_true (by kernel_rfl)
theorem wideSpot : (match Tryz.prog.underlying 124 with | some (.array _ _) | some (.struct _) => true | _ => false) = true := by kernel_rfl
theorem lawSpot : Keyed Tryz.prog 124 := Keyed.of_law (deep_law_laid laidOut (m := 2) (by omega) rowSpot (by kernel_rfl) wideSpot)
theorem zeroPage (w : World) : (zeroValue 127).run Tryz.prog w = .ok (.pointer none) w := by kernel_rfl
/-- How a page's place reads: the number of its block, one up; none: 0. -/
def pageR (v : Value) : Option (DataW Unit × List MemPlace) :=
  match v with
  | .pointer none => some (.lit (.int .i64 0), [])
  | .pointer (some ⟨p, 0, none⟩) => some (.lit (.int .i64 ((p : Int) + 1)), [])
  | _ => none
def pageD (p : Nat) : DataW Unit := .lit (.int .i64 ((p : Int) + 1))
def noneD : DataW Unit := .lit (.int .i64 0)
def pageV (p : Nat) : Value := .pointer (some ⟨p, 0, none⟩)
theorem pageR_mk (p : Nat) : pageR (pageV p) = some (pageD p, []) := rfl
theorem pageR_none : pageR (.pointer none) = some (noneD, []) := rfl
theorem pageR_inv {v : Value} {p : Nat} {ps : List MemPlace} (h : pageR v = some (pageD p, ps)) : v = pageV p := by
  unfold pageR pageD at h
  split at h
  · simp at h; omega
  · rename_i q
    simp at h
    obtain ⟨h, -⟩ := h
    obtain rfl : q = p := by omega
    rfl
  · cases h
theorem pageR_inv_none {v : Value} {ps : List MemPlace} (h : pageR v = some (noneD, ps)) : v = .pointer none := by
  unfold pageR noneD at h
  split at h
  · rfl
  · simp at h; omega
  · cases h
def keyV (s : Nat) : Value := .agg #[.int .u64 s]
def keyL (s : Nat) : Lit := .string (keyBytes [.int .u64 s])
theorem keySpot (s : Nat) (h1 : (Lit.int .u64 s).wf = true) : keyOf Tryz.prog 124 (keyV s) = some (keyL s) := by
  have k1 : Tryz.prog.keyType 124 = true := by kernel_rfl
  have k2 : Tryz.prog.cellsOf 124 = 1 := by kernel_rfl
  have k3 : Tryz.prog.cellsOf 23 = 1 := by kernel_rfl
  obtain ⟨d, k5⟩ : ∃ d, Tryz.prog.types.size + 1 = d + 2 := ⟨Tryz.prog.types.size - 1, by have : 0 < Tryz.prog.types.size := of_decide_eq_true (by kernel_rfl); omega⟩
  have k6 : Tryz.prog.keyLits (d + 2) 124 [.int .u64 s] = some [.int .u64 s] := by
    simp [Program.keyLits, Tryz.underlying124, k2, k3, Tryz.underlying23, h1, List.mapM_cons, List.mapM_nil]
  have k7 : Value.formed Tryz.prog 124 (keyV s) = true := by simp [Value.formed, keyV, Tryz.underlying124, k2]
  unfold keyOf keyL
  rw [Tryz.underlying124]
  simp only [k1, k7, k5]
  show (Program.keyLits Tryz.prog (d + 2) 124 [.int .u64 s]).map (fun ls => Lit.string (keyBytes ls)) = _
  rw [k6]
  rfl
theorem keyL_ne {x y : Nat} (h1 : (Lit.int .u64 x).wf = true) (h3 : (Lit.int .u64 y).wf = true) (h : x ≠ y) : keyL x ≠ keyL y := by
  intro e
  have k1 := keySpot x h1
  have k2 := keySpot y h3
  rw [← e] at k2
  have := lawSpot.inj k1 k2
  unfold keyV at this
  simp at this
  exact h (by omega)
theorem wfU {x : Nat} (h : x < 18446744073709551616) : (Lit.int .u64 x).wf = true := by simp [Lit.wf, IntKind.min, IntKind.max, IntKind.signed, IntKind.bits]; omega
end Go.Proofs.YthhlcchofilimaaGreatDoor.U.M
namespace Go.Proofs.YthhlcchofilimaaGreatDoor.U.M
set_option linter.unusedVariables false
set_option linter.unusedSimpArgs false
set_option maxRecDepth 20000
set_option maxRecDepth 20000
open Go.ChangeShapes Go.WideShapes Go.ChangeAt Go.RowKit
theorem le_below {n B : Nat} {w w' : World} (hb : Below B w w') (h : n ≤ w.heap.size) : n ≤ w'.heap.size := Nat.le_trans h hb.size
theorem below_step {B B' : Nat} {w w1 w2 : World} (hb : Below B' w1 w2) (h : Below B w w1) (hB : B ≤ B') : Below B w w2 := h.trans (hb.mono hB)
theorem below_drewN {B : Nat} {w w' : World} (h : Below B w w') (n : Nat) : Below B w (w'.drewN n) := ⟨h.os, h.tape, h.output, h.size, h.block⟩
theorem le_drew {n : Nat} {w : World} (h : n ≤ w.heap.size) : n ≤ w.drew.heap.size := h
theorem le_drewN {n k : Nat} {w : World} (h : n ≤ w.heap.size) : n ≤ (w.drewN k).heap.size := h
theorem sz_drewN (w : World) (k : Nat) : (w.drewN k).heap.size = w.heap.size := rfl
theorem sz_drew (w : World) : w.drew.heap.size = w.heap.size := rfl
def RetB (b : Bool) (W : World) (e : Ending) (w' : World) : Prop := e = .returned (.bool b) ∧ Below W.heap.size W w'
theorem retB_mk {a b : Bool} {W w' : World} (h : a = b) (hb : Below W.heap.size W w') : RetB b W (.returned (.bool a)) w' := ⟨by rw [h], hb⟩
/-- Nothing that was there is written. -/
theorem grown_below {w w' : World} (h : Below w.heap.size w w') : w.grownBy w' none := ⟨h.os, h.tape, h.output, h.size, fun k hk _ => h.block k hk⟩
theorem sz_alloc (w : World) (o : Obj) : (w.alloc o).heap.size = w.heap.size + 1 := by simp
theorem sz_set (w : World) (p : Addr) (u : Value) : (w.setCell p u).heap.size = w.heap.size := by simp [World.setCell]
end Go.Proofs.YthhlcchofilimaaGreatDoor.U.M
namespace Go.Proofs.YthhlcchofilimaaGreatDoor.U.M
set_option linter.unusedVariables false
set_option linter.unusedSimpArgs false
set_option maxRecDepth 20000
set_option maxRecDepth 20000
open Go.Maps Go.WideMaps Go.ChangeShapes Go.WideShapes Go.ChangeAt Go.RowKit
theorem hasV_yes (a : Nat) (sz : Int) (h : sz = 1 ∨ sz = 2 ∨ sz = 4 ∨ sz = 8) : hasV a sz = decide (2147483648 ≤ a ∧ (a : Int) - 2147483648 + sz ≤ 1048576) := by
  unfold hasV; simp [h]
theorem hasV_no (a : Nat) (sz : Int) (h : ¬ (sz = 1 ∨ sz = 2 ∨ sz = 4 ∨ sz = 8)) : hasV a sz = false := by
  unfold hasV; simp [h]
set_option maxRecDepth 100000 in
theorem has_1 (m : Value) (a : Nat) (ha : Hid (a < 18446744073709551616)) (w : World) : Calls Tryz.prog 72 #[m, .int .u64 a, .int .i64 1] w (RetB (hasV a 1) w) := by
  have HV : Hid (hasV a 1 = decide (2147483648 ≤ a ∧ (a : Int) - 2147483648 + 1 ≤ 1048576)) := hasV_yes a 1 (by decide)
  go_enter Tryz.func72, Tryz.ntmps72
  go_wp2_with fail
  · rename_i h
    have hlt := ha.out
    go_ret
    exact retB_mk (by rw [HV.out, IntKind.wrap_u64]; exact decide_eq_decide.2 (by omega)) (by repeat (first | (with_reducible first | exact Below.refl _ _ | assumption | exact Nat.le_refl _ | refine Below.drew ?_ | refine Below.alloc ?_ ?_ _ | refine below_drewN ?_ _ | refine Below.setCell ?_ ?_ _ | refine le_alloc ?_ | refine le_set ?_ | refine le_drew ?_ | refine le_drewN ?_ | refine below_step (by assumption) ?_ ?_ | refine le_below (by assumption) ?_) | (dsimp only; omega)))
  · rename_i h
    go_ret
    exact retB_mk (by rw [HV.out]; exact (decide_eq_false (by omega)).symm) (by repeat (first | (with_reducible first | exact Below.refl _ _ | assumption | exact Nat.le_refl _ | refine Below.drew ?_ | refine Below.alloc ?_ ?_ _ | refine below_drewN ?_ _ | refine Below.setCell ?_ ?_ _ | refine le_alloc ?_ | refine le_set ?_ | refine le_drew ?_ | refine le_drewN ?_ | refine below_step (by assumption) ?_ ?_ | refine le_below (by assumption) ?_) | (dsimp only; omega)))
set_option maxRecDepth 100000 in
theorem has_2 (m : Value) (a : Nat) (ha : Hid (a < 18446744073709551616)) (w : World) : Calls Tryz.prog 72 #[m, .int .u64 a, .int .i64 2] w (RetB (hasV a 2) w) := by
  have HV : Hid (hasV a 2 = decide (2147483648 ≤ a ∧ (a : Int) - 2147483648 + 2 ≤ 1048576)) := hasV_yes a 2 (by decide)
  go_enter Tryz.func72, Tryz.ntmps72
  go_wp2_with fail
  · rename_i h
    have hlt := ha.out
    go_ret
    exact retB_mk (by rw [HV.out, IntKind.wrap_u64]; exact decide_eq_decide.2 (by omega)) (by repeat (first | (with_reducible first | exact Below.refl _ _ | assumption | exact Nat.le_refl _ | refine Below.drew ?_ | refine Below.alloc ?_ ?_ _ | refine below_drewN ?_ _ | refine Below.setCell ?_ ?_ _ | refine le_alloc ?_ | refine le_set ?_ | refine le_drew ?_ | refine le_drewN ?_ | refine below_step (by assumption) ?_ ?_ | refine le_below (by assumption) ?_) | (dsimp only; omega)))
  · rename_i h
    go_ret
    exact retB_mk (by rw [HV.out]; exact (decide_eq_false (by omega)).symm) (by repeat (first | (with_reducible first | exact Below.refl _ _ | assumption | exact Nat.le_refl _ | refine Below.drew ?_ | refine Below.alloc ?_ ?_ _ | refine below_drewN ?_ _ | refine Below.setCell ?_ ?_ _ | refine le_alloc ?_ | refine le_set ?_ | refine le_drew ?_ | refine le_drewN ?_ | refine below_step (by assumption) ?_ ?_ | refine le_below (by assumption) ?_) | (dsimp only; omega)))
set_option maxRecDepth 100000 in
theorem has_4 (m : Value) (a : Nat) (ha : Hid (a < 18446744073709551616)) (w : World) : Calls Tryz.prog 72 #[m, .int .u64 a, .int .i64 4] w (RetB (hasV a 4) w) := by
  have HV : Hid (hasV a 4 = decide (2147483648 ≤ a ∧ (a : Int) - 2147483648 + 4 ≤ 1048576)) := hasV_yes a 4 (by decide)
  go_enter Tryz.func72, Tryz.ntmps72
  go_wp2_with fail
  · rename_i h
    have hlt := ha.out
    go_ret
    exact retB_mk (by rw [HV.out, IntKind.wrap_u64]; exact decide_eq_decide.2 (by omega)) (by repeat (first | (with_reducible first | exact Below.refl _ _ | assumption | exact Nat.le_refl _ | refine Below.drew ?_ | refine Below.alloc ?_ ?_ _ | refine below_drewN ?_ _ | refine Below.setCell ?_ ?_ _ | refine le_alloc ?_ | refine le_set ?_ | refine le_drew ?_ | refine le_drewN ?_ | refine below_step (by assumption) ?_ ?_ | refine le_below (by assumption) ?_) | (dsimp only; omega)))
  · rename_i h
    go_ret
    exact retB_mk (by rw [HV.out]; exact (decide_eq_false (by omega)).symm) (by repeat (first | (with_reducible first | exact Below.refl _ _ | assumption | exact Nat.le_refl _ | refine Below.drew ?_ | refine Below.alloc ?_ ?_ _ | refine below_drewN ?_ _ | refine Below.setCell ?_ ?_ _ | refine le_alloc ?_ | refine le_set ?_ | refine le_drew ?_ | refine le_drewN ?_ | refine below_step (by assumption) ?_ ?_ | refine le_below (by assumption) ?_) | (dsimp only; omega)))
set_option maxRecDepth 100000 in
theorem has_8 (m : Value) (a : Nat) (ha : Hid (a < 18446744073709551616)) (w : World) : Calls Tryz.prog 72 #[m, .int .u64 a, .int .i64 8] w (RetB (hasV a 8) w) := by
  have HV : Hid (hasV a 8 = decide (2147483648 ≤ a ∧ (a : Int) - 2147483648 + 8 ≤ 1048576)) := hasV_yes a 8 (by decide)
  go_enter Tryz.func72, Tryz.ntmps72
  go_wp2_with fail
  · rename_i h
    have hlt := ha.out
    go_ret
    exact retB_mk (by rw [HV.out, IntKind.wrap_u64]; exact decide_eq_decide.2 (by omega)) (by repeat (first | (with_reducible first | exact Below.refl _ _ | assumption | exact Nat.le_refl _ | refine Below.drew ?_ | refine Below.alloc ?_ ?_ _ | refine below_drewN ?_ _ | refine Below.setCell ?_ ?_ _ | refine le_alloc ?_ | refine le_set ?_ | refine le_drew ?_ | refine le_drewN ?_ | refine below_step (by assumption) ?_ ?_ | refine le_below (by assumption) ?_) | (dsimp only; omega)))
  · rename_i h
    go_ret
    exact retB_mk (by rw [HV.out]; exact (decide_eq_false (by omega)).symm) (by repeat (first | (with_reducible first | exact Below.refl _ _ | assumption | exact Nat.le_refl _ | refine Below.drew ?_ | refine Below.alloc ?_ ?_ _ | refine below_drewN ?_ _ | refine Below.setCell ?_ ?_ _ | refine le_alloc ?_ | refine le_set ?_ | refine le_drew ?_ | refine le_drewN ?_ | refine below_step (by assumption) ?_ ?_ | refine le_below (by assumption) ?_) | (dsimp only; omega)))
set_option maxRecDepth 100000 in
theorem has_no (m : Value) (a : Nat) (sz : Int) (h1 : (sz == 1) = false) (h2 : (sz == 2) = false) (h4 : (sz == 4) = false) (h8 : (sz == 8) = false) (w : World) : Calls Tryz.prog 72 #[m, .int .u64 a, .int .i64 sz] w (RetB (hasV a sz) w) := by
  have HV : Hid (hasV a sz = false) := hasV_no a sz (by simp at h1 h2 h4 h8; omega)
  have k1 : decide (sz = 1) = false := by simpa using h1
  have k2 : decide (sz = 2) = false := by simpa using h2
  have k4 : decide (sz = 4) = false := by simpa using h4
  have k8 : decide (sz = 8) = false := by simpa using h8
  go_enter Tryz.func72, Tryz.ntmps72
  go_wp2_with fail
  go_ret
  exact retB_mk (by rw [HV.out]) (by repeat (first | (with_reducible first | exact Below.refl _ _ | assumption | exact Nat.le_refl _ | refine Below.drew ?_ | refine Below.alloc ?_ ?_ _ | refine below_drewN ?_ _ | refine Below.setCell ?_ ?_ _ | refine le_alloc ?_ | refine le_set ?_ | refine le_drew ?_ | refine le_drewN ?_ | refine below_step (by assumption) ?_ ?_ | refine le_below (by assumption) ?_) | (dsimp only; omega)))
theorem has_c (m : Value) (a : Nat) (ha : Hid (a < 18446744073709551616)) (sz : Int) (w : World) : Calls Tryz.prog 72 #[m, .int .u64 a, .int .i64 sz] w (RetB (hasV a sz) w) := by
  by_cases h : sz = 1 ∨ sz = 2 ∨ sz = 4 ∨ sz = 8
  · rcases h with rfl | rfl | rfl | rfl
    · exact has_1 m a ha w
    · exact has_2 m a ha w
    · exact has_4 m a ha w
    · exact has_8 m a ha w
  · exact has_no m a sz (by simp; omega) (by simp; omega) (by simp; omega) (by simp; omega) w
def RetF (a : Nat) (W : World) (e : Ending) (w' : World) : Prop := e = .returned (.tuple #[.agg #[.int .u64 ((a / 4096 * 4096 : Nat) : Int)], .int .i64 ((a % 4096 : Nat) : Int)]) ∧ Below W.heap.size W w'
theorem find_c (a : Nat) (ha : Hid (a < 18446744073709551616)) (w : World) : Calls Tryz.prog 71 #[.int .u64 a] w (RetF a w) := by
  go_enter Tryz.func71, Tryz.ntmps71
  go_wp2_with fail
  have hlt := ha.out
  have e1 : IntKind.u64.wrap ((a : Int) - (a : Int) % 4096) = ((a / 4096 * 4096 : Nat) : Int) := by rw [IntKind.wrap_u64]; omega
  have e2 : (a : Int) % 4096 = ((a % 4096 : Nat) : Int) := by omega
  rw [e1]
  clear hlt e1
  refine bodyPost_ret (v := .tuple #[.agg #[.int .u64 ((a / 4096 * 4096 : Nat) : Int)], .int .i64 ((a : Int) % 4096)]) (by simp [results, Tryz.results71, go_sem] <;> (first | rfl | (repeat' (first | rfl | apply And.intro)))) rfl ⟨?_, (by repeat (first | (with_reducible first | exact Below.refl _ _ | assumption | exact Nat.le_refl _ | refine Below.drew ?_ | refine Below.alloc ?_ ?_ _ | refine below_drewN ?_ _ | refine Below.setCell ?_ ?_ _ | refine le_alloc ?_ | refine le_set ?_ | refine le_drew ?_ | refine le_drewN ?_ | refine below_step (by assumption) ?_ ?_ | refine le_below (by assumption) ?_) | (dsimp only; omega)))⟩
  rw [e2]
/-- A page: a block of 4096 bytes. -/
def PageIs (w : World) (p : Nat) (f : Nat → Nat) : Prop := p < w.heap.size ∧ ∀ i, i < 4096 → w.cell? ⟨p, i, none⟩ = some (.int .u8 (f i)) ∧ w.frozen? ⟨p, i, none⟩ = false
theorem PageIs.kept {w w' : World} {p : Nat} {f : Nat → Nat} {r : Option Nat} (h : PageIs w p f) (hg : w.grownBy w' r) (hne : some p ≠ r) : PageIs w' p f := by
  obtain ⟨h0, h1⟩ := h
  have hb := hg.block p h0 hne
  refine ⟨Nat.lt_of_lt_of_le h0 hg.size, fun i hi => ⟨?_, ?_⟩⟩
  · rw [World.cell?_of_block (w := w) (a := ⟨p, i, none⟩) hb]; exact (h1 i hi).1
  · rw [World.frozen?_of_block (w := w) (a := ⟨p, i, none⟩) hb]; exact (h1 i hi).2
/-- The pages that a map D names hold the bytes F; what it doesn't name is of zeros; each page is a block of its own. -/
def Laid (w : World) (D : DataW Unit) (F : Nat → Nat) : Prop :=
  (∀ s, s < 18446744073709551616 → Maps.has D (keyL s) = true → ∃ p, D.atKey (keyL s) noneD = pageD p ∧ PageIs w p (fun i => F (s + i))) ∧
  (∀ s, s < 18446744073709551616 → s % 4096 = 0 → Maps.has D (keyL s) = false → ∀ i, i < 4096 → F (s + i) = 0) ∧
  (∀ s t p, s < 18446744073709551616 → t < 18446744073709551616 → Maps.has D (keyL s) = true → Maps.has D (keyL t) = true → D.atKey (keyL s) noneD = pageD p → D.atKey (keyL t) noneD = pageD p → s = t)
/-- A memory at block m. -/
def Mem (w : World) (m : Nat) (F : Nat → Nat) : Prop := m < w.heap.size ∧ ∃ b n D, w.cell? ⟨m, 0, none⟩ = some (.map (some b)) ∧ w.ownsMap Tryz.prog 124 pageR b n D ∧ Laid w D F
theorem laid_nil (w : World) : Laid w (.map []) (fun _ => 0) := by
  have hn : ∀ s, Maps.has (.map [] : DataW Unit) (keyL s) = false := fun s => rfl
  refine ⟨fun s _ h => ?_, fun _ _ _ _ _ _ => rfl, fun s t p _ _ h _ _ _ => ?_⟩
  · rw [hn] at h; cases h
  · rw [hn] at h; cases h
end Go.Proofs.YthhlcchofilimaaGreatDoor.U.M
namespace Go.Proofs.YthhlcchofilimaaGreatDoor.U.M
set_option linter.unusedVariables false
set_option linter.unusedSimpArgs false
set_option maxRecDepth 20000
set_option maxRecDepth 20000
open Go.Maps Go.WideMaps Go.ChangeShapes Go.WideShapes Go.ChangeAt Go.RowKit
theorem Mem.kept {w w' : World} {m : Nat} {F : Nat → Nat} (h : Mem w m F) (hb : Below w.heap.size w w') : Mem w' m F := by
  obtain ⟨h0, b, n, D, h1, h2, h3, h4, h5⟩ := h
  refine ⟨Nat.lt_of_lt_of_le h0 hb.size, b, n, D, ?_, h2.kept (grown_below hb) (by simp), fun s hs hh => ?_, h4, h5⟩
  · rw [hb.cell (p := ⟨m, 0, none⟩) h0]; exact h1
  · obtain ⟨p, q1, q2⟩ := h3 s hs hh
    exact ⟨p, q1, q2.kept (grown_below hb) (by simp)⟩
/-- A look-up: the page, or none; however often the world has drawn. -/
theorem Mem.look {w : World} {m : Nat} {F : Nat → Nat} (h : Mem w m F) : ∃ b, w.cell? ⟨m, 0, none⟩ = some (.map (some b)) ∧ ∀ s : Nat, s < 18446744073709551616 → s % 4096 = 0 →
    ((∃ p, (∀ j, (Instr.lookup 97 (.map (some b)) (.agg #[.int .u64 s]) true).run Tryz.prog (w.drewN j) = .ok (.tuple #[.pointer (some ⟨p, 0, none⟩), .bool true]) (w.drewN j)) ∧ PageIs w p (fun i => F (s + i))) ∨
     ((∀ j, (Instr.lookup 97 (.map (some b)) (.agg #[.int .u64 s]) true).run Tryz.prog (w.drewN j) = .ok (.tuple #[.pointer none, .bool false]) (w.drewN j)) ∧ ∀ i, i < 4096 → F (s + i) = 0)) := by
  obtain ⟨h0, b, n, D, h1, h2, h3, h4, h5⟩ := h
  refine ⟨b, h1, fun s hs ha => ?_⟩
  have run : ∀ j, ∃ v ps, (Instr.lookup 97 (.map (some b)) (.agg #[.int .u64 s]) true).run Tryz.prog (w.drewN j) = .ok (.tuple #[v, .bool (Maps.has D (keyL s))]) (w.drewN j) ∧ pageR v = some (D.atKey (keyL s) noneD, ps) := fun j =>
    (h2.kept (grown_below (below_drewN (Below.refl _ _) j)) (by simp)).look_ok lawSpot Tryz.underlying97 (zeroPage _) pageR_none (keySpot s (wfU hs))
  cases hh : Maps.has D (keyL s)
  · refine Or.inr ⟨fun j => ?_, h4 s hs ha hh⟩
    obtain ⟨v, ps, hr, hv⟩ := run j
    rw [hh] at hr
    have hn : D.atKey (keyL s) noneD = noneD := Maps.atKey_of_not_has hh _
    rw [hn] at hv
    obtain rfl := pageR_inv_none hv
    exact hr
  · obtain ⟨p, q1, q2⟩ := h3 s hs hh
    refine Or.inl ⟨p, fun j => ?_, q2⟩
    obtain ⟨v, ps, hr, hv⟩ := run j
    rw [hh] at hr
    rw [q1] at hv
    obtain rfl := pageR_inv hv
    exact hr
end Go.Proofs.YthhlcchofilimaaGreatDoor.U.M
namespace Go.Proofs.YthhlcchofilimaaGreatDoor.U.M
set_option linter.unusedVariables false
set_option linter.unusedSimpArgs false
set_option maxRecDepth 20000
set_option maxRecDepth 20000
open Go.Maps Go.WideMaps Go.ChangeShapes Go.WideShapes Go.ChangeAt Go.RowKit
theorem below_cells {B g : Nat} {W : World} (hg : B ≤ g) : ∀ (vs : List Value) (o : Nat) (w : World), Below B W w → Below B W (w.setCells g o vs)
  | [], _, _, h => h
  | v :: vs, o, w, h => by
    refine below_cells hg vs (o + 1) _ ?_
    exact Below.setCell h hg _
theorem size_cells (g : Nat) : ∀ (vs : List Value) (o : Nat) (w : World), (w.setCells g o vs).heap.size = w.heap.size
  | [], _, _ => rfl
  | v :: vs, o, w => (size_cells g vs (o + 1) _).trans (sz_set _ _ _)
/-- A row of bytes in block g from o on: the first k of n are those of F from a on, the others 0; outside of it all is as in W0. -/
def Filled (W0 : World) (g o n a : Nat) (F : Nat → Nat) (k : Nat) (w : World) : Prop :=
  g < w.heap.size ∧ (∀ i, i < n → w.cell? ⟨g, o + i, none⟩ = some (.int .u8 (if i < k then F (a + i) else 0 : Nat)) ∧ w.frozen? ⟨g, o + i, none⟩ = false) ∧
  (∀ i, i < o ∨ o + n ≤ i → w.cell? ⟨g, i, none⟩ = W0.cell? ⟨g, i, none⟩ ∧ w.frozen? ⟨g, i, none⟩ = W0.frozen? ⟨g, i, none⟩)
theorem Filled.kept {W0 w w' : World} {g o n a k B : Nat} {F : Nat → Nat} (h : Filled W0 g o n a F k w) (hb : Below B w w') (hB : g < B) : Filled W0 g o n a F k w' := by
  obtain ⟨h0, h1, h2⟩ := h
  refine ⟨Nat.lt_of_lt_of_le h0 hb.size, fun i hi => ⟨?_, ?_⟩, fun i hi => ⟨?_, ?_⟩⟩
  · rw [hb.cell (p := ⟨g, o + i, none⟩) hB]; exact (h1 i hi).1
  · rw [hb.frozen (p := ⟨g, o + i, none⟩) hB]; exact (h1 i hi).2
  · rw [hb.cell (p := ⟨g, i, none⟩) hB]; exact (h2 i hi).1
  · rw [hb.frozen (p := ⟨g, i, none⟩) hB]; exact (h2 i hi).2
theorem Filled.copy {W0 w : World} {g o n a k t : Nat} {F : Nat → Nat} (h : Filled W0 g o n a F k w) (hk : k + t ≤ n) (cs : List Value) (hcs : cs = (List.range t).map (fun i => (.int .u8 (F (a + k + i) : Nat) : Value))) : Filled W0 g o n a F (k + t) (w.setCells g (o + k) cs) := by
  obtain ⟨h0, h1, h2⟩ := h
  have hl : cs.length = t := by rw [hcs]; simp
  refine ⟨by rw [size_cells]; exact h0, fun i hi => ⟨?_, ?_⟩, fun i hi => ⟨?_, ?_⟩⟩
  · by_cases hin : k ≤ i ∧ i < k + t
    · have := World.cell?_setCells_in g cs (o + k) w (fun j hj => by rw [Nat.add_assoc, (h1 (k + j) (by omega)).1]; rfl) (i - k) (by omega)
      rw [show o + k + (i - k) = o + i by omega] at this
      rw [this, if_pos hin.2]
      subst hcs
      simp
      congr 2
      omega
    · rw [World.cell?_setCells_out g cs (o + k) w ⟨g, o + i, none⟩ (fun _ _ => by show o + i < o + k ∨ o + k + cs.length ≤ o + i; omega), (h1 i hi).1]
      by_cases c : i < k
      · rw [if_pos c, if_pos (by omega)]
      · rw [if_neg c, if_neg (by omega)]
  · rw [World.frozen?_setCells]; exact (h1 i hi).2
  · rw [World.cell?_setCells_out g cs (o + k) w ⟨g, i, none⟩ (fun _ _ => by show i < o + k ∨ o + k + cs.length ≤ i; omega)]; exact (h2 i hi).1
  · rw [World.frozen?_setCells]; exact (h2 i hi).2
theorem Filled.zeros {W0 w : World} {g o n a k t : Nat} {F : Nat → Nat} (h : Filled W0 g o n a F k w) (hz : ∀ i, i < t → F (a + k + i) = 0) : Filled W0 g o n a F (k + t) w := by
  obtain ⟨h0, h1, h2⟩ := h
  refine ⟨h0, fun i hi => ⟨?_, (h1 i hi).2⟩, h2⟩
  rw [(h1 i hi).1]
  by_cases c : i < k
  · rw [if_pos c, if_pos (by omega)]
  · rw [if_neg c]
    by_cases d : i < k + t
    · rw [if_pos d]
      have := hz (i - k) (by omega)
      rw [show a + k + (i - k) = a + i by omega] at this
      rw [this]
    · rw [if_neg d]
theorem find_n (a s f : Nat) (ha : Hid (a < 18446744073709551616)) (hs : a / 4096 * 4096 = s) (hf : a % 4096 = f) (w : World) : Calls Tryz.prog 71 #[.int .u64 a] w (fun e w' => e = .returned (.tuple #[.agg #[.int .u64 s], .int .i64 f]) ∧ Below w.heap.size w w') := by
  subst hs hf
  exact find_c a ha w
/-- What a copy out of a page lays. -/
theorem copy_page (p f g x t cap : Nat) (G : Nat → Nat) (w : World) (hp : PageIs w p G) (ht : f + t ≤ 4096) (hc : ∀ j, j < t → (w.cell? ⟨g, x + j, none⟩).isSome = true ∧ w.frozen? ⟨g, x + j, none⟩ = false) :
    (Builtin.copy_ #[22, 22] 3 #[.slice (some ⟨g, x, none⟩) t cap, .slice (some ⟨p, f, none⟩) (4096 - f) (4096 - f)]).run Tryz.prog w = .ok (.int .i64 t) (w.setCells g x ((List.range t).map (fun i => (.int .u8 (G (f + i) : Nat) : Value)))) := by
  have hl : ((List.range t).map (fun i => (.int .u8 (G (f + i) : Nat) : Value))).length = t := by simp
  have := run_copy_cells (P := Tryz.prog) w 22 22 3 5 g x t cap ⟨p, f, none⟩ (4096 - f) (4096 - f) ((List.range t).map (fun i => (.int .u8 (G (f + i) : Nat) : Value))) Tryz.underlying22 (by kernel_rfl) (by rw [hl]; show t = min (4096 - f) t; omega)
    (fun j v hj => ?_) (fun j hj => (hc j (by rw [hl] at hj; exact hj)).1) (fun j hj => (hc j (by rw [hl] at hj; exact hj)).2) (fun v hv => ?_)
  · rw [hl] at this; exact this
  · have hjt : j < t := by
      have := List.getElem?_eq_some_iff.1 hj
      obtain ⟨q, -⟩ := this
      rw [hl] at q; exact q
    rw [List.getElem?_map, List.getElem?_range hjt] at hj
    simp at hj
    subst hj
    have q := (hp.2 (f + j) (by omega)).1
    by_cases hj0 : j = 0
    · subst hj0; simpa [Addr.add] using q
    · simpa [Addr.add, hj0] using q
  · simp at hv
    obtain ⟨i, -, rfl⟩ := hv
    rfl
theorem get_round {W w wz : World} {g o n a k t c y : Nat} {F : Nat → Nat} (hy : a + k = y) (hn : a + n < 18446744073709551616) (hT : k + t ≤ n) (ht : 0 < t) (hnc : n ≤ c)
    (hX : Below W.heap.size W wz ∧ w.heap.size ≤ wz.heap.size ∧ Filled w g o n a F (k + t) wz) :
    (∃ k1 x : Nat, k1 ≤ n ∧ Value.int IntKind.u64 (IntKind.u64.wrap ((y : Int) + (t : Int))) = Value.int IntKind.u64 ((a + k1 : Nat) : Int) ∧
      Value.slice (if c - k = t then some ⟨g, o + k, none⟩ else some ⟨g, o + k + t, none⟩) (n - k - t) (c - k - t) = Value.slice (some ⟨g, x, none⟩) (n - k1) (c - k1) ∧ Hid (k1 < n → x = o + k1) ∧
      Hid (Below W.heap.size W wz) ∧ Hid (w.heap.size ≤ wz.heap.size) ∧ Hid (Filled w g o n a F k1 wz)) ∧ n - k - t < n - k := by
  refine ⟨⟨k + t, if c - k = t then o + k else o + k + t, hT, ?_, ?_, ?_, hX.1, hX.2.1, hX.2.2⟩, by omega⟩
  · congr 1
    rw [IntKind.wrap_u64]; omega
  · rw [Nat.sub_sub, Nat.sub_sub]
    split <;> rfl
  · show k + t < n → _
    intro h
    rw [if_neg (by omega)]; omega
set_option maxRecDepth 100000 in
set_option maxHeartbeats 2000000 in
theorem get_c (m g o n c a : Nat) (F : Nat → Nat) (W w : World) (hM : Hid (Mem W m F)) (hb : Hid (Below W.heap.size W w)) (hg : Hid (W.heap.size ≤ g)) (hn : Hid (a + n < 18446744073709551616)) (hnc : Hid (n ≤ c ∧ n < 4611686018427387904)) (hr : Hid (Filled w g o n a F 0 w)) :
    Calls Tryz.prog 85 #[.pointer (some ⟨m, 0, none⟩), .int .u64 a, .slice (some ⟨g, o, none⟩) n c] w (fun e w' => e = .returned (.tuple #[]) ∧ Below W.heap.size W w' ∧ w.heap.size ≤ w'.heap.size ∧ Filled w g o n a F n w') := by
  go_enter Tryz.func85, Tryz.ntmps85
  go_wp2_with fail
  go_loopw [1, 2] (fun v1 v2 wr => ∃ k x : Nat, k ≤ n ∧ v1 = .int .u64 ((a + k : Nat) : Int) ∧ v2 = .slice (some ⟨g, x, none⟩) (n - k) (c - k) ∧ Hid (k < n → x = o + k) ∧ Hid (Below W.heap.size W wr) ∧ Hid (w.heap.size ≤ wr.heap.size) ∧ Hid (Filled w g o n a F k wr)) (fun _ v2 _ => match v2 with | .slice _ l _ => l | _ => 0)
  case atStart =>
    exact ⟨0, o, by omega, rfl, rfl, fun _ => rfl, hb, Nat.le_refl _, hr⟩
  case round =>
    obtain ⟨k, x, hk, rfl, rfl, hx, hbw, hsz, hF⟩ := hrel
    by_cases hlt : k < n
    · obtain rfl : x = o + k := hx.out hlt
      have hlt' : (0 : Int) < ((n - k : Nat) : Int) := by omega
      obtain ⟨f, hf⟩ : ∃ f, (a + k) % 4096 = f := ⟨_, rfl⟩
      obtain ⟨s, hs⟩ : ∃ s, (a + k) / 4096 * 4096 = s := ⟨_, rfl⟩
      have hak : Hid (a + k = s + f) := by show _ = _; omega
      have hs1 : Hid (s % 4096 = 0 ∧ s < 18446744073709551616 ∧ f < 4096 ∧ a + k < 18446744073709551616) := ⟨by omega, by have := hn.out; omega, by omega, by have := hn.out; omega⟩
      obtain ⟨y, hy⟩ : ∃ y, a + k = y := ⟨_, rfl⟩
      have hyx : Hid (a + k = y) := hy
      rw [hy] at hf hs
      go_wp2_with fail
      refine (find_n y s f (Lib.hid (by have h := hs1.out.2.2.2; have := hyx.out; omega)) hs hf _).mono ?_; rintro e w1 ⟨rfl, hb1⟩
      have hb1' : Hid (Below W.heap.size W w1) := Lib.hid (hbw.out.trans (hb1.mono hbw.out.size))
      have HB1 := Lib.hid hb1
      have hF1 : Hid (Filled w g o n a F k w1) := hF.out.kept hb1 hF.out.1
      clear hs hf hb1 hy
      obtain ⟨b, hcb, hlook⟩ := (hM.out.kept (hb1'.out.alloc hb1'.out.size (Obj.cells #[.int .u64 s] 124))).look
      have hmb : ¬ m = w1.heap.size := by have h1 := hM.out.1; have h2 := hb1'.out.size; omega
      have hmb' : ¬ w1.heap.size = m := by omega
      rcases hlook s hs1.out.2.1 hs1.out.1 with ⟨p, hl, hp⟩ | ⟨hl, hz⟩
      · have HP := Lib.hid hp
        clear hlook hp
        by_cases hmn : (4096 - (f : Int)) ≤ ((n - k : Nat) : Int)
        · obtain ⟨t, ht⟩ : ∃ t : Nat, (4096 - (f : Int)) = (t : Int) := ⟨4096 - f, by have := hs1.out.2.2.1; omega⟩
          have HT : Hid (f + t ≤ 4096 ∧ k + t ≤ n) := ⟨by omega, by omega⟩
          have HT0 : Hid (0 < t) := by have := hs1.out.2.2.1; show 0 < t; omega
          go_wp2_with fail
          go_quiet (fail)
          go_wp2_with fail
          have hwx : Below W.heap.size W ((w1.alloc (Obj.cells #[.int .u64 s] 124)).drewN (nq + 1)) := below_drewN (hb1'.out.alloc hb1'.out.size _) _
          have hfx : Filled w g o n a F k ((w1.alloc (Obj.cells #[.int .u64 s] 124)).drewN (nq + 1)) := hF1.out.kept (below_drewN (Below.alloc (Below.refl w1.heap.size w1) (Nat.le_refl _) _) _) hF1.out.1
          have hpx : PageIs ((w1.alloc (Obj.cells #[.int .u64 s] 124)).drewN (nq + 1)) p (fun i => F (s + i)) := HP.out.kept (grown_below (below_drewN (Below.refl _ _) _)) (by simp)
          have hcp := copy_page p f g (o + k) t (c - k) (fun i => F (s + i)) _ hpx HT.out.1 (fun j hj => by
            have h1 := hfx.2.1 (k + j) (by have := HT.out.2; omega)
            rw [Nat.add_assoc]
            exact ⟨by rw [h1.1]; rfl, h1.2⟩)
          have HX : Hid (Below W.heap.size W (((w1.alloc (Obj.cells #[.int .u64 s] 124)).drewN (nq + 1)).setCells g (o + k) ((List.range t).map (fun i => (.int .u8 (F (s + (f + i)) : Nat) : Value)))) ∧ w.heap.size ≤ (((w1.alloc (Obj.cells #[.int .u64 s] 124)).drewN (nq + 1)).setCells g (o + k) ((List.range t).map (fun i => (.int .u8 (F (s + (f + i)) : Nat) : Value)))).heap.size ∧ Filled w g o n a F (k + t) (((w1.alloc (Obj.cells #[.int .u64 s] 124)).drewN (nq + 1)).setCells g (o + k) ((List.range t).map (fun i => (.int .u8 (F (s + (f + i)) : Nat) : Value))))) :=
            ⟨below_cells hg.out _ _ _ hwx, by rw [size_cells, sz_drewN, sz_alloc]; have := hsz.out; have := HB1.out.size; omega, hfx.copy HT.out.2 _ (by congr 1; funext i; rw [hak.out]; congr 3; omega)⟩
          clear hwx hfx hpx
          have t1 : (t : Int) ≤ ((c - k : Nat) : Int) := by have := hnc.out; have := HT.out.2; omega
          have f1 : (f : Int) ≤ 4096 := by have := hs1.out.2.2.1; omega
          have nf : ¬ (4096 = f) := by have := hs1.out.2.2.1; omega
          go_region
          go_wp2_with fail
          exact get_round hyx.out hn.out HT.out.2 HT0.out hnc.out.1 HX.out
        · obtain ⟨t, ht⟩ : ∃ t : Nat, ((n - k : Nat) : Int) = (t : Int) := ⟨n - k, rfl⟩
          have HT : Hid (f + t ≤ 4096 ∧ k + t ≤ n) := ⟨by omega, by omega⟩
          have HT0 : Hid (0 < t) := by show 0 < t; omega
          go_wp2_with fail
          go_quiet (fail)
          go_wp2_with fail
          have hwx : Below W.heap.size W ((w1.alloc (Obj.cells #[.int .u64 s] 124)).drewN (nq + 1)) := below_drewN (hb1'.out.alloc hb1'.out.size _) _
          have hfx : Filled w g o n a F k ((w1.alloc (Obj.cells #[.int .u64 s] 124)).drewN (nq + 1)) := hF1.out.kept (below_drewN (Below.alloc (Below.refl w1.heap.size w1) (Nat.le_refl _) _) _) hF1.out.1
          have hpx : PageIs ((w1.alloc (Obj.cells #[.int .u64 s] 124)).drewN (nq + 1)) p (fun i => F (s + i)) := HP.out.kept (grown_below (below_drewN (Below.refl _ _) _)) (by simp)
          have hcp := copy_page p f g (o + k) t (c - k) (fun i => F (s + i)) _ hpx HT.out.1 (fun j hj => by
            have h1 := hfx.2.1 (k + j) (by have := HT.out.2; omega)
            rw [Nat.add_assoc]
            exact ⟨by rw [h1.1]; rfl, h1.2⟩)
          have HX : Hid (Below W.heap.size W (((w1.alloc (Obj.cells #[.int .u64 s] 124)).drewN (nq + 1)).setCells g (o + k) ((List.range t).map (fun i => (.int .u8 (F (s + (f + i)) : Nat) : Value)))) ∧ w.heap.size ≤ (((w1.alloc (Obj.cells #[.int .u64 s] 124)).drewN (nq + 1)).setCells g (o + k) ((List.range t).map (fun i => (.int .u8 (F (s + (f + i)) : Nat) : Value)))).heap.size ∧ Filled w g o n a F (k + t) (((w1.alloc (Obj.cells #[.int .u64 s] 124)).drewN (nq + 1)).setCells g (o + k) ((List.range t).map (fun i => (.int .u8 (F (s + (f + i)) : Nat) : Value))))) :=
            ⟨below_cells hg.out _ _ _ hwx, by rw [size_cells, sz_drewN, sz_alloc]; have := hsz.out; have := HB1.out.size; omega, hfx.copy HT.out.2 _ (by congr 1; funext i; rw [hak.out]; congr 3; omega)⟩
          clear hwx hfx hpx
          have t1 : (t : Int) ≤ ((c - k : Nat) : Int) := by have := hnc.out; have := HT.out.2; omega
          have f1 : (f : Int) ≤ 4096 := by have := hs1.out.2.2.1; omega
          have nf : ¬ (4096 = f) := by have := hs1.out.2.2.1; omega
          go_region
          go_wp2_with fail
          exact get_round hyx.out hn.out HT.out.2 HT0.out hnc.out.1 HX.out
      · have HZ := Lib.hid hz
        clear hlook hz
        by_cases hmn : (4096 - (f : Int)) ≤ ((n - k : Nat) : Int)
        · obtain ⟨t, ht⟩ : ∃ t : Nat, (4096 - (f : Int)) = (t : Int) := ⟨4096 - f, by have := hs1.out.2.2.1; omega⟩
          have HT : Hid (f + t ≤ 4096 ∧ k + t ≤ n) := ⟨by omega, by omega⟩
          have HT0 : Hid (0 < t) := by have := hs1.out.2.2.1; show 0 < t; omega
          go_wp2_with fail
          go_quiet (fail)
          go_wp2_with fail
          have HX : Below W.heap.size W ((w1.alloc (Obj.cells #[.int .u64 s] 124)).drewN nq) ∧ w.heap.size ≤ ((w1.alloc (Obj.cells #[.int .u64 s] 124)).drewN nq).heap.size ∧ Filled w g o n a F (k + t) ((w1.alloc (Obj.cells #[.int .u64 s] 124)).drewN nq) :=
            ⟨below_drewN (hb1'.out.alloc hb1'.out.size _) _, by rw [sz_drewN, sz_alloc]; have := hsz.out; have := HB1.out.size; omega, (hF1.out.kept (below_drewN (Below.alloc (Below.refl w1.heap.size w1) (Nat.le_refl _) _) _) hF1.out.1).zeros (fun i hi => by
              have := HZ.out (f + i) (by have := HT.out.1; omega)
              rwa [show s + (f + i) = a + k + i by have := hak.out; omega] at this)⟩
          exact get_round hyx.out hn.out HT.out.2 HT0.out hnc.out.1 HX
        · obtain ⟨t, ht⟩ : ∃ t : Nat, ((n - k : Nat) : Int) = (t : Int) := ⟨n - k, rfl⟩
          have HT : Hid (f + t ≤ 4096 ∧ k + t ≤ n) := ⟨by omega, by omega⟩
          have HT0 : Hid (0 < t) := by show 0 < t; omega
          go_wp2_with fail
          go_quiet (fail)
          go_wp2_with fail
          have HX : Below W.heap.size W ((w1.alloc (Obj.cells #[.int .u64 s] 124)).drewN nq) ∧ w.heap.size ≤ ((w1.alloc (Obj.cells #[.int .u64 s] 124)).drewN nq).heap.size ∧ Filled w g o n a F (k + t) ((w1.alloc (Obj.cells #[.int .u64 s] 124)).drewN nq) :=
            ⟨below_drewN (hb1'.out.alloc hb1'.out.size _) _, by rw [sz_drewN, sz_alloc]; have := hsz.out; have := HB1.out.size; omega, (hF1.out.kept (below_drewN (Below.alloc (Below.refl w1.heap.size w1) (Nat.le_refl _) _) _) hF1.out.1).zeros (fun i hi => by
              have := HZ.out (f + i) (by have := HT.out.1; omega)
              rwa [show s + (f + i) = a + k + i by have := hak.out; omega] at this)⟩
          exact get_round hyx.out hn.out HT.out.2 HT0.out hnc.out.1 HX
    · obtain rfl : k = n := by omega
      have hlt' : ¬ ((0 : Int) < ((k - k : Nat) : Int)) := by omega
      go_wp2_with fail
      go_end0
      exact ⟨rfl, hbw.out, hsz.out, hF.out⟩
end Go.Proofs.YthhlcchofilimaaGreatDoor.U.M
namespace Go.Proofs.YthhlcchofilimaaGreatDoor.U.M
set_option linter.unusedVariables false
set_option linter.unusedSimpArgs false
set_option maxRecDepth 20000
set_option maxRecDepth 20000
open Go.Maps Go.WideMaps Go.ChangeShapes Go.WideShapes Go.ChangeAt Go.RowKit
theorem filled0 (w : World) (n a : Nat) (F : Nat → Nat) (t : TypeId) (hn : n ≤ 8) : Filled (w.alloc (Obj.cells #[.int .u8 0, .int .u8 0, .int .u8 0, .int .u8 0, .int .u8 0, .int .u8 0, .int .u8 0, .int .u8 0] t)) w.heap.size 0 n a F 0 (w.alloc (Obj.cells #[.int .u8 0, .int .u8 0, .int .u8 0, .int .u8 0, .int .u8 0, .int .u8 0, .int .u8 0, .int .u8 0] t)) := by
  refine ⟨by simp, fun i hi => ⟨?_, ?_⟩, fun i _ => ⟨rfl, rfl⟩⟩
  · rw [World.cell?_alloc_at _ _ _ _ rfl, Nat.zero_add, if_neg (Nat.not_lt_zero _)]
    have : i = 0 ∨ i = 1 ∨ i = 2 ∨ i = 3 ∨ i = 4 ∨ i = 5 ∨ i = 6 ∨ i = 7 := by omega
    rcases this with rfl | rfl | rfl | rfl | rfl | rfl | rfl | rfl <;> rfl
  · rw [World.frozen?_alloc_at _ _ _ _ rfl]
theorem cells8 (w : World) (t : TypeId) : ∀ i, i < 8 → (w.alloc (Obj.cells #[.int .u8 0, .int .u8 0, .int .u8 0, .int .u8 0, .int .u8 0, .int .u8 0, .int .u8 0, .int .u8 0] t)).cell? ⟨w.heap.size, i, none⟩ = some (.int .u8 0) := by
  intro i hi
  rw [World.cell?_alloc_at _ _ _ _ rfl]
  have : i = 0 ∨ i = 1 ∨ i = 2 ∨ i = 3 ∨ i = 4 ∨ i = 5 ∨ i = 6 ∨ i = 7 := by omega
  rcases this with rfl | rfl | rfl | rfl | rfl | rfl | rfl | rfl <;> rfl
/-- A number of bytes, the lowest first. -/
def numR (R : Nat → Nat) : Nat → Nat
  | 0 => 0
  | k + 1 => numR R k + R k * 256 ^ k
theorem numR_lt (R : Nat → Nat) (hR : ∀ i, R i < 256) : ∀ k, numR R k < 256 ^ k
  | 0 => by show 0 < 1; decide
  | k + 1 => by
    have h := numR_lt R hR k
    have h2 : R k * 256 ^ k ≤ 255 * 256 ^ k := Nat.mul_le_mul_right _ (by have := hR k; omega)
    show numR R k + R k * 256 ^ k < 256 ^ (k + 1)
    rw [Nat.pow_succ]
    omega
theorem index8 (r0 r1 r2 r3 r4 r5 r6 r7 : Value) (w : World) (k : Nat) (hk : k < 8) (v : Value) (hv : #[r0, r1, r2, r3, r4, r5, r6, r7][k]? = some v) : (Instr.index 24 (.agg #[r0, r1, r2, r3, r4, r5, r6, r7]) (.int .i64 (k : Int))).run Tryz.prog w = .ok v w := by
  have h : k = 0 ∨ k = 1 ∨ k = 2 ∨ k = 3 ∨ k = 4 ∨ k = 5 ∨ k = 6 ∨ k = 7 := by omega
  rcases h with rfl | rfl | rfl | rfl | rfl | rfl | rfl | rfl <;> (simp at hv; subst hv; rfl)
theorem or8 (k : Nat) (hk : k < 8) (x r : Nat) (hx : x < 256 ^ k) (hr : r < 256) (P : Int) (hP : P = ((256 ^ k : Nat) : Int)) : bits .or .u64 (x : Int) (IntKind.u64.wrap (IntKind.u64.wrap (r : Int) * P)) = ((x + r * 256 ^ k : Nat) : Int) := by
  subst hP
  have e : (256 : Nat) ^ k = 2 ^ (8 * k) := by rw [Nat.pow_mul]
  have hp : 256 ^ k ≤ 72057594037927936 := Nat.le_trans (Nat.pow_le_pow_right (by decide) (show k ≤ 7 by omega)) (by decide)
  have hrp : r * 256 ^ k ≤ 255 * 256 ^ k := Nat.mul_le_mul_right _ (by omega)
  have w1 : IntKind.u64.wrap (r : Int) = (r : Int) := by rw [IntKind.wrap_u64]; omega
  have w2 : IntKind.u64.wrap ((r : Int) * ((256 ^ k : Nat) : Int)) = ((r * 256 ^ k : Nat) : Int) := by
    rw [← Int.natCast_mul, IntKind.wrap_u64]
    omega
  rw [w1, w2, bits_or_u64_nat _ _ (by omega) (by omega)]
  congr 1
  rw [e] at hx ⊢
  have := Nat.two_pow_add_eq_or_of_lt hx r
  rw [Nat.or_comm, Nat.mul_comm r, ← this, Nat.add_comm]
theorem numR_or (R : Nat → Nat) (hR : ∀ i, R i < 256) (k : Nat) (hk : k < 8) (r : Nat) (hr : r = R k) (P : Int) (hP : P = ((256 ^ k : Nat) : Int)) : bits .or .u64 ((numR R k : Nat) : Int) (IntKind.u64.wrap (IntKind.u64.wrap (r : Int) * P)) = ((numR R (k + 1) : Nat) : Int) := by
  subst hr
  exact or8 k hk _ _ (numR_lt R hR k) (hR k) P hP
def rB (F : Nat → Nat) (a n i : Nat) : Nat := if i < n then F (a + i) else 0
theorem row_cell {w1 w2 : World} {n a : Nat} {F : Nat → Nat} {t : TypeId} (h : Filled (w1.alloc (Obj.cells #[.int .u8 0, .int .u8 0, .int .u8 0, .int .u8 0, .int .u8 0, .int .u8 0, .int .u8 0, .int .u8 0] t)) w1.heap.size 0 n a F n w2) (i : Nat) (hi : i < 8) :
    ∃ r : Nat, w2.cell? ⟨w1.heap.size, i, none⟩ = some (.int .u8 r) ∧ Hid (r = rB F a n i) := by
  refine ⟨_, ?_, rfl⟩
  unfold rB
  by_cases c : i < n
  · have := (h.2.1 i c).1
    rw [Nat.zero_add] at this
    exact this
  · rw [if_neg c, (h.2.2 i (by omega)).1]
    exact cells8 w1 t i hi
def RetR (x : Nat) (ok : Bool) (W : World) (e : Ending) (w' : World) : Prop := e = .returned (.tuple #[.int .u64 x, .bool ok]) ∧ Below W.heap.size W w'
set_option maxRecDepth 100000 in
set_option maxHeartbeats 4000000 in
theorem read_y (m a n : Nat) (F : Nat → Nat) (w : World) (hM : Hid (Mem w m F)) (hn : Hid (n = 1 ∨ n = 2 ∨ n = 4 ∨ n = 8)) (ha : Hid (a < 18446744073709551616)) (hv : Hid (hasV a n = true)) (hF : Hid (∀ i, F i < 256)) :
    Calls Tryz.prog 73 #[.pointer (some ⟨m, 0, none⟩), .int .u64 a, .int .i64 n] w (RetR (numR (rB F a n) 8) true w) := by
  have n8 : (n : Int) ≤ 8 := by have := hn.out; omega
  have n0 : (0 : Int) ≤ n := by omega
  go_enter Tryz.func73, Tryz.ntmps73
  go_wp2_with fail
  refine (has_c _ a ha n _).mono ?_; rintro e w1 ⟨rfl, hb1⟩
  rw [hv.out]
  go_wp2_with fail
  have hM1 : Hid (Mem w m F) := hM
  have hle : Hid (n ≤ 8) := by have := hn.out; show n ≤ 8; omega
  have hi8 : Hid (a + n < 18446744073709551616) := by
    have h := hv.out
    unfold hasV at h
    have := of_decide_eq_true h
    show _ < _
    omega
  refine (get_c m w1.heap.size 0 n 8 a F w _ hM (Lib.hid (hb1.alloc hb1.size _)) (Lib.hid hb1.size) hi8 (Lib.hid ⟨hle.out, by have := hle.out; omega⟩) (Lib.hid (filled0 w1 n a F _ hle.out))).mono ?_
  rintro e w2 ⟨rfl, hb2, hs2, hF2⟩
  have HB2 := Lib.hid hb2; have HS2 := Lib.hid hs2; have HF2 := Lib.hid hF2
  clear hb2 hs2 hF2
  obtain ⟨r0, c0, H0⟩ := row_cell HF2.out 0 (by decide)
  obtain ⟨r1, c1, H1⟩ := row_cell HF2.out 1 (by decide)
  obtain ⟨r2, c2, H2⟩ := row_cell HF2.out 2 (by decide)
  obtain ⟨r3, c3, H3⟩ := row_cell HF2.out 3 (by decide)
  obtain ⟨r4, c4, H4⟩ := row_cell HF2.out 4 (by decide)
  obtain ⟨r5, c5, H5⟩ := row_cell HF2.out 5 (by decide)
  obtain ⟨r6, c6, H6⟩ := row_cell HF2.out 6 (by decide)
  obtain ⟨r7, c7, H7⟩ := row_cell HF2.out 7 (by decide)
  go_wp2_with fail
  have HR : Hid (∀ i, rB F a n i < 256) := by
    intro i
    unfold rB
    split
    · exact hF.out _
    · decide
  go_loopw [9, 23] (fun v i wr => ∃ k : Nat, k ≤ 8 ∧ i = .int .i64 k ∧ v = .int .u64 (numR (rB F a n) k) ∧ wr = w2) (fun _ i _ => 8 - (intOf i).toNat)
  case atStart =>
    exact ⟨0, by omega, rfl, rfl, rfl⟩
  case round =>
    obtain ⟨k, hk, rfl, rfl, rfl⟩ := hrel
    have hk8 : k = 0 ∨ k = 1 ∨ k = 2 ∨ k = 3 ∨ k = 4 ∨ k = 5 ∨ k = 6 ∨ k = 7 ∨ k = 8 := by omega
    rcases hk8 with rfl | rfl | rfl | rfl | rfl | rfl | rfl | rfl | rfl
    · have hix : ∀ w', (Instr.index 24 (.agg #[.int .u8 r0, .int .u8 r1, .int .u8 r2, .int .u8 r3, .int .u8 r4, .int .u8 r5, .int .u8 r6, .int .u8 r7]) (.int .i64 0)).run Tryz.prog w' = .ok (.int .u8 r0) w' := fun w' => index8 (.int .u8 r0) (.int .u8 r1) (.int .u8 r2) (.int .u8 r3) (.int .u8 r4) (.int .u8 r5) (.int .u8 r6) (.int .u8 r7) w' 0 (by decide) (.int .u8 r0) rfl
      go_wp2_with fail
      go_roundw
      case rel => exact ⟨1, by omega, rfl, by congr 1; have := numR_or (rB F a n) HR.out 0 (by decide) r0 H0.out 1 rfl; rwa [Int.mul_one] at this, trivial⟩
      case measure => show 8 - ((1 : Int)).toNat < 8 - (((0 : Nat) : Int)).toNat; decide
    · have hix : ∀ w', (Instr.index 24 (.agg #[.int .u8 r0, .int .u8 r1, .int .u8 r2, .int .u8 r3, .int .u8 r4, .int .u8 r5, .int .u8 r6, .int .u8 r7]) (.int .i64 1)).run Tryz.prog w' = .ok (.int .u8 r1) w' := fun w' => index8 (.int .u8 r0) (.int .u8 r1) (.int .u8 r2) (.int .u8 r3) (.int .u8 r4) (.int .u8 r5) (.int .u8 r6) (.int .u8 r7) w' 1 (by decide) (.int .u8 r1) rfl
      go_wp2_with fail
      go_roundw
      case rel => exact ⟨2, by omega, rfl, by congr 1; exact numR_or (rB F a n) HR.out 1 (by decide) r1 H1.out 256 rfl, trivial⟩
      case measure => show 8 - ((2 : Int)).toNat < 8 - (((1 : Nat) : Int)).toNat; decide
    · have hix : ∀ w', (Instr.index 24 (.agg #[.int .u8 r0, .int .u8 r1, .int .u8 r2, .int .u8 r3, .int .u8 r4, .int .u8 r5, .int .u8 r6, .int .u8 r7]) (.int .i64 2)).run Tryz.prog w' = .ok (.int .u8 r2) w' := fun w' => index8 (.int .u8 r0) (.int .u8 r1) (.int .u8 r2) (.int .u8 r3) (.int .u8 r4) (.int .u8 r5) (.int .u8 r6) (.int .u8 r7) w' 2 (by decide) (.int .u8 r2) rfl
      go_wp2_with fail
      go_roundw
      case rel => exact ⟨3, by omega, rfl, by congr 1; exact numR_or (rB F a n) HR.out 2 (by decide) r2 H2.out 65536 rfl, trivial⟩
      case measure => show 8 - ((3 : Int)).toNat < 8 - (((2 : Nat) : Int)).toNat; decide
    · have hix : ∀ w', (Instr.index 24 (.agg #[.int .u8 r0, .int .u8 r1, .int .u8 r2, .int .u8 r3, .int .u8 r4, .int .u8 r5, .int .u8 r6, .int .u8 r7]) (.int .i64 3)).run Tryz.prog w' = .ok (.int .u8 r3) w' := fun w' => index8 (.int .u8 r0) (.int .u8 r1) (.int .u8 r2) (.int .u8 r3) (.int .u8 r4) (.int .u8 r5) (.int .u8 r6) (.int .u8 r7) w' 3 (by decide) (.int .u8 r3) rfl
      go_wp2_with fail
      go_roundw
      case rel => exact ⟨4, by omega, rfl, by congr 1; exact numR_or (rB F a n) HR.out 3 (by decide) r3 H3.out 16777216 rfl, trivial⟩
      case measure => show 8 - ((4 : Int)).toNat < 8 - (((3 : Nat) : Int)).toNat; decide
    · have hix : ∀ w', (Instr.index 24 (.agg #[.int .u8 r0, .int .u8 r1, .int .u8 r2, .int .u8 r3, .int .u8 r4, .int .u8 r5, .int .u8 r6, .int .u8 r7]) (.int .i64 4)).run Tryz.prog w' = .ok (.int .u8 r4) w' := fun w' => index8 (.int .u8 r0) (.int .u8 r1) (.int .u8 r2) (.int .u8 r3) (.int .u8 r4) (.int .u8 r5) (.int .u8 r6) (.int .u8 r7) w' 4 (by decide) (.int .u8 r4) rfl
      go_wp2_with fail
      go_roundw
      case rel => exact ⟨5, by omega, rfl, by congr 1; exact numR_or (rB F a n) HR.out 4 (by decide) r4 H4.out 4294967296 rfl, trivial⟩
      case measure => show 8 - ((5 : Int)).toNat < 8 - (((4 : Nat) : Int)).toNat; decide
    · have hix : ∀ w', (Instr.index 24 (.agg #[.int .u8 r0, .int .u8 r1, .int .u8 r2, .int .u8 r3, .int .u8 r4, .int .u8 r5, .int .u8 r6, .int .u8 r7]) (.int .i64 5)).run Tryz.prog w' = .ok (.int .u8 r5) w' := fun w' => index8 (.int .u8 r0) (.int .u8 r1) (.int .u8 r2) (.int .u8 r3) (.int .u8 r4) (.int .u8 r5) (.int .u8 r6) (.int .u8 r7) w' 5 (by decide) (.int .u8 r5) rfl
      go_wp2_with fail
      go_roundw
      case rel => exact ⟨6, by omega, rfl, by congr 1; exact numR_or (rB F a n) HR.out 5 (by decide) r5 H5.out 1099511627776 rfl, trivial⟩
      case measure => show 8 - ((6 : Int)).toNat < 8 - (((5 : Nat) : Int)).toNat; decide
    · have hix : ∀ w', (Instr.index 24 (.agg #[.int .u8 r0, .int .u8 r1, .int .u8 r2, .int .u8 r3, .int .u8 r4, .int .u8 r5, .int .u8 r6, .int .u8 r7]) (.int .i64 6)).run Tryz.prog w' = .ok (.int .u8 r6) w' := fun w' => index8 (.int .u8 r0) (.int .u8 r1) (.int .u8 r2) (.int .u8 r3) (.int .u8 r4) (.int .u8 r5) (.int .u8 r6) (.int .u8 r7) w' 6 (by decide) (.int .u8 r6) rfl
      go_wp2_with fail
      go_roundw
      case rel => exact ⟨7, by omega, rfl, by congr 1; exact numR_or (rB F a n) HR.out 6 (by decide) r6 H6.out 281474976710656 rfl, trivial⟩
      case measure => show 8 - ((7 : Int)).toNat < 8 - (((6 : Nat) : Int)).toNat; decide
    · have hix : ∀ w', (Instr.index 24 (.agg #[.int .u8 r0, .int .u8 r1, .int .u8 r2, .int .u8 r3, .int .u8 r4, .int .u8 r5, .int .u8 r6, .int .u8 r7]) (.int .i64 7)).run Tryz.prog w' = .ok (.int .u8 r7) w' := fun w' => index8 (.int .u8 r0) (.int .u8 r1) (.int .u8 r2) (.int .u8 r3) (.int .u8 r4) (.int .u8 r5) (.int .u8 r6) (.int .u8 r7) w' 7 (by decide) (.int .u8 r7) rfl
      go_wp2_with fail
      go_roundw
      case rel => exact ⟨8, by omega, rfl, by congr 1; exact numR_or (rB F a n) HR.out 7 (by decide) r7 H7.out 72057594037927936 rfl, trivial⟩
      case measure => show 8 - ((8 : Int)).toNat < 8 - (((7 : Nat) : Int)).toNat; decide
    · go_wp2_with fail
      go_ret2
      exact ⟨by rfl, HB2.out⟩
def readV (F : Nat → Nat) (a : Nat) (sz : Int) : Nat := if hasV a sz then numR (rB F a sz.toNat) 8 else 0
theorem read_n (m a : Nat) (sz : Int) (w : World) (ha : Hid (a < 18446744073709551616)) (hv : Hid (hasV a sz = false)) :
    Calls Tryz.prog 73 #[.pointer (some ⟨m, 0, none⟩), .int .u64 a, .int .i64 sz] w (RetR 0 false w) := by
  go_enter Tryz.func73, Tryz.ntmps73
  go_wp2_with fail
  refine (has_c _ a ha sz _).mono ?_; rintro e w1 ⟨rfl, hb1⟩
  rw [hv.out]
  go_wp2_with fail
  go_ret2
  exact ⟨by rfl, hb1⟩
theorem read_c (m a : Nat) (sz : Int) (F : Nat → Nat) (w : World) (hM : Hid (Mem w m F)) (ha : Hid (a < 18446744073709551616)) (hF : Hid (∀ i, F i < 256)) :
    Calls Tryz.prog 73 #[.pointer (some ⟨m, 0, none⟩), .int .u64 a, .int .i64 sz] w (RetR (readV F a sz) (hasV a sz) w) := by
  unfold readV
  cases hv : hasV a sz
  · exact read_n m a sz w ha hv
  · have h := hv
    unfold hasV at h
    have h2 := (of_decide_eq_true h).1
    obtain ⟨n, rfl⟩ : ∃ n : Nat, sz = n := ⟨sz.toNat, by omega⟩
    exact read_y m a n F w hM (by show _ ∨ _; omega) ha hv hF
end Go.Proofs.YthhlcchofilimaaGreatDoor.U.M
namespace Go.Proofs.YthhlcchofilimaaGreatDoor.U.M
set_option linter.unusedVariables false
set_option linter.unusedSimpArgs false
set_option maxRecDepth 20000
set_option maxRecDepth 20000
open Go.Maps Go.WideMaps Go.ChangeShapes Go.WideShapes Go.ChangeAt Go.RowKit
/-- How many of the RAM's 256 pages a map names. -/
def cntD (D : DataW Unit) : Nat := (List.range 256).countP (fun i => Maps.has D (keyL (2147483648 + 4096 * i)))
theorem cnt_le (D : DataW Unit) : cntD D ≤ 256 := by
  have := List.countP_le_length (p := fun i => Maps.has D (keyL (2147483648 + 4096 * i))) (l := List.range 256)
  rw [List.length_range] at this
  exact this
theorem count_one (p q : Nat → Bool) (i0 : Nat) (hp : p i0 = false) (hq : q i0 = true) (ho : ∀ i, i < 256 → i ≠ i0 → q i = p i) : ∀ l : List Nat, (∀ i, i ∈ l → i < 256) → l.Nodup → l.countP q = l.countP p + (if i0 ∈ l then 1 else 0)
  | [], _, _ => by simp
  | x :: l, h, hn => by
    have ih := count_one p q i0 hp hq ho l (fun i hi => h i (List.mem_cons_of_mem _ hi)) (List.nodup_cons.1 hn).2
    have hx := (List.nodup_cons.1 hn).1
    rw [List.countP_cons, List.countP_cons, ih]
    by_cases e : x = i0
    · subst e
      rw [if_neg hx, if_pos (List.mem_cons_self), hp, hq]
      simp
    · rw [ho x (h x (List.mem_cons_self)) e]
      have : (i0 ∈ x :: l) = (i0 ∈ l) := by
        rw [List.mem_cons]
        simp [Ne.symm e]
      simp only [this]
      omega
theorem cnt_put {D : DataW Unit} (hD : Maps.IsMap D) (i0 : Nat) (hi : i0 < 256) (hh : Maps.has D (keyL (2147483648 + 4096 * i0)) = false) (d : DataW Unit) : cntD (D.put (keyL (2147483648 + 4096 * i0)) d) = cntD D + 1 := by
  unfold cntD
  have h := count_one (fun i => Maps.has D (keyL (2147483648 + 4096 * i))) (fun i => Maps.has (D.put (keyL (2147483648 + 4096 * i0)) d) (keyL (2147483648 + 4096 * i))) i0 hh (Maps.has_put_same hD (by trivial) d)
    (fun i hi2 hne => Maps.has_put_other (keyL_ne (wfU (by omega)) (wfU (by omega)) (by omega)) d) (List.range 256) (fun i hi => List.mem_range.1 hi) List.nodup_range
  rw [h, if_pos (List.mem_range.2 hi)]
/-- A memory whose blocks lie in S: at block m, with the map b of contents D. -/
def MemD (S : Nat → Prop) (w : World) (m b : Nat) (D : DataW Unit) (F : Nat → Nat) : Prop :=
  m < w.heap.size ∧ S m ∧ w.cell? ⟨m, 0, none⟩ = some (.map (some b)) ∧ S b ∧ b ≠ m ∧ w.ownsMap Tryz.prog 124 pageR b (cntD D) D ∧ Laid w D F ∧
    (∀ s p, s < 18446744073709551616 → Maps.has D (keyL s) = true → D.atKey (keyL s) noneD = pageD p → S p ∧ p ≠ m ∧ p ≠ b ∧ s % 4096 = 0 ∧ 2147483648 ≤ s ∧ s < 2148532224)
def MemS (S : Nat → Prop) (w : World) (m : Nat) (F : Nat → Nat) : Prop := ∃ b D, MemD S w m b D F
theorem MemS.mem {S : Nat → Prop} {w : World} {m : Nat} {F : Nat → Nat} (h : MemS S w m F) : Mem w m F := by
  obtain ⟨b, D, h0, -, h1, -, -, h2, h3, -⟩ := h
  exact ⟨h0, b, _, D, h1, h2, h3⟩
/-- Nothing outside of S is written. -/
structure Own (S : Nat → Prop) (w w' : World) : Prop where
  os : w'.os = w.os
  tape : w'.tape = w.tape
  output : w'.output = w.output
  size : w.heap.size ≤ w'.heap.size
  block : ∀ i, i < w.heap.size → ¬ S i → w'.heap[i]? = w.heap[i]?
theorem Own.refl (S : Nat → Prop) (w : World) : Own S w w := ⟨rfl, rfl, rfl, Nat.le_refl _, fun _ _ _ => rfl⟩
theorem Own.trans {S : Nat → Prop} {a b c : World} (h : Own S a b) (k : Own S b c) : Own S a c :=
  ⟨k.os.trans h.os, k.tape.trans h.tape, k.output.trans h.output, Nat.le_trans h.size k.size, fun i hi hn => (k.block i (Nat.lt_of_lt_of_le hi h.size) hn).trans (h.block i hi hn)⟩
theorem Own.grown {S : Nat → Prop} {a b : World} {k : Nat} (h : a.grownBy b (some k)) (hk : S k) : Own S a b :=
  ⟨h.os, h.tape, h.output, h.size, fun i hi hn => h.block i hi (by intro e; injection e with e; subst e; exact hn hk)⟩
theorem Own.below {S : Nat → Prop} {a b : World} (h : Below a.heap.size a b) : Own S a b := ⟨h.os, h.tape, h.output, h.size, fun i hi _ => h.block i hi⟩
/-- What writes only elsewhere leaves a memory as it is. -/
theorem MemD.kept {S T : Nat → Prop} {w w' : World} {m b : Nat} {D : DataW Unit} {F : Nat → Nat} (h : MemD S w m b D F) (ho : Own T w w') (hd : ∀ i, S i → ¬ T i) : MemD S w' m b D F := by
  obtain ⟨h0, hm, h1, hb, hne, h2, ⟨h3, h4, h5⟩, h6⟩ := h
  have hbl : b < w.heap.size := by
    obtain ⟨es, clock, q, -⟩ := h2
    exact (Array.getElem?_eq_some_iff.1 q).1
  refine ⟨Nat.lt_of_lt_of_le h0 ho.size, hm, ?_, hb, hne, ?_, ⟨fun s hs hh => ?_, h4, h5⟩, h6⟩
  · rw [World.cell?_of_block (w := w) (a := ⟨m, 0, none⟩) (ho.block m h0 (hd m hm))]; exact h1
  · obtain ⟨es, clock, q, r⟩ := h2
    exact ⟨es, clock, by rw [ho.block b hbl (hd b hb)]; exact q, r⟩
  · obtain ⟨p, q1, q2, q3⟩ := h3 s hs hh
    have hp := (h6 s p hs hh q1).1
    have hb2 := ho.block p q2 (hd p hp)
    refine ⟨p, q1, Nat.lt_of_lt_of_le q2 ho.size, fun i hi => ⟨?_, ?_⟩⟩
    · rw [World.cell?_of_block (w := w) (a := ⟨p, i, none⟩) hb2]; exact (q3 i hi).1
    · rw [World.frozen?_of_block (w := w) (a := ⟨p, i, none⟩) hb2]; exact (q3 i hi).2
theorem MemS.kept {S T : Nat → Prop} {w w' : World} {m : Nat} {F : Nat → Nat} (h : MemS S w m F) (ho : Own T w w') (hd : ∀ i, S i → ¬ T i) : MemS S w' m F := by
  obtain ⟨b, D, h⟩ := h
  exact ⟨b, D, h.kept ho hd⟩
theorem heap_cells (g : Nat) : ∀ (vs : List Value) (o : Nat) (w : World) (i : Nat), i ≠ g → (w.setCells g o vs).heap[i]? = w.heap[i]?
  | [], _, _, _, _ => rfl
  | v :: vs, o, w, i, h => (heap_cells g vs (o + 1) _ i h).trans (Below.heap_setCell w ⟨g, o, none⟩ v i (fun e => h e))
/-- Bytes laid into a page that is named. -/
theorem MemD.lay {S : Nat → Prop} {w : World} {m b : Nat} {D : DataW Unit} {F : Nat → Nat} (h : MemD S w m b D F) (s p f t : Nat) (hs : s < 18446744073709551616) (hh : Maps.has D (keyL s) = true) (hp : D.atKey (keyL s) noneD = pageD p) (hft : f + t ≤ 4096) (R : Nat → Nat) (cs : List Value) (hcs : cs = (List.range t).map (fun i => (.int .u8 (R i : Nat) : Value))) :
    MemD S (w.setCells p f cs) m b D (fun x => if s + f ≤ x ∧ x < s + f + t then R (x - (s + f)) else F x) := by
  obtain ⟨h0, hm, h1, hb, hne, h2, ⟨h3, h4, h5⟩, h6⟩ := h
  have hl : cs.length = t := by rw [hcs]; simp
  obtain ⟨hpS, hpm, hpb, hs4, -, -⟩ := h6 s p hs hh hp
  refine ⟨by rw [size_cells]; exact h0, hm, ?_, hb, hne, ?_, ⟨fun s2 hs2 hh2 => ?_, fun s2 hs2 h40 hh2 i hi => ?_, h5⟩, h6⟩
  · rw [World.cell?_of_block (w := w) (a := ⟨m, 0, none⟩) (heap_cells p cs f w m (Ne.symm hpm))]; exact h1
  · obtain ⟨es, clock, q, r⟩ := h2
    exact ⟨es, clock, by rw [heap_cells p cs f w b (Ne.symm hpb)]; exact q, r⟩
  · obtain ⟨p2, q1, q2, q3⟩ := h3 s2 hs2 hh2
    refine ⟨p2, q1, by rw [size_cells]; exact q2, fun i hi => ⟨?_, by rw [World.frozen?_setCells]; exact (q3 i hi).2⟩⟩
    by_cases e : s2 = s
    · subst e
      obtain rfl : p2 = p := by
        have := q1.symm.trans hp
        unfold pageD at this
        simp at this
        omega
      by_cases hin : f ≤ i ∧ i < f + t
      · have := World.cell?_setCells_in p2 cs f w (fun j hj => by rw [(q3 (f + j) (by omega)).1]; rfl) (i - f) (by omega)
        rw [show f + (i - f) = i by omega] at this
        rw [this]
        show _ = some (Value.int .u8 ((if s2 + f ≤ s2 + i ∧ s2 + i < s2 + f + t then R (s2 + i - (s2 + f)) else F (s2 + i) : Nat) : Int))
        rw [if_pos (by omega), show s2 + i - (s2 + f) = i - f by omega]
        subst hcs
        simp
      · rw [World.cell?_setCells_out p2 cs f w ⟨p2, i, none⟩ (fun _ _ => by show i < f ∨ f + cs.length ≤ i; omega), (q3 i hi).1]
        show some (Value.int .u8 ((F (s2 + i) : Nat) : Int)) = some (Value.int .u8 ((if s2 + f ≤ s2 + i ∧ s2 + i < s2 + f + t then R (s2 + i - (s2 + f)) else F (s2 + i) : Nat) : Int))
        rw [if_neg (by omega)]
    · have hne2 : p2 ≠ p := by
        rintro rfl
        exact e (h5 s2 s p2 hs2 hs hh2 hh q1 hp)
      have h42 := (h6 s2 p2 hs2 hh2 q1).2.2.2.1
      rw [World.cell?_of_block (w := w) (a := ⟨p2, i, none⟩) (heap_cells p cs f w p2 hne2), (q3 i hi).1]
      show some (Value.int .u8 ((F (s2 + i) : Nat) : Int)) = some (Value.int .u8 ((if s + f ≤ s2 + i ∧ s2 + i < s + f + t then R (s2 + i - (s + f)) else F (s2 + i) : Nat) : Int))
      rw [if_neg (by omega)]
  · have hne2 : s2 ≠ s := by rintro rfl; rw [hh] at hh2; cases hh2
    show (if s + f ≤ s2 + i ∧ s2 + i < s + f + t then R (s2 + i - (s + f)) else F (s2 + i)) = 0
    rw [if_neg (by omega)]
    exact h4 s2 hs2 h40 hh2 i hi
/-- A new page of zeros is named. -/
theorem MemD.put {S : Nat → Prop} {w w' : World} {m b : Nat} {D : DataW Unit} {F : Nat → Nat} (h : MemD S w m b D F) (s i0 p : Nat) (hi : i0 < 256) (hs : s = 2147483648 + 4096 * i0) (hh : Maps.has D (keyL s) = false) (hp : PageIs w p (fun _ => 0)) (hpS : ¬ S p)
    (hst : w'.ownsMap Tryz.prog 124 pageR b (cntD D + 1) (D.put (keyL s) (pageD p))) (hmt : w.mapTurned w' b) : MemD (fun i => S i ∨ i = p) w' m b (D.put (keyL s) (pageD p)) F := by
  obtain ⟨h0, hm, h1, hb, hne, h2, ⟨h3, h4, h5⟩, h6⟩ := h
  have hg := hmt.grown
  have hD := h2.isMap
  have hpm : p ≠ m := by rintro rfl; exact hpS hm
  have hpb : p ≠ b := by rintro rfl; exact hpS hb
  have other : ∀ s2, s2 < 18446744073709551616 → s2 ≠ s → Maps.has (D.put (keyL s) (pageD p)) (keyL s2) = Maps.has D (keyL s2) ∧ (D.put (keyL s) (pageD p)).atKey (keyL s2) noneD = D.atKey (keyL s2) noneD := fun s2 hs2 e =>
    ⟨Maps.has_put_other (keyL_ne (wfU hs2) (wfU (by omega)) e) _, Maps.atKey_put_other (keyL_ne (wfU hs2) (wfU (by omega)) e) _ _⟩
  have same : (D.put (keyL s) (pageD p)).atKey (keyL s) noneD = pageD p := Maps.atKey_put_same hD (by trivial) _ _
  have inj : ∀ x y, pageD x = pageD y → x = y := fun x y e => by unfold pageD at e; simp at e; omega
  refine ⟨Nat.lt_of_lt_of_le h0 hg.size, Or.inl hm, ?_, Or.inl hb, hne, ?_, ⟨fun s2 hs2 hh2 => ?_, fun s2 hs2 h40 hh2 i hi2 => ?_, fun s2 s3 q hs2 hs3 hh2 hh3 e2 e3 => ?_⟩, fun s2 q hs2 hh2 e2 => ?_⟩
  · rw [World.cell?_of_block (w := w) (a := ⟨m, 0, none⟩) (hg.block m h0 (by intro e; injection e with e; exact hne e.symm))]; exact h1
  · rw [hs] at hh hst ⊢
    rw [cnt_put hD i0 hi hh]
    exact hst
  · by_cases e : s2 = s
    · subst e
      refine ⟨p, same, ?_⟩
      obtain ⟨q2, q3⟩ := hp.kept hg (by intro e; injection e with e; exact hpb e)
      refine ⟨q2, fun i hi3 => ⟨?_, (q3 i hi3).2⟩⟩
      have hF0 := h4 s2 hs2 (by omega) hh i hi3
      rw [(q3 i hi3).1]
      show some (Value.int .u8 ((0 : Nat) : Int)) = some (Value.int .u8 ((F (s2 + i) : Nat) : Int))
      rw [hF0]
    · obtain ⟨o1, o2⟩ := other s2 hs2 e
      rw [o1] at hh2
      rw [o2]
      obtain ⟨p2, q1, q2⟩ := h3 s2 hs2 hh2
      exact ⟨p2, q1, q2.kept hg (by intro e; injection e with e; exact (h6 s2 p2 hs2 hh2 q1).2.2.1 e)⟩
  · by_cases e : s2 = s
    · subst e
      rw [Maps.has_put_same hD (by trivial)] at hh2
      cases hh2
    · rw [(other s2 hs2 e).1] at hh2
      exact h4 s2 hs2 h40 hh2 i hi2
  · by_cases a : s2 = s
    · subst a
      rw [same] at e2
      have eq := inj _ _ e2
      subst eq
      by_cases c : s3 = s2
      · exact c.symm
      · exfalso
        obtain ⟨o1, o2⟩ := other s3 hs3 c
        rw [o1] at hh3
        rw [o2] at e3
        exact hpS (h6 s3 p hs3 hh3 e3).1
    · obtain ⟨o1, o2⟩ := other s2 hs2 a
      rw [o1] at hh2
      rw [o2] at e2
      by_cases c : s3 = s
      · subst c
        rw [same] at e3
        have eq := inj _ _ e3
        subst eq
        exact absurd (h6 s2 p hs2 hh2 e2).1 hpS
      · obtain ⟨o3, o4⟩ := other s3 hs3 c
        rw [o3] at hh3
        rw [o4] at e3
        exact h5 s2 s3 q hs2 hs3 hh2 hh3 e2 e3
  · by_cases a : s2 = s
    · subst a
      rw [same] at e2
      have eq := inj _ _ e2
      subst eq
      exact ⟨Or.inr rfl, hpm, hpb, by omega, by omega, by omega⟩
    · obtain ⟨o1, o2⟩ := other s2 hs2 a
      rw [o1] at hh2
      rw [o2] at e2
      obtain ⟨k1, k2, k3, k4⟩ := h6 s2 q hs2 hh2 e2
      exact ⟨Or.inl k1, k2, k3, k4⟩
end Go.Proofs.YthhlcchofilimaaGreatDoor.U.M
namespace Go.Proofs.YthhlcchofilimaaGreatDoor.U.M
set_option linter.unusedVariables false
set_option linter.unusedSimpArgs false
set_option maxRecDepth 20000
set_option maxRecDepth 20000
open Go.Maps Go.WideMaps Go.ChangeShapes Go.WideShapes Go.ChangeAt Go.RowKit
theorem MemD.look {S : Nat → Prop} {w : World} {m b : Nat} {D : DataW Unit} {F : Nat → Nat} (h : MemD S w m b D F) (s : Nat) (hs : s < 18446744073709551616) :
    (∃ p, Maps.has D (keyL s) = true ∧ D.atKey (keyL s) noneD = pageD p ∧ PageIs w p (fun i => F (s + i)) ∧
      (∀ j, (Instr.lookup 97 (.map (some b)) (.agg #[.int .u64 s]) true).run Tryz.prog (w.drewN j) = .ok (.tuple #[.pointer (some ⟨p, 0, none⟩), .bool true]) (w.drewN j)) ∧
      (∀ j, (Instr.lookup 97 (.map (some b)) (.agg #[.int .u64 s]) false).run Tryz.prog (w.drewN j) = .ok (.pointer (some ⟨p, 0, none⟩)) (w.drewN j))) ∨
    (Maps.has D (keyL s) = false ∧ ∀ j, (Instr.lookup 97 (.map (some b)) (.agg #[.int .u64 s]) true).run Tryz.prog (w.drewN j) = .ok (.tuple #[.pointer none, .bool false]) (w.drewN j)) := by
  obtain ⟨h0, hm, h1, hb, hne, h2, ⟨h3, h4, h5⟩, h6⟩ := h
  have own : ∀ j, (w.drewN j).ownsMap Tryz.prog 124 pageR b (cntD D) D := fun j => h2.kept (grown_below (below_drewN (Below.refl _ _) j)) (by simp)
  cases hh : Maps.has D (keyL s)
  · refine Or.inr ⟨rfl, fun j => ?_⟩
    obtain ⟨v, ps, hr, hv⟩ := (own j).look_ok lawSpot Tryz.underlying97 (zeroPage _) pageR_none (keySpot s (wfU hs))
    rw [hh] at hr
    have hn : D.atKey (keyL s) noneD = noneD := Maps.atKey_of_not_has hh _
    rw [hn] at hv
    obtain rfl := pageR_inv_none hv
    exact hr
  · obtain ⟨p, q1, q2⟩ := h3 s hs hh
    refine Or.inl ⟨p, rfl, q1, q2, fun j => ?_, fun j => ?_⟩
    · obtain ⟨v, ps, hr, hv⟩ := (own j).look_ok lawSpot Tryz.underlying97 (zeroPage _) pageR_none (keySpot s (wfU hs))
      rw [hh] at hr
      rw [q1] at hv
      obtain rfl := pageR_inv hv
      exact hr
    · obtain ⟨v, ps, hr, hv⟩ := (own j).lookup lawSpot Tryz.underlying97 (zeroPage _) pageR_none (keySpot s (wfU hs))
      rw [q1] at hv
      obtain rfl := pageR_inv hv
      exact hr
/-- A row laid over the bytes. -/
def layF (F : Nat → Nat) (a k : Nat) (R : Nat → Nat) : Nat → Nat := fun x => if a ≤ x ∧ x < a + k then R (x - a) else F x
theorem layF_zero (F : Nat → Nat) (a : Nat) (R : Nat → Nat) : layF F a 0 R = F := by
  funext x; unfold layF; rw [if_neg (by omega)]
theorem layF_more (F : Nat → Nat) (a k t s f : Nat) (R : Nat → Nat) (h : a + k = s + f) : (fun x => if s + f ≤ x ∧ x < s + f + t then R (k + (x - (s + f))) else layF F a k R x) = layF F a (k + t) R := by
  funext x
  unfold layF
  by_cases c : s + f ≤ x ∧ x < s + f + t
  · rw [if_pos c, if_pos (by omega), show k + (x - (s + f)) = x - a by omega]
  · rw [if_neg c]
    by_cases d : a ≤ x ∧ x < a + k
    · rw [if_pos d, if_pos (by omega)]
    · rw [if_neg d, if_neg (by omega)]
end Go.Proofs.YthhlcchofilimaaGreatDoor.U.M
namespace Go.Proofs.YthhlcchofilimaaGreatDoor.U.M
set_option linter.unusedVariables false
set_option linter.unusedSimpArgs false
set_option maxRecDepth 20000
set_option maxRecDepth 20000
open Go.Maps Go.WideMaps Go.ChangeShapes Go.WideShapes Go.ChangeAt Go.RowKit
def Laying (S : Nat → Prop) (w : World) (m a k : Nat) (F R : Nat → Nat) (wr : World) : Prop := ∃ S', MemS S' wr m (layF F a k R) ∧ Own S w wr ∧ ∀ i, S' i → i < wr.heap.size ∧ (S i ∨ w.heap.size ≤ i)
theorem os_cells (g : Nat) : ∀ (vs : List Value) (o : Nat) (w : World), (w.setCells g o vs).os = w.os ∧ (w.setCells g o vs).tape = w.tape ∧ (w.setCells g o vs).output = w.output
  | [], _, _ => ⟨rfl, rfl, rfl⟩
  | v :: vs, o, w => os_cells g vs (o + 1) (w.setCell ⟨g, o, none⟩ v)
theorem Own.cells {S : Nat → Prop} {w X : World} {p : Nat} (h : Own S w X) (hp : S p ∨ w.heap.size ≤ p) (f : Nat) (cs : List Value) : Own S w (X.setCells p f cs) := by
  obtain ⟨a, b, c⟩ := os_cells p cs f X
  refine ⟨a.trans h.os, b.trans h.tape, c.trans h.output, by rw [size_cells]; exact h.size, fun i hi hn => ?_⟩
  rw [heap_cells p cs f X i (by rintro rfl; rcases hp with hp | hp; exact hn hp; omega)]
  exact h.block i hi hn
theorem copy_row (p f g x l cap t : Nat) (R : Nat → Nat) (w : World) (ht : t = min l (4096 - f)) (hft : f + t ≤ 4096) (hrow : ∀ j, j < t → w.cell? ⟨g, x + j, none⟩ = some (.int .u8 (R j))) (G : Nat → Nat) (hp : PageIs w p G) :
    (Builtin.copy_ #[22, 22] 3 #[.slice (some ⟨p, f, none⟩) (4096 - f) (4096 - f), .slice (some ⟨g, x, none⟩) l cap]).run Tryz.prog w = .ok (.int .i64 t) (w.setCells p f ((List.range t).map (fun i => (.int .u8 (R i : Nat) : Value)))) := by
  have hl : ((List.range t).map (fun i => (.int .u8 (R i : Nat) : Value))).length = t := by simp
  have := run_copy_cells (P := Tryz.prog) w 22 22 3 5 p f (4096 - f) (4096 - f) ⟨g, x, none⟩ l cap ((List.range t).map (fun i => (.int .u8 (R i : Nat) : Value))) Tryz.underlying22 (by kernel_rfl) (by rw [hl]; exact ht)
    (fun j v hj => ?_) (fun j hj => by rw [(hp.2 (f + j) (by rw [hl] at hj; omega)).1]; rfl) (fun j hj => (hp.2 (f + j) (by rw [hl] at hj; omega)).2) (fun v hv => ?_)
  · rw [hl] at this; exact this
  · have hjt : j < t := by
      have := List.getElem?_eq_some_iff.1 hj
      obtain ⟨q, -⟩ := this
      rw [hl] at q; exact q
    rw [List.getElem?_map, List.getElem?_range hjt] at hj
    simp at hj
    subst hj
    have q := hrow j hjt
    by_cases hj0 : j = 0
    · subst hj0; simpa [Addr.add] using q
    · simpa [Addr.add, hj0] using q
  · simp at hv
    obtain ⟨i, -, rfl⟩ := hv
    rfl
theorem zero_page : ∃ Z : Array Value, (∀ w, (zeroValue 130).run Tryz.prog w = .ok (.agg Z) w) ∧ ∀ i, i < 4096 → Z[i]? = some (.int .u8 ((0 : Nat) : Int)) :=
  ⟨Array.replicate 4096 (.int .u8 0), fun w => by kernel_rfl, fun i hi => by rw [Array.getElem?_replicate, if_pos hi]; rfl⟩
theorem put_round {S : Nat → Prop} {w wz : World} {m g o n a k t c y : Nat} {F R : Nat → Nat} (hy : a + k = y) (hn : 2147483648 ≤ a ∧ a + n ≤ 2148532224) (hT : k + t ≤ n) (ht : 0 < t) (hnc : n ≤ c) (hX : Laying S w m a (k + t) F R wz) :
    (∃ k1 x : Nat, k1 ≤ n ∧ Value.int IntKind.u64 (IntKind.u64.wrap ((y : Int) + (t : Int))) = Value.int IntKind.u64 ((a + k1 : Nat) : Int) ∧
      Value.slice (if c - k = t then some ⟨g, o + k, none⟩ else some ⟨g, o + k + t, none⟩) (n - k - t) (c - k - t) = Value.slice (some ⟨g, x, none⟩) (n - k1) (c - k1) ∧ Hid (k1 < n → x = o + k1) ∧
      Hid (Laying S w m a k1 F R wz)) ∧ n - k - t < n - k := by
  refine ⟨⟨k + t, if c - k = t then o + k else o + k + t, hT, ?_, ?_, ?_, hX⟩, by omega⟩
  · congr 1
    rw [IntKind.wrap_u64]; omega
  · rw [Nat.sub_sub, Nat.sub_sub]
    split <;> rfl
  · show k + t < n → _
    intro h
    rw [if_neg (by omega)]; omega
set_option maxRecDepth 100000 in
set_option maxHeartbeats 2000000 in
theorem put_c (S : Nat → Prop) (m g o n c a : Nat) (F R : Nat → Nat) (w : World) (hM : Hid (MemS S w m F)) (hSb : Hid (∀ i, S i → i < w.heap.size)) (hg : Hid (g < w.heap.size ∧ ¬ S g)) (hn : Hid (2147483648 ≤ a ∧ a + n ≤ 2148532224)) (hnc : Hid (n ≤ c ∧ n < 4611686018427387904)) (hr : Hid (∀ i, i < n → w.cell? ⟨g, o + i, none⟩ = some (.int .u8 (R i)))) :
    Calls Tryz.prog 51 #[.pointer (some ⟨m, 0, none⟩), .int .u64 a, .slice (some ⟨g, o, none⟩) n c] w (fun e w' => e = .returned (.tuple #[]) ∧ Laying S w m a n F R w') := by
  go_enter Tryz.func51, Tryz.ntmps51
  go_wp2_with fail
  go_loopw [1, 2] (fun v1 v2 wr => ∃ k x : Nat, k ≤ n ∧ v1 = .int .u64 ((a + k : Nat) : Int) ∧ v2 = .slice (some ⟨g, x, none⟩) (n - k) (c - k) ∧ Hid (k < n → x = o + k) ∧ Hid (Laying S w m a k F R wr)) (fun _ v2 _ => match v2 with | .slice _ l _ => l | _ => 0)
  case atStart =>
    exact ⟨0, o, by omega, rfl, rfl, fun _ => rfl, S, by rw [layF_zero]; exact hM.out, Own.refl _ _, fun _ h => ⟨hSb.out _ h, Or.inl h⟩⟩
  case round =>
    obtain ⟨k, x, hk, rfl, rfl, hx, hL⟩ := hrel
    by_cases hlt : k < n
    · obtain rfl : x = o + k := hx.out hlt
      have hlt' : (0 : Int) < ((n - k : Nat) : Int) := by omega
      obtain ⟨S', ⟨b, D, hD⟩, hO, hS⟩ := hL.out
      have HD := Lib.hid hD; have HO := Lib.hid hO; have HS := Lib.hid hS
      clear hD hO hS
      obtain ⟨f, hf⟩ : ∃ f, (a + k) % 4096 = f := ⟨_, rfl⟩
      obtain ⟨s, hs⟩ : ∃ s, (a + k) / 4096 * 4096 = s := ⟨_, rfl⟩
      have hak : Hid (a + k = s + f) := by show _ = _; omega
      have hs1 : Hid (s % 4096 = 0 ∧ s < 18446744073709551616 ∧ f < 4096 ∧ a + k < 18446744073709551616) := ⟨by omega, by have := hn.out; omega, by omega, by have := hn.out; omega⟩
      obtain ⟨y, hy⟩ : ∃ y, a + k = y := ⟨_, rfl⟩
      have hyx : Hid (a + k = y) := hy
      rw [hy] at hf hs
      go_wp2_with fail
      refine (find_n y s f (Lib.hid (by have h := hs1.out.2.2.2; have := hyx.out; omega)) hs hf _).mono ?_; rintro e w1 ⟨rfl, hb1⟩
      have HB1 := Lib.hid hb1
      have HD1 : Hid (MemD S' (w1.alloc (Obj.cells #[.int .u64 s] 124)) m b D (layF F a k R)) := HD.out.kept (T := fun _ => False) (Own.below (hb1.alloc hb1.size _)) (fun _ _ h => h)
      clear hs hf hb1 hy
      have hcb := HD1.out.2.2.1
      have hmb : ¬ m = w1.heap.size := by
        have h1 := HD.out.1; have h2 := HB1.out.size; omega
      have hmb' : ¬ w1.heap.size = m := by omega
      rcases HD1.out.look s hs1.out.2.1 with ⟨p, hh, hp, hpg, hl, hl2⟩ | ⟨hh, hl⟩
      · have HH := Lib.hid hh; have HP := Lib.hid hp; have HG := Lib.hid hpg
        clear hh hp hpg
        go_wp2_with fail
        go_quiet (fail)
        go_wp2_with fail
        obtain ⟨t, ht⟩ : ∃ t, t = min (n - k) (4096 - f) := ⟨_, rfl⟩
        have HT : Hid (f + t ≤ 4096 ∧ k + t ≤ n ∧ 0 < t) := by have := hs1.out.2.2.1; show _ ∧ _ ∧ _; omega
        have hx1 : Below wr.heap.size wr ((w1.alloc (Obj.cells #[.int .u64 s] 124)).drewN (nq + 1)) := below_drewN (HB1.out.alloc HB1.out.size _) _
        have hd2 : MemD S' ((w1.alloc (Obj.cells #[.int .u64 s] 124)).drewN (nq + 1)) m b D (layF F a k R) := HD.out.kept (T := fun _ => False) (Own.below hx1) (fun _ _ h => h)
        have hpg2 : PageIs ((w1.alloc (Obj.cells #[.int .u64 s] 124)).drewN (nq + 1)) p (fun i => layF F a k R (s + i)) := HG.out.kept (grown_below (below_drewN (Below.refl _ _) _)) (by simp)
        have how : Own S w ((w1.alloc (Obj.cells #[.int .u64 s] 124)).drewN (nq + 1)) := HO.out.trans (Own.below hx1)
        have hsx := hx1.size
        have hcp := copy_row p f g (o + k) (n - k) (c - k) t (fun i => R (k + i)) ((w1.alloc (Obj.cells #[.int .u64 s] 124)).drewN (nq + 1)) ht HT.out.1 (fun j hj => by
          rw [World.cell?_of_block (w := w) (a := ⟨g, o + k + j, none⟩) (how.block g hg.out.1 hg.out.2), Nat.add_assoc]
          exact hr.out (k + j) (by have := HT.out.2.1; omega)) _ hpg2
        have HX : Hid (Laying S w m a (k + t) F R (((w1.alloc (Obj.cells #[.int .u64 s] 124)).drewN (nq + 1)).setCells p f ((List.range t).map (fun i => (.int .u8 (R (k + i) : Nat) : Value))))) := by
          have h := hd2.lay s p f t hs1.out.2.1 HH.out HP.out HT.out.1 (fun i => R (k + i)) _ rfl
          have e := layF_more F a k t s f R hak.out
          refine ⟨S', ⟨b, D, ?_⟩, how.cells (HS.out p (hd2.2.2.2.2.2.2.2 s p hs1.out.2.1 HH.out HP.out).1).2 _ _, fun i hi => ⟨by rw [size_cells]; exact Nat.lt_of_lt_of_le (HS.out i hi).1 hsx, (HS.out i hi).2⟩⟩
          rw [← e]; exact h
        clear hx1 hd2 hpg2 how hsx
        have HTT := Lib.hid ht
        clear ht
        have f1 : (f : Int) ≤ 4096 := by have := hs1.out.2.2.1; omega
        have nf : ¬ (4096 = f) := by have := hs1.out.2.2.1; omega
        have t1 : (t : Int) ≤ ((n - k : Nat) : Int) := by have := HT.out.2.1; omega
        go_region
        go_wp2_with fail
        rw [show IntKind.u64.wrap (t : Int) = (t : Int) by rw [IntKind.wrap_u64]; have := HT.out.1; omega]
        exact put_round hyx.out hn.out HT.out.2.1 HT.out.2.2 hnc.out.1 HX.out
      · have HH := Lib.hid hh
        clear hh
        go_wp2_with fail
        go_quiet (fail)
        go_wp2_with fail
        obtain ⟨Z, hZ, hZ2⟩ := zero_page
        have HZ2 := Lib.hid hZ2
        clear hZ2
        have hsz : ((w1.alloc (Obj.cells #[.int .u64 s] 124)).drewN (nq + 1)).heap.size = w1.heap.size + 1 := by rw [sz_drewN, sz_alloc]
        have hx0 : Below wr.heap.size wr (((w1.alloc (Obj.cells #[.int .u64 s] 124)).drewN (nq + 1)).alloc (Obj.cells Z 130)) := Below.alloc (below_drewN (HB1.out.alloc HB1.out.size _) _) (by rw [hsz]; have := HB1.out.size; omega) _
        have hd1 : MemD S' (((w1.alloc (Obj.cells #[.int .u64 s] 124)).drewN (nq + 1)).alloc (Obj.cells Z 130)) m b D (layF F a k R) := HD.out.kept (T := fun _ => False) (Own.below hx0) (fun _ _ h => h)
        have hpg : PageIs (((w1.alloc (Obj.cells #[.int .u64 s] 124)).drewN (nq + 1)).alloc (Obj.cells Z 130)) (w1.heap.size + 1) (fun _ => 0) := by
          refine ⟨by rw [sz_alloc, hsz]; omega, fun i hi => ⟨?_, ?_⟩⟩
          · rw [World.cell?_alloc_at _ _ _ _ hsz.symm]; exact HZ2.out i hi
          · rw [World.frozen?_alloc_at _ _ _ _ hsz.symm]
        obtain ⟨w2, hrun, hst, hmt⟩ := hd1.2.2.2.2.2.1.store lawSpot Tryz.underlying97 (Nat.lt_of_le_of_lt (cnt_le D) (by decide)) (keySpot s (wfU hs1.out.2.1)) (pageR_mk (w1.heap.size + 1))
        have hrun' : (Instr.mapUpdate 97 (.map (some b)) (.agg #[.int .u64 s]) (.pointer (some ⟨w1.heap.size + 1, 0, none⟩))).run Tryz.prog (((w1.alloc (Obj.cells #[.int .u64 s] 124)).drewN (nq + 1)).alloc (Obj.cells Z 130)) = .ok () w2 := hrun
        clear hrun
        have hc1 : (((w1.alloc (Obj.cells #[.int .u64 s] 124)).drewN (nq + 1)).alloc (Obj.cells Z 130)).cell? ⟨m, 0, none⟩ = some (.map (some b)) := hd1.2.2.1
        have hmc : ¬ m = w1.heap.size + 1 := by have h1 := HD.out.1; have h2 := HB1.out.size; omega
        have hmc' : ¬ w1.heap.size + 1 = m := by omega
        have hnn : ¬ w1.heap.size = w1.heap.size + 1 := by omega
        have HH1 := Lib.hid hd1; have HP1 := Lib.hid hpg; have HX0 := Lib.hid hx0
        clear hd1 hpg hx0
        go_region
        have hg2 := hmt.grown
        obtain ⟨i0, hi0, hsi⟩ : ∃ i0, i0 < 256 ∧ s = 2147483648 + 4096 * i0 := ⟨(s - 2147483648) / 4096, by have := hs1.out; have := hak.out; have := hn.out; omega, by have := hs1.out; have := hak.out; have := hn.out; omega⟩
        have hnS : ¬ S' (w1.heap.size + 1) := fun h => by have := (HS.out _ h).1; have := HB1.out.size; omega
        have hd3 := HH1.out.put s i0 (w1.heap.size + 1) hi0 hsi HH.out HP1.out hnS hst hmt
        clear hsi hi0
        have hbl : b < w1.heap.size := by
          obtain ⟨es, clock, q, -⟩ := HD.out.2.2.2.2.2.1
          have := (Array.getElem?_eq_some_iff.1 q).1
          exact Nat.lt_of_lt_of_le this HB1.out.size
        have hsz2 := hg2.size
        rw [sz_alloc, hsz] at hsz2
        have hsp : w2.cell? ⟨w1.heap.size, 0, none⟩ = some (.int .u64 s) := by
          rw [World.cell?_of_block (w := (((w1.alloc (Obj.cells #[.int .u64 s] 124)).drewN (nq + 1)).alloc (Obj.cells Z 130))) (a := ⟨w1.heap.size, 0, none⟩) (hg2.block w1.heap.size (by rw [sz_alloc, hsz]; omega) (by intro e; injection e with e; omega))]
          rw [(Below.alloc (Below.refl ((w1.alloc (Obj.cells #[.int .u64 s] 124)).drewN (nq + 1)).heap.size ((w1.alloc (Obj.cells #[.int .u64 s] 124)).drewN (nq + 1))) (Nat.le_refl _) (Obj.cells Z 130)).cell (p := ⟨w1.heap.size, 0, none⟩) (by show w1.heap.size < _; rw [hsz]; omega)]
          show (w1.alloc (Obj.cells #[.int .u64 s] 124)).cell? ⟨w1.heap.size, 0, none⟩ = _
          rw [World.cell?_alloc_at _ _ _ _ rfl]; rfl
        have hcb2 := hd3.2.2.1
        have hnew : Maps.has (D.put (keyL s) (pageD (w1.heap.size + 1))) (keyL s) = true := Maps.has_put_same HH1.out.2.2.2.2.2.1.isMap (by trivial) _
        rcases hd3.look s hs1.out.2.1 with ⟨p, hh', hp, hpg', -, hl2⟩ | ⟨hh', -⟩
        · have HH2 := Lib.hid hh'; have HP := Lib.hid hp; have HG := Lib.hid hpg'
          have hl3 : (Instr.lookup 97 (.map (some b)) (.agg #[.int .u64 s]) false).run Tryz.prog w2.drew = .ok (.pointer (some ⟨p, 0, none⟩)) w2.drew := hl2 1
          clear hh' hp hpg' hl2 hnew
          obtain ⟨t, ht⟩ : ∃ t, t = min (n - k) (4096 - f) := ⟨_, rfl⟩
          have HT : Hid (f + t ≤ 4096 ∧ k + t ≤ n ∧ 0 < t) := by have := hs1.out.2.2.1; show _ ∧ _ ∧ _; omega
          have hd2 := hd3.kept (T := fun _ => False) (w' := w2.drew) (Own.below (below_drewN (Below.refl _ _) 1)) (fun _ _ h => h)
          have hpg2 : PageIs w2.drew p (fun i => layF F a k R (s + i)) := HG.out.kept (grown_below (below_drewN (Below.refl _ _) 1)) (by simp)
          have h01 := HO.out.trans (Own.below HX0.out)
          have hbS := (HS.out b HD.out.2.2.2.1).2
          have how : Own S w w2.drew := ⟨hg2.os.trans h01.os, hg2.tape.trans h01.tape, hg2.output.trans h01.output, Nat.le_trans h01.size hg2.size, fun i hi hnS' => (hg2.block i (Nat.lt_of_lt_of_le hi h01.size) (by intro e; injection e with e; subst e; rcases hbS with q | q; exact hnS' q; omega)).trans (h01.block i hi hnS')⟩
          have hcp := copy_row p f g (o + k) (n - k) (c - k) t (fun i => R (k + i)) w2.drew ht HT.out.1 (fun j hj => by
            rw [World.cell?_of_block (w := w) (a := ⟨g, o + k + j, none⟩) (how.block g hg.out.1 hg.out.2), Nat.add_assoc]
            exact hr.out (k + j) (by have := HT.out.2.1; omega)) _ hpg2
          have HX : Hid (Laying S w m a (k + t) F R (w2.drew.setCells p f ((List.range t).map (fun i => (.int .u8 (R (k + i) : Nat) : Value))))) := by
            have h := hd2.lay s p f t hs1.out.2.1 HH2.out HP.out HT.out.1 (fun i => R (k + i)) _ rfl
            have e := layF_more F a k t s f R hak.out
            have hin : ∀ i, (S' i ∨ i = w1.heap.size + 1) → i < w2.heap.size ∧ (S i ∨ w.heap.size ≤ i) := fun i hi => by
              rcases hi with hi | rfl
              · obtain ⟨q1, q2⟩ := HS.out i hi
                exact ⟨by have := HB1.out.size; omega, q2⟩
              · exact ⟨by omega, Or.inr (by have q1 : w.heap.size ≤ wr.heap.size := HO.out.size; have q2 : wr.heap.size ≤ w1.heap.size := HB1.out.size; omega)⟩
            have hpS := (hd2.2.2.2.2.2.2.2 s p hs1.out.2.1 HH2.out HP.out).1
            have hlay : MemS (fun i => S' i ∨ i = w1.heap.size + 1) (w2.drew.setCells p f ((List.range t).map (fun i => (.int .u8 (R (k + i) : Nat) : Value)))) m (layF F a (k + t) R) := by
              refine ⟨b, D.put (keyL s) (pageD (w1.heap.size + 1)), ?_⟩
              rw [← e]; exact h
            exact ⟨fun i => S' i ∨ i = w1.heap.size + 1, hlay, how.cells (hin p hpS).2 f _, fun i hi => ⟨by rw [size_cells]; exact (hin i hi).1, (hin i hi).2⟩⟩
          have HHc := Lib.hid hcb2; have HHs := Lib.hid hsp
          clear hd2 hpg2 how hd3 hst hmt hrun' hc1 hg2 h01 hbS hZ hsz hsz2 hbl hl hcb
          have HTT := Lib.hid ht
          clear ht
          have f1 : (f : Int) ≤ 4096 := by have := hs1.out.2.2.1; omega
          have nf : ¬ (4096 = f) := by have := hs1.out.2.2.1; omega
          have t1 : (t : Int) ≤ ((n - k : Nat) : Int) := by have := HT.out.2.1; omega
          go_wp2_with fail
          go_region
          go_wp2_with fail
          rw [show IntKind.u64.wrap (t : Int) = (t : Int) by rw [IntKind.wrap_u64]; have := HT.out.1; omega]
          exact put_round hyx.out hn.out HT.out.2.1 HT.out.2.2 hnc.out.1 HX.out
        · rw [hnew] at hh'
          cases hh'
    · obtain rfl : k = n := by omega
      have hlt' : ¬ ((0 : Int) < ((k - k : Nat) : Int)) := by omega
      go_wp2_with fail
      go_end0
      exact ⟨rfl, hL.out⟩
end Go.Proofs.YthhlcchofilimaaGreatDoor.U.M
namespace Go.Proofs.YthhlcchofilimaaGreatDoor.U.M
set_option linter.unusedVariables false
set_option linter.unusedSimpArgs false
set_option maxRecDepth 20000
set_option maxRecDepth 20000
open Go.Maps Go.WideMaps Go.ChangeShapes Go.WideShapes Go.ChangeAt Go.RowKit
/-- A number's byte. -/
def byteV (v i : Nat) : Nat := v / 256 ^ i % 256
/-- The row: the first k bytes of the number stand, the others are 0. -/
def RowW (B g v k : Nat) (W w : World) : Prop := Below B W w ∧ g < w.heap.size ∧ ∀ i, i < 8 → w.cell? ⟨g, i, none⟩ = some (.int .u8 (if i < k then byteV v i else 0 : Nat)) ∧ w.frozen? ⟨g, i, none⟩ = false
theorem RowW.next {B g v k : Nat} {W w : World} (h : RowW B g v k W w) (hB : B ≤ g) (hk : k < 8) (u : Value) (hu : u = .int .u8 (byteV v k : Nat)) : RowW B g v (k + 1) W (w.setCell ⟨g, k, none⟩ u) := by
  obtain ⟨h1, h2, h3⟩ := h
  refine ⟨Below.setCell h1 hB _, by rw [sz_set]; exact h2, fun i hi => ⟨?_, by rw [World.frozen?_setCell]; exact (h3 i hi).2⟩⟩
  by_cases e : i = k
  · subst e
    rw [World.cell?_setCell_same _ _ _ (by rw [(h3 i hi).1]), if_pos (Nat.lt_succ_self _)]; exact congrArg some hu
  · rw [World.cell?_setCell_other _ _ _ _ (by intro q; injection q with q1 q2; exact e q2.symm), (h3 i hi).1]
    by_cases c : i < k
    · rw [if_pos c, if_pos (by omega)]
    · rw [if_neg c, if_neg (by omega)]
end Go.Proofs.YthhlcchofilimaaGreatDoor.U.M
