/- The document's bus: its memory, through every call that writes nothing. -/
import Derived.Test.YthhlcchofilimaaGreatDoorR1
import Derived.Test.YthhlcchofilimaaGreatDoorUSH
namespace Go.Proofs.YthhlcchofilimaaGreatDoor
open Go.ChangeShapes Go.WideShapes Go.ChangeAt Go.RowKit Go.Sort Y
set_option linter.unusedVariables false
set_option linter.unusedSimpArgs false

/-- The document's bus stands at a block; its memory at another one. -/
def RAt (r mm : Nat) (F : Nat → Nat) (w : World) : Prop := ∃ (R W : U.M.Fp) (u : World) (c p ub : Nat) (v : Value) (L : List U.Ev) (came : Nat) (B : U.Bs), U.M.Grp R W u (U.rl r mm c p ub v L came B) w ∧ B.F = F
theorem RAt.below {r mm : Nat} {F : Nat → Nat} {w w1 : World} (h : RAt r mm F w) (hb : Below w.heap.size w w1) : RAt r mm F w1 := by
  obtain ⟨R, W, u, c, p, ub, v, L, came, B, g, e⟩ := h
  exact ⟨R, W, u, c, p, ub, v, L, came, B, g.below hb, e⟩
theorem RAt.cell {r mm : Nat} {F : Nat → Nat} {w : World} (h : RAt r mm F w) : w.cell? ⟨r, 0, none⟩ = some (.pointer (some ⟨mm, 0, none⟩)) := by
  obtain ⟨R, W, u, c, p, ub, v, L, came, B, g, e⟩ := h
  exact (U.rcells g).c0
theorem RAt.of {r : Nat} {B : U.Bs} {R W : U.M.Fp} {w : World} (q : (U.eRB r B).P R W w) : ∃ mm, RAt r mm B.F w := by
  obtain ⟨m, c, p, u, v, L, came, hc, g, h5, h6⟩ := U.rb_open q
  exact ⟨m, R, W, w, c, p, u, v, L, came, B, g, rfl⟩
theorem RAt.lt256 {r mm : Nat} {F : Nat → Nat} {w : World} (h : RAt r mm F w) : True := trivial
theorem rat_plain {r mm : Nat} {F : Nat → Nat} {w : World} (h : RAt r mm F w) (x : Nat) (z : Int) (hx : x < 18446744073709551616) : Calls Tryz.prog 40 #[.pointer (some ⟨r, 0, none⟩), .int .u64 x, .int .i64 z] w (RetB (U.M.hasV x z) w) := by
  have c0 := h.cell
  have hh := Lib.hid (U.M.hasr_c (.pointer (some ⟨mm, 0, none⟩)) x z (Lib.hid hx) w)
  clear h hx
  generalize U.M.hasV x z = bb at *
  go_enter Tryz.func40, Tryz.ntmps40
  go_wp2_with fail
  refine hh.out.mono ?_; rintro e w1 ⟨rfl, hb1⟩
  go_wp2_with fail
  go_ret
  exact ⟨rfl, hb1⟩
theorem rat_read {r mm : Nat} {F : Nat → Nat} {w : World} (h : RAt r mm F w) (x : Nat) (z : Int) (hx : x < 18446744073709551616) : Calls Tryz.prog 42 #[.pointer (some ⟨mm, 0, none⟩), .int .u64 x, .int .i64 z] w (RetRE (U.M.readV F x z) (U.M.hasV x z) w) := by
  obtain ⟨R, W, u, c, p, ub, v, L, came, B, g, rfl⟩ := h
  obtain ⟨_, _, e, qm⟩ := g.get 4 rfl
  exact U.M.readr_c _ mm x z B.F w (Lib.hid qm) (Lib.hid hx)
theorem faultr_c (k : Int) (w : World) : Calls Tryz.prog 41 #[.int .i64 k] w (RetUX (faultN k) w) := by
  by_cases h0 : k = 0
  · subst h0
    go_enter Tryz.func41, Tryz.ntmps41
    go_wp2_with fail
    go_ret
    exact retUX_mk rfl
  by_cases h2 : k = 2
  · subst h2
    go_enter Tryz.func41, Tryz.ntmps41
    go_wp2_with fail
    go_ret
    exact retUX_mk rfl
  by_cases h3 : k = 3
  · subst h3
    go_enter Tryz.func41, Tryz.ntmps41
    go_wp2_with fail
    go_ret
    exact retUX_mk rfl
  have e0 : (k == 0) = false := by simpa using h0
  have e2 : (k == 2) = false := by simpa using h2
  have e3 : (k == 3) = false := by simpa using h3
  have e : Hid (faultN k = 5) := by show _ = _; unfold faultN; rw [if_neg h0, if_neg (by omega)]
  clear h0 h2 h3
  go_enter Tryz.func41, Tryz.ntmps41
  go_wp2_with fail
  go_ret
  exact retUX_mk (congrArg Nat.cast e.out.symm)
end Go.Proofs.YthhlcchofilimaaGreatDoor
