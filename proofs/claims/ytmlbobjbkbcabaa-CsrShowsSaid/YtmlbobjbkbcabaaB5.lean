/- Read, counters, May. -/
import Derived.Test.YtmlbobjbkbcabaaB4
namespace Go.Proofs.Ytmlbobjbkbcabaa
open Go.ChangeShapes Go.WideShapes Go.ChangeAt Go.RowKit P
set_option linter.unusedVariables false
set_option linter.unusedSimpArgs false
set_option maxRecDepth 100000 in
theorem read_c (S : Nat → Nat) (n : Int) (lines now : Nat) (hS : Hid (OkS S)) (hl : Hid (lines < 18446744073709551616)) (w : World) : Calls Try.prog 14 #[.agg (cs S), .int .i64 n, .int .u64 lines, .int .u64 now] w (RetU (rdF S n lines now) w) := by
  have R : Hid (Row (w.alloc (Obj.cells (cs S) 26)) w.heap.size 26 (cs S)) := row_new _ _ _
  have HB : Hid (Below w.heap.size w (w.alloc (Obj.cells (cs S) 26))) := by show Below _ _ _; exact (by repeat (first | (with_reducible first | exact Below.refl _ _ | assumption | exact Nat.le_refl _ | refine Below.drew ?_ | refine Below.alloc ?_ ?_ _ | refine Below.setCell ?_ ?_ _ | refine le_alloc ?_ | refine le_set ?_ | refine le_drew ?_ | refine below_step (by assumption) ?_ ?_ | refine le_below (by assumption) ?_) | (dsimp only; omega)))
  have HL := Lib.hid (look_c w.heap.size S n lines now hS hl _ R)
  go_enter Try.func14, Try.ntmps14
  go_wp2_with fail
  refine HL.out.mono ?_; rintro e w1 ⟨rfl, hb⟩
  replace HB := Lib.hid (below_step hb HB.out HB.out.size)
  clear hb
  go_wp2_with fail
  go_ret
  exact retU_mk rfl HB.out
/-- Which counters may be read in a mode. -/
def ctrN (S : Nat → Nat) (m : Int) : Nat := if m = 0 then S 19 &&& S 10 else if m = 1 then S 10 else 18446744073709551615
theorem ones_and (x : Nat) (hx : x < 18446744073709551616) : bits .and .u64 18446744073709551615 (x : Int) = (x : Int) := by
  have h := u_and 18446744073709551615 x (by decide) hx
  rw [Nat.and_comm, show (18446744073709551615 : Nat) = 2 ^ 64 - 1 from rfl, Nat.and_two_pow_sub_one_eq_mod, Nat.mod_eq_of_lt hx] at h
  exact h
theorem counters_0 (b : Nat) (S : Nat → Nat) (hS : Hid (OkS S)) (w : World) (R : Hid (Row w b 26 (cs S))) : Calls Try.prog 28 #[.pointer (some ⟨b, 0, none⟩), .int .i64 0] w (RetU (ctrN S 0) w) := by
  have c1 : w.cell? ⟨b, 19, none⟩ = some (.int .u64 (S 19 : Nat)) := R.out.cell 19
  have c2 : w.cell? ⟨b, 10, none⟩ = some (.int .u64 (S 10 : Nat)) := R.out.cell 10
  have a1 := Lib.hid (u_and (S 19) (S 10) (hS.out.u 19 (by decide)) (hS.out.u 10 (by decide)))
  go_enter Try.func28, Try.ntmps28
  go_wp2_with fail
  go_ret
  exact retU_mk a1.out (by repeat (first | (with_reducible first | exact Below.refl _ _ | assumption | exact Nat.le_refl _ | refine Below.drew ?_ | refine Below.alloc ?_ ?_ _ | refine Below.setCell ?_ ?_ _ | refine le_alloc ?_ | refine le_set ?_ | refine le_drew ?_ | refine below_step (by assumption) ?_ ?_ | refine le_below (by assumption) ?_) | (dsimp only; omega)))
theorem counters_1 (b : Nat) (S : Nat → Nat) (hS : Hid (OkS S)) (w : World) (R : Hid (Row w b 26 (cs S))) : Calls Try.prog 28 #[.pointer (some ⟨b, 0, none⟩), .int .i64 1] w (RetU (ctrN S 1) w) := by
  have c2 : w.cell? ⟨b, 10, none⟩ = some (.int .u64 (S 10 : Nat)) := R.out.cell 10
  have a1 := ones_and (S 10) (hS.out.u 10 (by decide))
  go_enter Try.func28, Try.ntmps28
  go_wp2_with fail
  go_ret
  exact retU_mk rfl (by repeat (first | (with_reducible first | exact Below.refl _ _ | assumption | exact Nat.le_refl _ | refine Below.drew ?_ | refine Below.alloc ?_ ?_ _ | refine Below.setCell ?_ ?_ _ | refine le_alloc ?_ | refine le_set ?_ | refine le_drew ?_ | refine below_step (by assumption) ?_ ?_ | refine le_below (by assumption) ?_) | (dsimp only; omega)))
theorem counters_3 (b : Nat) (S : Nat → Nat) (hS : Hid (OkS S)) (w : World) (R : Hid (Row w b 26 (cs S))) : Calls Try.prog 28 #[.pointer (some ⟨b, 0, none⟩), .int .i64 3] w (RetU (ctrN S 3) w) := by
  go_enter Try.func28, Try.ntmps28
  go_wp2_with fail
  go_ret
  exact retU_mk rfl (by repeat (first | (with_reducible first | exact Below.refl _ _ | assumption | exact Nat.le_refl _ | refine Below.drew ?_ | refine Below.alloc ?_ ?_ _ | refine Below.setCell ?_ ?_ _ | refine le_alloc ?_ | refine le_set ?_ | refine le_drew ?_ | refine below_step (by assumption) ?_ ?_ | refine le_below (by assumption) ?_) | (dsimp only; omega)))
theorem taken_cases (m : Int) : takenN m = 0 ∨ takenN m = 1 ∨ takenN m = 3 := by
  unfold takenN
  by_cases h : m = 3
  · rw [if_pos h]; simp
  · rw [if_neg h]
    by_cases h : m = 1
    · rw [if_pos h]; simp
    · rw [if_neg h]; simp
theorem counters_c (b : Nat) (S : Nat → Nat) (m : Int) (hS : Hid (OkS S)) (w : World) (R : Hid (Row w b 26 (cs S))) : Calls Try.prog 28 #[.pointer (some ⟨b, 0, none⟩), .int .i64 (takenN m)] w (RetU (ctrN S (takenN m)) w) := by
  rcases taken_cases m with h | h | h <;> rw [h]
  · exact counters_0 b S hS w R
  · exact counters_1 b S hS w R
  · exact counters_3 b S hS w R
theorem ctr_lt (S : Nat → Nat) (m : Int) (hS : OkS S) : ctrN S m < 18446744073709551616 := by
  unfold ctrN
  by_cases h : m = 0
  · rw [if_pos h]; exact and_lt _ _ (hS.u 19 (by decide))
  · rw [if_neg h]
    by_cases h : m = 1
    · rw [if_pos h]; exact hS.u 10 (by decide)
    · rw [if_neg h]; decide
/-- What besides decides who may touch a register. -/
def ctrB (S : Nat → Nat) (m n : Int) : Bool := ctrN S m / 2 ^ (n - 3072).toNat % 2 == 1
def moreB (S : Nat → Nat) (m n : Int) : Bool := if inB n 1 3 = true then !((S 0 &&& 24576) == 0) else if n = 384 then m == 3 || (S 0 &&& 1048576) == 0 else if inB n 3072 3103 = true then ctrB S m n else true
def noB (m n : Int) (write : Bool) : Bool := !thereB n || (decide (m < lowI n) || (write && fixB n))
def mayF (S : Nat → Nat) (mode n : Int) (write : Bool) : Bool := if noB (takenN mode) n write = true then false else moreB S (takenN mode) n
theorem and31 (n : Int) (h : inB n 3072 3103 = true) : bits .and .i64 n 31 = ((n - 3072).toNat : Int) ∧ (n - 3072).toNat < 32 := by
  unfold inB at h
  simp only [Bool.and_eq_true, decide_eq_true_eq] at h
  have h1 : ∀ j : Fin 32, bits .and .i64 (3072 + (j.val : Int)) 31 = (j.val : Int) := by decide +kernel
  have h2 := h1 ⟨(n - 3072).toNat, by omega⟩
  have e : (3072 : Int) + ((n - 3072).toNat : Int) = n := by omega
  refine ⟨?_, by omega⟩
  rw [← e]
  rw [show (3072 + ((n - 3072).toNat : Int) - 3072).toNat = (n - 3072).toNat by omega]
  exact h2
theorem shr_bit (x j : Nat) (hx : x < 18446744073709551616) : bits .and .u64 ((x : Int) / 2 ^ j) 1 = ((x / 2 ^ j % 2 : Nat) : Int) := by
  have e : (x : Int) / 2 ^ j = ((x / 2 ^ j : Nat) : Int) := by simp
  rw [e]
  have h := u_and (x / 2 ^ j) 1 (Nat.lt_of_le_of_lt (Nat.div_le_self _ _) hx) (by decide)
  rw [Nat.and_one_is_mod] at h
  exact h
end Go.Proofs.Ytmlbobjbkbcabaa
