/- The contract of a row's holds. -/
import Derived.Test.YtcfeeookjgdkmaaDoorB5
namespace Go.Proofs.YtcfeeookjgdkmaaDoor
open Go.ChangeShapes Go.WideShapes Go.ChangeAt Go.RowKit Go.Sort
set_option linter.unusedVariables false
set_option linter.unusedSimpArgs false
theorem beq_cast (x y : Nat) : ((x : Int) == (y : Int)) = Nat.beq x y := by
  cases hb : Nat.beq x y with
  | true => rw [Nat.eq_of_beq_eq_true hb]; simp
  | false => rw [beq_eq_false_iff_ne]; intro e; rw [show x = y by omega, Nat.beq_refl] at hb; cases hb
def cellsS (r : SRow) : Array Value := #[.int .u16 r.mask, .int .u16 r.mat, .int .u16 r.some, .int .u32 r.base, .int .u8 r.names, .int .u8 r.imm, .int .u8 r.form]
theorem holds_c (r : SRow) (hr : Hid (OkS r)) (h : Nat) (hh : Hid (h < 65536)) (w : World) : Calls Tryd.prog 21 #[.agg (cellsS r), .int .u16 h] w (RetB (holdsB r h) w) := by
  obtain ⟨m, mt, s, b, k, i, f⟩ := r
  have e1 : bits .and .u16 (h : Int) (m : Int) = ((h &&& m : Nat) : Int) := u16_and_nat h m hh.out hr.out.1
  have e2 : bits .and .u16 (h : Int) (s : Int) = ((h &&& s : Nat) : Int) := u16_and_nat h s hh.out hr.out.2.2.1
  have HB : ∀ x y z : Bool, Nat.beq (Nat.land h m) mt = x → Nat.beq s 0 = y → Nat.beq (Nat.land h s) 0 = z → holdsB ⟨m, mt, s, b, k, i, f⟩ h = (x && (y || !z)) := fun x y z h1 h2 h3 => by unfold holdsB; rw [h1, h2, h3]
  show Calls Tryd.prog 21 #[.agg #[.int .u16 m, .int .u16 mt, .int .u16 s, .int .u32 b, .int .u8 k, .int .u8 i, .int .u8 f], .int .u16 h] w _
  cases c1 : Nat.beq (Nat.land h m) mt <;> cases c2 : Nat.beq s 0 <;> cases c3 : Nat.beq (Nat.land h s) 0
  all_goals
    have HV := Lib.hid (HB _ _ _ c1 c2 c3)
    have f1 : (bits .and .u16 (h : Int) (m : Int) == (mt : Int)) = Nat.beq (h &&& m) mt := by rw [e1]; exact beq_cast _ _
    have f2 : ((s : Int) == 0) = Nat.beq s 0 := beq_cast s 0
    have f3 : (bits .and .u16 (h : Int) (s : Int) != 0) = !Nat.beq (h &&& s) 0 := by rw [e2, bne]; exact congrArg (!·) (beq_cast _ 0)
    rw [show Nat.beq (h &&& m) mt = _ from c1] at f1
    rw [c2] at f2
    rw [show Nat.beq (h &&& s) 0 = _ from c3] at f3
    clear HB c1 c2 c3 e1 e2
    go_enter Tryd.func21, Tryd.ntmps21
    go_wp2_with fail
    go_ret
    exact retB_mk (by rw [HV.out]; rfl) (by repeat (first | (with_reducible first | exact Below.refl _ _ | assumption | exact Nat.le_refl _ | refine Below.drew ?_ | refine Below.alloc ?_ ?_ _ | refine Below.setCell ?_ ?_ _ | refine le_alloc ?_ | refine le_set ?_ | refine le_drew ?_ | refine below_step (by assumption) ?_ ?_ | refine le_below (by assumption) ?_) | (dsimp only; omega)))
end Go.Proofs.YtcfeeookjgdkmaaDoor
