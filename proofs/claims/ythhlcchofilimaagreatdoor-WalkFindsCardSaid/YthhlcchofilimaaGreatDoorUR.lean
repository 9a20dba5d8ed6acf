/- Taken from other texts: what is needed of them. -/
import Derived.Test.YthhlcchofilimaaGreatDoorUA
import Derived.Test.YthhlcchofilimaaGreatDoorUB
import Derived.Test.YthhlcchofilimaaGreatDoorUC
import Derived.Test.YthhlcchofilimaaGreatDoorUE
import Derived.Test.YthhlcchofilimaaGreatDoorUG
import Derived.Test.YthhlcchofilimaaGreatDoorUI
import Derived.Test.YthhlcchofilimaaGreatDoorUJ
import Derived.Test.YthhlcchofilimaaGreatDoorUK
import Derived.Test.YthhlcchofilimaaGreatDoorUM
import Derived.Test.YthhlcchofilimaaGreatDoorUN
namespace Go.Proofs.YthhlcchofilimaaGreatDoor.U
set_option linter.unusedVariables false
set_option linter.unusedSimpArgs false
set_option maxRecDepth 20000
open Go.ChangeShapes Go.WideShapes Go.ChangeAt Go.RowKit Go.Sort
open M (Fp Dj Cw Up Th Grp GrpAt GrpC Cpd jn exT)
set_option maxRecDepth 20000
/-- Things side by side, all newer than w0. -/
abbrev Gr (w0 : World) (l : List Th) (w : World) : Prop := Grp (fun _ _ => False) (fun _ _ => False) w0 l w
theorem gr_out {w0 w : World} {l : List Th} (h : Gr w0 l w) : Below w0.heap.size w0 w := h.out.nothing (fun _ _ q => q.elim)
section
variable {R0 W0 : Fp} {w0 w : World} {l : List Th} {b : Nat} {S : Bs}
theorem readB (h : Grp R0 W0 w0 l w) (i : Nat) (hi : l[i]? = some (eBus b S)) (k : Int) (x : Nat) (z : Int) (hx : x < W64) (hz : (Lit.int .i64 z).wf = true) : Calls Tryz.prog 60 #[.pointer (some ⟨b, 0, none⟩), .int .i64 k, .int .u64 x, .int .i64 z] w (fun e w' => e = .returned (.tuple #[.int .u64 (S.val k x z : Nat), .bool (mayB k x z)]) ∧ Grp R0 W0 w0 (l.set i (eBus b (S.rd k x z))) w') :=
  h.step i hi _ (fun R W q => read_b q k x z hx hz)
theorem mayQ (h : Grp R0 W0 w0 l w) (i : Nat) (hi : l[i]? = some (eBus b S)) (k : Int) (x : Nat) (z : Int) (hx : x < W64) (hz : (Lit.int .i64 z).wf = true) : Calls Tryz.prog 46 #[.pointer (some ⟨b, 0, none⟩), .int .i64 k, .int .u64 x, .int .i64 z] w (RetB (mayB k x z) w) := by
  obtain ⟨R, W, q⟩ := h.get i hi
  exact may_q q k x z hx hz
theorem plainQ (h : Grp R0 W0 w0 l w) (i : Nat) (hi : l[i]? = some (eBus b S)) (x : Nat) (z : Int) (hx : x < W64) : Calls Tryz.prog 59 #[.pointer (some ⟨b, 0, none⟩), .int .u64 x, .int .i64 z] w (RetB (M.hasV x z) w) := by
  obtain ⟨R, W, q⟩ := h.get i hi
  exact plain_q q x z hx
end
end Go.Proofs.YthhlcchofilimaaGreatDoor.U
