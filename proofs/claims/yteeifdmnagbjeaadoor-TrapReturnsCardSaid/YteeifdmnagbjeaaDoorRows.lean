/-
  NARROWER THAN 'FOR EVERY INPUT', by the rows' own cells (each row's printed sentence says how): TrapEnters: laid · TrapReturns: laid · TrapBack: laid · TrapQuiet: laid · TrapKeeps: laid.
  DERIVED. THE GIVEN ROWS OF THIS SEAT. 5 by the template 'for every input the law returns true; each argument reads behind the call as it read before'; 0 by the template 'total and deterministic' (their statements: YteeifdmnagbjeaaDoorTotals.lean).
  GIVEN WITH THE SEED: the statements are not yours to turn. If you find one false, say at which input.
  Laid BY PROGRAM, IN A SANDBOX (cutbox-rows.mjs): the forced cells as the released guide's own fill.sh prints them over the translation 662d0d5de0f8df28… (all of the seat's roots in one cut). By AI agents, Wed Nov 11 2026. No macro, syntax, notation, axiom, sorry.
-/
import Derived.Test.YteeifdmnagbjeaaDoorChecked
import GoSem.Claim
import GoSem.ClaimJoined
import GoSem.ClaimMapViews
import Derived.JoinedTies
import Derived.KernelRfl
namespace Go.Proofs.YteeifdmnagbjeaaDoor
/- THE CELL 'sum', in the pinned program and in every row, IS THE sha256 OF THE DUMP (.gsa) THAT YteeifdmnagbjeaaDoorProg.lean LOADS. Nothing in Lean hashes anything: it is a label: what it is worth is what the hold of that sum in a sandbox is worth. -/
noncomputable def Tryd.pinned : Pinned := { name := "yteeifdmnagbjeaadoor", sum := "662d0d5de0f8df28b096ac6e1ad00d6edc208292fbb29424a77c255eb88c51bc", checked := Tryd.checked }
namespace Rows
def none {H : Type} : Left H := { results := [], args := [] }

/- WHAT THE LISTED PACKAGE-LEVEL VARIABLES READ AS WHEN THE CALL BEGINS. Each datum BY PROGRAM (the guide's laid-datum.mjs) off the statement by which the dump's own 'gosem.cut.vars' lays the variable. In a bare row this is a premise. The card (YteeifdmnagbjeaaDoorCards.lean) ties it to the program's text. -/
def laid_tandem_trap_order {H : Type} : DataW H := .agg [.lit (.int .u64 11), .lit (.int .u64 3), .lit (.int .u64 7), .lit (.int .u64 9), .lit (.int .u64 1), .lit (.int .u64 5)]

/-- 'tandemlaw13.TrapEnters': WHATEVER THE INPUT: true; the input reads as it did. -/
def trapEntersSpec : ChangeSpec := { name := "trapEnters", fn := fun _ => fun
  | [d1, d2, d3, d4, d5] => { results := [.lit (.bool true)], args := [d1, d2, d3, d4, d5] }
  | _ => none }
def trapEntersRow : OpenClaim := { program := "yteeifdmnagbjeaadoor", sum := "662d0d5de0f8df28b096ac6e1ad00d6edc208292fbb29424a77c255eb88c51bc", func := "tandem/tandemlaw13.TrapEnters", spec := "trapEnters", named := ["tandem/trap.order"], apart := false, laid := [("tandem/trap.order", laid_tandem_trap_order)] }
def TrapEntersSaid : Prop := trapEntersRow.holds Tryd.pinned (OpenSpec.ofChange trapEntersSpec)

/-- ITS FALSE NEIGHBOUR: 'it returns false'. Refute it at one input. -/
def trapEntersWrong : ChangeSpec := { name := "trapEnters", fn := fun _ => fun
  | [d1, d2, d3, d4, d5] => { results := [.lit (.bool false)], args := [d1, d2, d3, d4, d5] }
  | _ => none }
def TrapEntersWrongFalsely : Prop := trapEntersRow.holds Tryd.pinned (OpenSpec.ofChange trapEntersWrong)

/-- 'tandemlaw13.TrapReturns': WHATEVER THE INPUT: true; the input reads as it did. -/
def trapReturnsSpec : ChangeSpec := { name := "trapReturns", fn := fun _ => fun
  | [d1, d2] => { results := [.lit (.bool true)], args := [d1, d2] }
  | _ => none }
def trapReturnsRow : OpenClaim := { program := "yteeifdmnagbjeaadoor", sum := "662d0d5de0f8df28b096ac6e1ad00d6edc208292fbb29424a77c255eb88c51bc", func := "tandem/tandemlaw13.TrapReturns", spec := "trapReturns", named := ["tandem/trap.order"], apart := false, laid := [("tandem/trap.order", laid_tandem_trap_order)] }
def TrapReturnsSaid : Prop := trapReturnsRow.holds Tryd.pinned (OpenSpec.ofChange trapReturnsSpec)

/-- ITS FALSE NEIGHBOUR: 'it returns false'. Refute it at one input. -/
def trapReturnsWrong : ChangeSpec := { name := "trapReturns", fn := fun _ => fun
  | [d1, d2] => { results := [.lit (.bool false)], args := [d1, d2] }
  | _ => none }
def TrapReturnsWrongFalsely : Prop := trapReturnsRow.holds Tryd.pinned (OpenSpec.ofChange trapReturnsWrong)

/-- 'tandemlaw13.TrapBack': WHATEVER THE INPUT: true; the input reads as it did. -/
def trapBackSpec : ChangeSpec := { name := "trapBack", fn := fun _ => fun
  | [d1, d2, d3, d4, d5] => { results := [.lit (.bool true)], args := [d1, d2, d3, d4, d5] }
  | _ => none }
def trapBackRow : OpenClaim := { program := "yteeifdmnagbjeaadoor", sum := "662d0d5de0f8df28b096ac6e1ad00d6edc208292fbb29424a77c255eb88c51bc", func := "tandem/tandemlaw13.TrapBack", spec := "trapBack", named := ["tandem/trap.order"], apart := false, laid := [("tandem/trap.order", laid_tandem_trap_order)] }
def TrapBackSaid : Prop := trapBackRow.holds Tryd.pinned (OpenSpec.ofChange trapBackSpec)

/-- ITS FALSE NEIGHBOUR: 'it returns false'. Refute it at one input. -/
def trapBackWrong : ChangeSpec := { name := "trapBack", fn := fun _ => fun
  | [d1, d2, d3, d4, d5] => { results := [.lit (.bool false)], args := [d1, d2, d3, d4, d5] }
  | _ => none }
def TrapBackWrongFalsely : Prop := trapBackRow.holds Tryd.pinned (OpenSpec.ofChange trapBackWrong)

/-- 'tandemlaw13.TrapQuiet': WHATEVER THE INPUT: true; the input reads as it did. -/
def trapQuietSpec : ChangeSpec := { name := "trapQuiet", fn := fun _ => fun
  | [d1, d2, d3, d4, d5, d6] => { results := [.lit (.bool true)], args := [d1, d2, d3, d4, d5, d6] }
  | _ => none }
def trapQuietRow : OpenClaim := { program := "yteeifdmnagbjeaadoor", sum := "662d0d5de0f8df28b096ac6e1ad00d6edc208292fbb29424a77c255eb88c51bc", func := "tandem/tandemlaw13.TrapQuiet", spec := "trapQuiet", named := ["tandem/trap.order"], apart := false, laid := [("tandem/trap.order", laid_tandem_trap_order)] }
def TrapQuietSaid : Prop := trapQuietRow.holds Tryd.pinned (OpenSpec.ofChange trapQuietSpec)

/-- ITS FALSE NEIGHBOUR: 'it returns false'. Refute it at one input. -/
def trapQuietWrong : ChangeSpec := { name := "trapQuiet", fn := fun _ => fun
  | [d1, d2, d3, d4, d5, d6] => { results := [.lit (.bool false)], args := [d1, d2, d3, d4, d5, d6] }
  | _ => none }
def TrapQuietWrongFalsely : Prop := trapQuietRow.holds Tryd.pinned (OpenSpec.ofChange trapQuietWrong)

/-- 'tandemlaw13.TrapKeeps': WHATEVER THE INPUT: true; the input reads as it did. -/
def trapKeepsSpec : ChangeSpec := { name := "trapKeeps", fn := fun _ => fun
  | [d1, d2, d3, d4, d5, d6] => { results := [.lit (.bool true)], args := [d1, d2, d3, d4, d5, d6] }
  | _ => none }
def trapKeepsRow : OpenClaim := { program := "yteeifdmnagbjeaadoor", sum := "662d0d5de0f8df28b096ac6e1ad00d6edc208292fbb29424a77c255eb88c51bc", func := "tandem/tandemlaw13.TrapKeeps", spec := "trapKeeps", named := ["tandem/trap.order"], apart := false, laid := [("tandem/trap.order", laid_tandem_trap_order)] }
def TrapKeepsSaid : Prop := trapKeepsRow.holds Tryd.pinned (OpenSpec.ofChange trapKeepsSpec)

/-- ITS FALSE NEIGHBOUR: 'it returns false'. Refute it at one input. -/
def trapKeepsWrong : ChangeSpec := { name := "trapKeeps", fn := fun _ => fun
  | [d1, d2, d3, d4, d5, d6] => { results := [.lit (.bool false)], args := [d1, d2, d3, d4, d5, d6] }
  | _ => none }
def TrapKeepsWrongFalsely : Prop := trapKeepsRow.holds Tryd.pinned (OpenSpec.ofChange trapKeepsWrong)

/- THE SECOND FORM. 'bulk': how many values and letters a reading holds, each counted each time it is reached (what is shared counts as often as it is met; a slice's spare places count too). A statement '..UptoSaid' is the law's where the arguments, and the package variables that the reading takes, are together of bulk at most 1048576: NARROWER than '..Said'. Prove '..Said' where nothing that the law and all that it calls make is longer than what came in: it says more and counts as full. Else prove '..UptoSaid'. A law counts once. -/
mutual
def uptoBulk {H : Type} : DataW H → Nat
  | .lit (.string bytes) => bytes.length + 1
  | .lit _ => 1
  | .nil => 1
  | .ptr d => uptoBulk d + 1
  | .slice elems spare => uptoBulkAll elems + uptoBulkAll spare + 1
  | .agg parts => uptoBulkAll parts + 1
  | .iface _ d => uptoBulk d + 1
  | .map entries => uptoBulkEntries entries + 1
  | .held _ => 1
def uptoBulkAll {H : Type} : List (DataW H) → Nat
  | [] => 0
  | d :: r => uptoBulk d + uptoBulkAll r
def uptoBulkEntries {H : Type} : List (Lit × DataW H) → Nat
  | [] => 0
  | x :: r => uptoBulkEntry x + uptoBulkEntries r
def uptoBulkEntry {H : Type} : Lit × DataW H → Nat
  | (.string bytes, d) => bytes.length + uptoBulk d + 1
  | (_, d) => uptoBulk d + 1
 end
def uptoSmall : (H : Type) → List (DataW H) → Bool := fun _ ds => decide (uptoBulkAll ds ≤ 1048576)
def OpenSpec.upto (s : _root_.Go.ChangeSpec) : _root_.Go.OpenSpec := { _root_.Go.OpenSpec.ofChange s with cond := some uptoSmall }

/-- 'tandemlaw13.TrapEnters', WHERE WHAT IT READS IS OF BULK AT MOST 1048576: true; the input reads as it did. -/
def trapEntersUptoRow : OpenClaim := { program := "yteeifdmnagbjeaadoor", sum := "662d0d5de0f8df28b096ac6e1ad00d6edc208292fbb29424a77c255eb88c51bc", func := "tandem/tandemlaw13.TrapEnters", spec := "trapEnters", named := ["tandem/trap.order"], apart := false, laid := [("tandem/trap.order", laid_tandem_trap_order)], narrowed := true }
def TrapEntersUptoSaid : Prop := trapEntersUptoRow.holds Tryd.pinned (OpenSpec.upto trapEntersSpec)

/-- 'tandemlaw13.TrapReturns', WHERE WHAT IT READS IS OF BULK AT MOST 1048576: true; the input reads as it did. -/
def trapReturnsUptoRow : OpenClaim := { program := "yteeifdmnagbjeaadoor", sum := "662d0d5de0f8df28b096ac6e1ad00d6edc208292fbb29424a77c255eb88c51bc", func := "tandem/tandemlaw13.TrapReturns", spec := "trapReturns", named := ["tandem/trap.order"], apart := false, laid := [("tandem/trap.order", laid_tandem_trap_order)], narrowed := true }
def TrapReturnsUptoSaid : Prop := trapReturnsUptoRow.holds Tryd.pinned (OpenSpec.upto trapReturnsSpec)

/-- 'tandemlaw13.TrapBack', WHERE WHAT IT READS IS OF BULK AT MOST 1048576: true; the input reads as it did. -/
def trapBackUptoRow : OpenClaim := { program := "yteeifdmnagbjeaadoor", sum := "662d0d5de0f8df28b096ac6e1ad00d6edc208292fbb29424a77c255eb88c51bc", func := "tandem/tandemlaw13.TrapBack", spec := "trapBack", named := ["tandem/trap.order"], apart := false, laid := [("tandem/trap.order", laid_tandem_trap_order)], narrowed := true }
def TrapBackUptoSaid : Prop := trapBackUptoRow.holds Tryd.pinned (OpenSpec.upto trapBackSpec)

/-- 'tandemlaw13.TrapQuiet', WHERE WHAT IT READS IS OF BULK AT MOST 1048576: true; the input reads as it did. -/
def trapQuietUptoRow : OpenClaim := { program := "yteeifdmnagbjeaadoor", sum := "662d0d5de0f8df28b096ac6e1ad00d6edc208292fbb29424a77c255eb88c51bc", func := "tandem/tandemlaw13.TrapQuiet", spec := "trapQuiet", named := ["tandem/trap.order"], apart := false, laid := [("tandem/trap.order", laid_tandem_trap_order)], narrowed := true }
def TrapQuietUptoSaid : Prop := trapQuietUptoRow.holds Tryd.pinned (OpenSpec.upto trapQuietSpec)

/-- 'tandemlaw13.TrapKeeps', WHERE WHAT IT READS IS OF BULK AT MOST 1048576: true; the input reads as it did. -/
def trapKeepsUptoRow : OpenClaim := { program := "yteeifdmnagbjeaadoor", sum := "662d0d5de0f8df28b096ac6e1ad00d6edc208292fbb29424a77c255eb88c51bc", func := "tandem/tandemlaw13.TrapKeeps", spec := "trapKeeps", named := ["tandem/trap.order"], apart := false, laid := [("tandem/trap.order", laid_tandem_trap_order)], narrowed := true }
def TrapKeepsUptoSaid : Prop := trapKeepsUptoRow.holds Tryd.pinned (OpenSpec.upto trapKeepsSpec)

end Rows
end Go.Proofs.YteeifdmnagbjeaaDoor
