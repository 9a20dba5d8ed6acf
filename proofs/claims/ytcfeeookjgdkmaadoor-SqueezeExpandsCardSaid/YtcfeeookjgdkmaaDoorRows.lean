/-
  NARROWER THAN 'FOR EVERY INPUT', by the rows' own cells (each row's printed sentence says how): SqueezeExpands: laid · SqueezeShrinks: laid · SqueezeBack: laid · SqueezeRegs: laid.
  DERIVED. THE GIVEN ROWS OF THIS SEAT. 4 by the template 'for every input the law returns true; each argument reads behind the call as it read before'; 0 by the template 'total and deterministic' (their statements: YtcfeeookjgdkmaaDoorTotals.lean).
  GIVEN WITH THE SEED: the statements are not yours to turn. If you find one false, say at which input.
  Laid BY PROGRAM, IN A SANDBOX (cutbox-rows.mjs): the forced cells as the released guide's own fill.sh prints them over the translation d80485ff85ba5bb1… (all of the seat's roots in one cut). By AI agents, Wed Nov 11 2026. No macro, syntax, notation, axiom, sorry.
-/
import Derived.Test.YtcfeeookjgdkmaaDoorChecked
import GoSem.Claim
import GoSem.ClaimJoined
import GoSem.ClaimMapViews
import Derived.JoinedTies
import Derived.KernelRfl
namespace Go.Proofs.YtcfeeookjgdkmaaDoor
/- THE CELL 'sum', in the pinned program and in every row, IS THE sha256 OF THE DUMP (.gsa) THAT YtcfeeookjgdkmaaDoorProg.lean LOADS. Nothing in Lean hashes anything: it is a label: what it is worth is what the hold of that sum in a sandbox is worth. -/
noncomputable def Tryd.pinned : Pinned := { name := "ytcfeeookjgdkmaadoor", sum := "d80485ff85ba5bb139796799797291315b9bbf01675814995051f405fa7939cf", checked := Tryd.checked }
namespace Rows
def none {H : Type} : Left H := { results := [], args := [] }

/- WHAT THE LISTED PACKAGE-LEVEL VARIABLES READ AS WHEN THE CALL BEGINS. Each datum BY PROGRAM (the guide's laid-datum.mjs) off the statement by which the dump's own 'gosem.cut.vars' lays the variable. In a bare row this is a premise. The card (YtcfeeookjgdkmaaDoorCards.lean) ties it to the program's text. -/
def laid_math_bits_deBruijn32tab {H : Type} : DataW H := .agg [.lit (.int .u8 0), .lit (.int .u8 1), .lit (.int .u8 28), .lit (.int .u8 2), .lit (.int .u8 29), .lit (.int .u8 14), .lit (.int .u8 24), .lit (.int .u8 3), .lit (.int .u8 30), .lit (.int .u8 22), .lit (.int .u8 20), .lit (.int .u8 15), .lit (.int .u8 25), .lit (.int .u8 17), .lit (.int .u8 4), .lit (.int .u8 8), .lit (.int .u8 31), .lit (.int .u8 27), .lit (.int .u8 13), .lit (.int .u8 23), .lit (.int .u8 21), .lit (.int .u8 19), .lit (.int .u8 16), .lit (.int .u8 7), .lit (.int .u8 26), .lit (.int .u8 12), .lit (.int .u8 18), .lit (.int .u8 6), .lit (.int .u8 11), .lit (.int .u8 5), .lit (.int .u8 10), .lit (.int .u8 9)]
def laid_tandem_squeeze_registers {H : Type} : DataW H := .agg [.agg [.lit (.int .u8 7), .lit (.int .u8 5), .lit (.int .u8 7)], .agg [.lit (.int .u8 7), .lit (.int .u8 3), .lit (.int .u8 7)], .agg [.lit (.int .u8 2), .lit (.int .u8 3), .lit (.int .u8 7)], .agg [.lit (.int .u8 7), .lit (.int .u8 5), .lit (.int .u8 15)], .agg [.lit (.int .u8 7), .lit (.int .u8 3), .lit (.int .u8 15)], .agg [.lit (.int .u8 2), .lit (.int .u8 5), .lit (.int .u8 20)], .agg [.lit (.int .u8 2), .lit (.int .u8 3), .lit (.int .u8 20)]]
def laid_tandem_squeeze_immediates {H : Type} : DataW H := .agg [.agg [.lit (.int .u16 0), .lit (.int .u64 0), .lit (.bool false)], .agg [.lit (.int .u16 8160), .lit (.int .u64 1419277859), .lit (.bool false)], .agg [.lit (.int .u16 7264), .lit (.int .u64 344950), .lit (.bool false)], .agg [.lit (.int .u16 7264), .lit (.int .u64 344870), .lit (.bool false)], .agg [.lit (.int .u16 4220), .lit (.int .u64 5517840), .lit (.bool true)], .agg [.lit (.int .u16 4220), .lit (.int .u64 5517840), .lit (.bool false)], .agg [.lit (.int .u16 4220), .lit (.int .u64 9726069), .lit (.bool true)], .agg [.lit (.int .u16 8188), .lit (.int .u64 12410482536981), .lit (.bool true)], .agg [.lit (.int .u16 7292), .lit (.int .u64 2218222101), .lit (.bool true)], .agg [.lit (.int .u16 4220), .lit (.int .u64 5519478), .lit (.bool false)], .agg [.lit (.int .u16 4220), .lit (.int .u64 5517942), .lit (.bool false)], .agg [.lit (.int .u16 8064), .lit (.int .u64 5519478), .lit (.bool false)], .agg [.lit (.int .u16 8064), .lit (.int .u64 5517942), .lit (.bool false)]]

/-- 'tandemlaw04.SqueezeExpands': WHATEVER THE INPUT: true; the input reads as it did. -/
def squeezeExpandsSpec : ChangeSpec := { name := "squeezeExpands", fn := fun _ => fun
  | [d] => { results := [.lit (.bool true)], args := [d] }
  | _ => none }
def squeezeExpandsRow : OpenClaim := { program := "ytcfeeookjgdkmaadoor", sum := "d80485ff85ba5bb139796799797291315b9bbf01675814995051f405fa7939cf", func := "tandem/tandemlaw04.SqueezeExpands", spec := "squeezeExpands", named := ["tandem/squeeze.immediates", "tandem/squeeze.registers", "math/bits.deBruijn32tab"], apart := false, laid := [("math/bits.deBruijn32tab", laid_math_bits_deBruijn32tab), ("tandem/squeeze.registers", laid_tandem_squeeze_registers), ("tandem/squeeze.immediates", laid_tandem_squeeze_immediates)] }
def SqueezeExpandsSaid : Prop := squeezeExpandsRow.holds Tryd.pinned (OpenSpec.ofChange squeezeExpandsSpec)

/-- ITS FALSE NEIGHBOUR: 'it returns false'. Refute it at one input. -/
def squeezeExpandsWrong : ChangeSpec := { name := "squeezeExpands", fn := fun _ => fun
  | [d] => { results := [.lit (.bool false)], args := [d] }
  | _ => none }
def SqueezeExpandsWrongFalsely : Prop := squeezeExpandsRow.holds Tryd.pinned (OpenSpec.ofChange squeezeExpandsWrong)

/-- 'tandemlaw04.SqueezeShrinks': WHATEVER THE INPUT: true; the input reads as it did. -/
def squeezeShrinksSpec : ChangeSpec := { name := "squeezeShrinks", fn := fun _ => fun
  | [d] => { results := [.lit (.bool true)], args := [d] }
  | _ => none }
def squeezeShrinksRow : OpenClaim := { program := "ytcfeeookjgdkmaadoor", sum := "d80485ff85ba5bb139796799797291315b9bbf01675814995051f405fa7939cf", func := "tandem/tandemlaw04.SqueezeShrinks", spec := "squeezeShrinks", named := ["tandem/squeeze.immediates", "tandem/squeeze.registers", "math/bits.deBruijn32tab"], apart := false, laid := [("math/bits.deBruijn32tab", laid_math_bits_deBruijn32tab), ("tandem/squeeze.registers", laid_tandem_squeeze_registers), ("tandem/squeeze.immediates", laid_tandem_squeeze_immediates)] }
def SqueezeShrinksSaid : Prop := squeezeShrinksRow.holds Tryd.pinned (OpenSpec.ofChange squeezeShrinksSpec)

/-- ITS FALSE NEIGHBOUR: 'it returns false'. Refute it at one input. -/
def squeezeShrinksWrong : ChangeSpec := { name := "squeezeShrinks", fn := fun _ => fun
  | [d] => { results := [.lit (.bool false)], args := [d] }
  | _ => none }
def SqueezeShrinksWrongFalsely : Prop := squeezeShrinksRow.holds Tryd.pinned (OpenSpec.ofChange squeezeShrinksWrong)

/-- 'tandemlaw04.SqueezeBack': WHATEVER THE INPUT: true; the input reads as it did. -/
def squeezeBackSpec : ChangeSpec := { name := "squeezeBack", fn := fun _ => fun
  | [d1, d2] => { results := [.lit (.bool true)], args := [d1, d2] }
  | _ => none }
def squeezeBackRow : OpenClaim := { program := "ytcfeeookjgdkmaadoor", sum := "d80485ff85ba5bb139796799797291315b9bbf01675814995051f405fa7939cf", func := "tandem/tandemlaw04.SqueezeBack", spec := "squeezeBack", named := ["tandem/squeeze.immediates", "tandem/squeeze.registers", "math/bits.deBruijn32tab"], apart := false, laid := [("math/bits.deBruijn32tab", laid_math_bits_deBruijn32tab), ("tandem/squeeze.registers", laid_tandem_squeeze_registers), ("tandem/squeeze.immediates", laid_tandem_squeeze_immediates)] }
def SqueezeBackSaid : Prop := squeezeBackRow.holds Tryd.pinned (OpenSpec.ofChange squeezeBackSpec)

/-- ITS FALSE NEIGHBOUR: 'it returns false'. Refute it at one input. -/
def squeezeBackWrong : ChangeSpec := { name := "squeezeBack", fn := fun _ => fun
  | [d1, d2] => { results := [.lit (.bool false)], args := [d1, d2] }
  | _ => none }
def SqueezeBackWrongFalsely : Prop := squeezeBackRow.holds Tryd.pinned (OpenSpec.ofChange squeezeBackWrong)

/-- 'tandemlaw04.SqueezeRegs': WHATEVER THE INPUT: true; the input reads as it did. -/
def squeezeRegsSpec : ChangeSpec := { name := "squeezeRegs", fn := fun _ => fun
  | [d] => { results := [.lit (.bool true)], args := [d] }
  | _ => none }
def squeezeRegsRow : OpenClaim := { program := "ytcfeeookjgdkmaadoor", sum := "d80485ff85ba5bb139796799797291315b9bbf01675814995051f405fa7939cf", func := "tandem/tandemlaw04.SqueezeRegs", spec := "squeezeRegs", named := ["tandem/squeeze.immediates", "tandem/squeeze.registers", "math/bits.deBruijn32tab"], apart := false, laid := [("math/bits.deBruijn32tab", laid_math_bits_deBruijn32tab), ("tandem/squeeze.registers", laid_tandem_squeeze_registers), ("tandem/squeeze.immediates", laid_tandem_squeeze_immediates)] }
def SqueezeRegsSaid : Prop := squeezeRegsRow.holds Tryd.pinned (OpenSpec.ofChange squeezeRegsSpec)

/-- ITS FALSE NEIGHBOUR: 'it returns false'. Refute it at one input. -/
def squeezeRegsWrong : ChangeSpec := { name := "squeezeRegs", fn := fun _ => fun
  | [d] => { results := [.lit (.bool false)], args := [d] }
  | _ => none }
def SqueezeRegsWrongFalsely : Prop := squeezeRegsRow.holds Tryd.pinned (OpenSpec.ofChange squeezeRegsWrong)

/- THE SECOND FORM. 'bulk': how many values and letters a reading holds, each counted each time it is reached (what is shared counts as often as it is met; a slice's spare places count too). A statement '..UptoSaid' is the law's where the arguments, and the package variables that the reading takes, are together of bulk at most 1048576: NARROWER than '..Said'. Prove '..Said' where nothing that the law and all that it calls make is longer than what came in: it says more and counts as full. Else prove '..UptoSaid'. A law counts once. -/
mutual
def uptoBulk {H : Type} : DataW H → Nat
  | .lit (.string bytes) => bytes.length + 1
  | .lit _ => 1
  | .nil => 1
  | .ptr d => uptoBulk d + 1
  | .slice elems spare => uptoBulkAll elems + uptoBulkAll spare + 1
  | .agg parts => uptoBulkAll parts + 1
  | .iface _ d => uptoBulk d + 1
  | .map entries => uptoBulkEntries entries + 1
  | .held _ => 1
def uptoBulkAll {H : Type} : List (DataW H) → Nat
  | [] => 0
  | d :: r => uptoBulk d + uptoBulkAll r
def uptoBulkEntries {H : Type} : List (Lit × DataW H) → Nat
  | [] => 0
  | x :: r => uptoBulkEntry x + uptoBulkEntries r
def uptoBulkEntry {H : Type} : Lit × DataW H → Nat
  | (.string bytes, d) => bytes.length + uptoBulk d + 1
  | (_, d) => uptoBulk d + 1
 end
def uptoSmall : (H : Type) → List (DataW H) → Bool := fun _ ds => decide (uptoBulkAll ds ≤ 1048576)
def OpenSpec.upto (s : _root_.Go.ChangeSpec) : _root_.Go.OpenSpec := { _root_.Go.OpenSpec.ofChange s with cond := some uptoSmall }

/-- 'tandemlaw04.SqueezeExpands', WHERE WHAT IT READS IS OF BULK AT MOST 1048576: true; the input reads as it did. -/
def squeezeExpandsUptoRow : OpenClaim := { program := "ytcfeeookjgdkmaadoor", sum := "d80485ff85ba5bb139796799797291315b9bbf01675814995051f405fa7939cf", func := "tandem/tandemlaw04.SqueezeExpands", spec := "squeezeExpands", named := ["tandem/squeeze.immediates", "tandem/squeeze.registers", "math/bits.deBruijn32tab"], apart := false, laid := [("math/bits.deBruijn32tab", laid_math_bits_deBruijn32tab), ("tandem/squeeze.registers", laid_tandem_squeeze_registers), ("tandem/squeeze.immediates", laid_tandem_squeeze_immediates)], narrowed := true }
def SqueezeExpandsUptoSaid : Prop := squeezeExpandsUptoRow.holds Tryd.pinned (OpenSpec.upto squeezeExpandsSpec)

/-- 'tandemlaw04.SqueezeShrinks', WHERE WHAT IT READS IS OF BULK AT MOST 1048576: true; the input reads as it did. -/
def squeezeShrinksUptoRow : OpenClaim := { program := "ytcfeeookjgdkmaadoor", sum := "d80485ff85ba5bb139796799797291315b9bbf01675814995051f405fa7939cf", func := "tandem/tandemlaw04.SqueezeShrinks", spec := "squeezeShrinks", named := ["tandem/squeeze.immediates", "tandem/squeeze.registers", "math/bits.deBruijn32tab"], apart := false, laid := [("math/bits.deBruijn32tab", laid_math_bits_deBruijn32tab), ("tandem/squeeze.registers", laid_tandem_squeeze_registers), ("tandem/squeeze.immediates", laid_tandem_squeeze_immediates)], narrowed := true }
def SqueezeShrinksUptoSaid : Prop := squeezeShrinksUptoRow.holds Tryd.pinned (OpenSpec.upto squeezeShrinksSpec)

/-- 'tandemlaw04.SqueezeBack', WHERE WHAT IT READS IS OF BULK AT MOST 1048576: true; the input reads as it did. -/
def squeezeBackUptoRow : OpenClaim := { program := "ytcfeeookjgdkmaadoor", sum := "d80485ff85ba5bb139796799797291315b9bbf01675814995051f405fa7939cf", func := "tandem/tandemlaw04.SqueezeBack", spec := "squeezeBack", named := ["tandem/squeeze.immediates", "tandem/squeeze.registers", "math/bits.deBruijn32tab"], apart := false, laid := [("math/bits.deBruijn32tab", laid_math_bits_deBruijn32tab), ("tandem/squeeze.registers", laid_tandem_squeeze_registers), ("tandem/squeeze.immediates", laid_tandem_squeeze_immediates)], narrowed := true }
def SqueezeBackUptoSaid : Prop := squeezeBackUptoRow.holds Tryd.pinned (OpenSpec.upto squeezeBackSpec)

/-- 'tandemlaw04.SqueezeRegs', WHERE WHAT IT READS IS OF BULK AT MOST 1048576: true; the input reads as it did. -/
def squeezeRegsUptoRow : OpenClaim := { program := "ytcfeeookjgdkmaadoor", sum := "d80485ff85ba5bb139796799797291315b9bbf01675814995051f405fa7939cf", func := "tandem/tandemlaw04.SqueezeRegs", spec := "squeezeRegs", named := ["tandem/squeeze.immediates", "tandem/squeeze.registers", "math/bits.deBruijn32tab"], apart := false, laid := [("math/bits.deBruijn32tab", laid_math_bits_deBruijn32tab), ("tandem/squeeze.registers", laid_tandem_squeeze_registers), ("tandem/squeeze.immediates", laid_tandem_squeeze_immediates)], narrowed := true }
def SqueezeRegsUptoSaid : Prop := squeezeRegsUptoRow.holds Tryd.pinned (OpenSpec.upto squeezeRegsSpec)

end Rows
end Go.Proofs.YtcfeeookjgdkmaaDoor
