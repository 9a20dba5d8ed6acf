/-
  DERIVED. GIVEN WITH THE SEED: THE CARDS: each row of YteeifdmnagbjeaaDoorRows.lean that lists a variable, with what it lists TIED to the program's text (the seventh form; the later family's looks); each row that meets fmt, with fmt's text TOLD by the authors' own Lean function (tested against real Go, not proved from fmt's source: count such statements apart). THE CARD IS WHAT COUNTS. Prove the row's statement (the work); the ties are given (YteeifdmnagbjeaaDoorTie.lean); close each card by the builder's one call (the guide's Derived/Test/ToyasCard.lean, 'card_holds'). Laid BY PROGRAM, IN A SANDBOX (cutbox-door.mjs). By AI agents, Wed Nov 11 2026. No macro, syntax, notation, axiom, sorry.
-/
import Derived.Test.YteeifdmnagbjeaaDoorRows
import GoSem.ClaimSeven
namespace Go.Proofs.YteeifdmnagbjeaaDoor
namespace Rows

/-- THE TIED CARD OF 'tandemlaw13.TrapEnters'. -/
def trapEntersCard : Claim7 := { stood := { row := trapEntersRow, standIns := [], harness := (true, "af735b52f18d69b5cb83099d62e428e47c094befe7fef9a6e636d76f18d6f2aa"), looks := false }, kinds := [], alts := [], laidByText := true, laidKinds := [.data], laidTests := true, laidLooks := .later }
def TrapEntersCardSaid : Prop := Claim7.holds Tryd.pinned (.plain (OpenSpec.ofChange trapEntersSpec)) trapEntersCard

/-- THE TIED CARD OF 'tandemlaw13.TrapReturns'. -/
def trapReturnsCard : Claim7 := { stood := { row := trapReturnsRow, standIns := [], harness := (true, "af735b52f18d69b5cb83099d62e428e47c094befe7fef9a6e636d76f18d6f2aa"), looks := false }, kinds := [], alts := [], laidByText := true, laidKinds := [.data], laidTests := true, laidLooks := .later }
def TrapReturnsCardSaid : Prop := Claim7.holds Tryd.pinned (.plain (OpenSpec.ofChange trapReturnsSpec)) trapReturnsCard

/-- THE TIED CARD OF 'tandemlaw13.TrapBack'. -/
def trapBackCard : Claim7 := { stood := { row := trapBackRow, standIns := [], harness := (true, "af735b52f18d69b5cb83099d62e428e47c094befe7fef9a6e636d76f18d6f2aa"), looks := false }, kinds := [], alts := [], laidByText := true, laidKinds := [.data], laidTests := true, laidLooks := .later }
def TrapBackCardSaid : Prop := Claim7.holds Tryd.pinned (.plain (OpenSpec.ofChange trapBackSpec)) trapBackCard

/-- THE TIED CARD OF 'tandemlaw13.TrapQuiet'. -/
def trapQuietCard : Claim7 := { stood := { row := trapQuietRow, standIns := [], harness := (true, "af735b52f18d69b5cb83099d62e428e47c094befe7fef9a6e636d76f18d6f2aa"), looks := false }, kinds := [], alts := [], laidByText := true, laidKinds := [.data], laidTests := true, laidLooks := .later }
def TrapQuietCardSaid : Prop := Claim7.holds Tryd.pinned (.plain (OpenSpec.ofChange trapQuietSpec)) trapQuietCard

/-- THE TIED CARD OF 'tandemlaw13.TrapKeeps'. -/
def trapKeepsCard : Claim7 := { stood := { row := trapKeepsRow, standIns := [], harness := (true, "af735b52f18d69b5cb83099d62e428e47c094befe7fef9a6e636d76f18d6f2aa"), looks := false }, kinds := [], alts := [], laidByText := true, laidKinds := [.data], laidTests := true, laidLooks := .later }
def TrapKeepsCardSaid : Prop := Claim7.holds Tryd.pinned (.plain (OpenSpec.ofChange trapKeepsSpec)) trapKeepsCard

/-- THE SECOND FORM's CARD OF 'tandemlaw13.TrapEnters'. -/
def trapEntersUptoCard : Claim7 := { stood := { row := trapEntersUptoRow, standIns := [], harness := (true, "af735b52f18d69b5cb83099d62e428e47c094befe7fef9a6e636d76f18d6f2aa"), looks := false }, kinds := [], alts := [], laidByText := true, laidKinds := [.data], laidTests := true, laidLooks := .later }
def TrapEntersUptoCardSaid : Prop := Claim7.holds Tryd.pinned (.plain (OpenSpec.upto trapEntersSpec)) trapEntersUptoCard

/-- THE SECOND FORM's CARD OF 'tandemlaw13.TrapReturns'. -/
def trapReturnsUptoCard : Claim7 := { stood := { row := trapReturnsUptoRow, standIns := [], harness := (true, "af735b52f18d69b5cb83099d62e428e47c094befe7fef9a6e636d76f18d6f2aa"), looks := false }, kinds := [], alts := [], laidByText := true, laidKinds := [.data], laidTests := true, laidLooks := .later }
def TrapReturnsUptoCardSaid : Prop := Claim7.holds Tryd.pinned (.plain (OpenSpec.upto trapReturnsSpec)) trapReturnsUptoCard

/-- THE SECOND FORM's CARD OF 'tandemlaw13.TrapBack'. -/
def trapBackUptoCard : Claim7 := { stood := { row := trapBackUptoRow, standIns := [], harness := (true, "af735b52f18d69b5cb83099d62e428e47c094befe7fef9a6e636d76f18d6f2aa"), looks := false }, kinds := [], alts := [], laidByText := true, laidKinds := [.data], laidTests := true, laidLooks := .later }
def TrapBackUptoCardSaid : Prop := Claim7.holds Tryd.pinned (.plain (OpenSpec.upto trapBackSpec)) trapBackUptoCard

/-- THE SECOND FORM's CARD OF 'tandemlaw13.TrapQuiet'. -/
def trapQuietUptoCard : Claim7 := { stood := { row := trapQuietUptoRow, standIns := [], harness := (true, "af735b52f18d69b5cb83099d62e428e47c094befe7fef9a6e636d76f18d6f2aa"), looks := false }, kinds := [], alts := [], laidByText := true, laidKinds := [.data], laidTests := true, laidLooks := .later }
def TrapQuietUptoCardSaid : Prop := Claim7.holds Tryd.pinned (.plain (OpenSpec.upto trapQuietSpec)) trapQuietUptoCard

/-- THE SECOND FORM's CARD OF 'tandemlaw13.TrapKeeps'. -/
def trapKeepsUptoCard : Claim7 := { stood := { row := trapKeepsUptoRow, standIns := [], harness := (true, "af735b52f18d69b5cb83099d62e428e47c094befe7fef9a6e636d76f18d6f2aa"), looks := false }, kinds := [], alts := [], laidByText := true, laidKinds := [.data], laidTests := true, laidLooks := .later }
def TrapKeepsUptoCardSaid : Prop := Claim7.holds Tryd.pinned (.plain (OpenSpec.upto trapKeepsSpec)) trapKeepsUptoCard
end Rows
end Go.Proofs.YteeifdmnagbjeaaDoor
