/-
  DERIVED. GIVEN WITH THE SEED: THE PROGRAM's TIES (one call each: nine closed facts by the kernel) AND EACH ROW's TIE, after the 31st guide's Derived/Test/Toyas{Tie, Card}.lean. No idea stands in it: it is a product of the set-up. Laid BY PROGRAM, IN A SANDBOX (cutbox-door.mjs). By AI agents, Wed Nov 11 2026. No macro, syntax, notation, axiom, sorry.
-/
import Derived.Test.YtcfeeookjgdkmaaDoorRows
import Derived.LaidByTextLater
import Derived.SevenTiedAt
import Derived.LaidSub
import Derived.LaidOnce
namespace Go.Proofs.YtcfeeookjgdkmaaDoor
open Go
set_option maxRecDepth 100000
theorem seatTie1 : Tryd.prog.laidByTextLater [("math/bits.deBruijn32tab", Rows.laid_math_bits_deBruijn32tab), ("tandem/squeeze.registers", Rows.laid_tandem_squeeze_registers), ("tandem/squeeze.immediates", Rows.laid_tandem_squeeze_immediates)] [.data, .data, .wider] true :=
  Program.laidByTextLater_by_one 44 8 40 (by kernel_rfl) (by kernel_rfl) (by kernel_rfl) (by kernel_rfl) (by kernel_rfl) (by kernel_rfl) (fun _ _ => by kernel_rfl)
theorem noOwnUnsafe : Tryd.pinned.checked.prog.headLifts.contains "ownunsafe" = false := by kernel_rfl
theorem tie : Tryd.prog.laidByTextLater [("math/bits.deBruijn32tab", Rows.laid_math_bits_deBruijn32tab), ("tandem/squeeze.registers", Rows.laid_tandem_squeeze_registers), ("tandem/squeeze.immediates", Rows.laid_tandem_squeeze_immediates)] [.data, .data, .wider] true :=
  Program.laidByTextLater.sub seatTie1 ["math/bits.deBruijn32tab", "tandem/squeeze.registers", "tandem/squeeze.immediates"] (by kernel_rfl) (by kernel_rfl)
theorem squeezeExpands_row_tie : Rows.squeezeExpandsRow.laidByTextAt .later Tryd.pinned [.data, .data, .wider] true :=
  OpenClaim.laidByTextAt_later rfl rfl tie noOwnUnsafe
theorem squeezeShrinks_row_tie : Rows.squeezeShrinksRow.laidByTextAt .later Tryd.pinned [.data, .data, .wider] true :=
  OpenClaim.laidByTextAt_later rfl rfl tie noOwnUnsafe
theorem squeezeBack_row_tie : Rows.squeezeBackRow.laidByTextAt .later Tryd.pinned [.data, .data, .wider] true :=
  OpenClaim.laidByTextAt_later rfl rfl tie noOwnUnsafe
theorem squeezeRegs_row_tie : Rows.squeezeRegsRow.laidByTextAt .later Tryd.pinned [.data, .data, .wider] true :=
  OpenClaim.laidByTextAt_later rfl rfl tie noOwnUnsafe
theorem squeezeExpandsUpto_row_tie : Rows.squeezeExpandsUptoRow.laidByTextAt .later Tryd.pinned [.data, .data, .wider] true :=
  OpenClaim.laidByTextAt_later rfl rfl tie noOwnUnsafe
theorem squeezeShrinksUpto_row_tie : Rows.squeezeShrinksUptoRow.laidByTextAt .later Tryd.pinned [.data, .data, .wider] true :=
  OpenClaim.laidByTextAt_later rfl rfl tie noOwnUnsafe
theorem squeezeBackUpto_row_tie : Rows.squeezeBackUptoRow.laidByTextAt .later Tryd.pinned [.data, .data, .wider] true :=
  OpenClaim.laidByTextAt_later rfl rfl tie noOwnUnsafe
theorem squeezeRegsUpto_row_tie : Rows.squeezeRegsUptoRow.laidByTextAt .later Tryd.pinned [.data, .data, .wider] true :=
  OpenClaim.laidByTextAt_later rfl rfl tie noOwnUnsafe
end Go.Proofs.YtcfeeookjgdkmaaDoor
