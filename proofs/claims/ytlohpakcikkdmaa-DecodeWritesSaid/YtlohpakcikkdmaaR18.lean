/- The reference's Decode. -/
import Derived.Test.YtlohpakcikkdmaaR16
import Derived.Test.YtlohpakcikkdmaaR17
namespace Go.Proofs.Ytlohpakcikkdmaa
open Go.ChangeShapes Go.WideShapes Go.ChangeAt Go.RowKit
set_option linter.unusedVariables false
set_option linter.unusedSimpArgs false
instance (q : QRow) : Decidable (OkQ q) := by unfold OkQ; infer_instance
theorem ok_allQ : ∀ q ∈ allQ, OkQ q := by decide +kernel
theorem rows_all (w : World) : Calls Try.prog 19 #[] w (RetO allQ w) := rows_q (wh8 4) (by show _ ≤ _; decide +kernel) whole_c w
theorem DecodeR_c (b : Nat) (hb : Hid (b < 4294967296)) (w : World) : Calls Try.prog 11 #[.int .u32 b] w (RetX (decQ allQ b) w) :=
  Decode_q allQ 160 (by show _ = _; decide +kernel) (by decide) (by decide) ok_allQ rows_all b hb w
end Go.Proofs.Ytlohpakcikkdmaa
