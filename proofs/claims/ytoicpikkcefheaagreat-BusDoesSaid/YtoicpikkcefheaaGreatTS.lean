/- The string of bytes in memory. -/
import Derived.Test.YtoicpikkcefheaaGreatTA
namespace Go.Proofs.YtoicpikkcefheaaGreat.T
open Go.ChangeShapes Go.WideShapes Go.ChangeAt Go.RowKit
set_option linter.unusedVariables false
set_option linter.unusedSimpArgs false
set_option maxRecDepth 20000
section
variable {w : World} {a : Option Addr} {n c g o : Nat} {L : List Nat}
def strB (L : List Nat) : ByteArray := strOfNums (L.map fun (n : Nat) => (n : Int))
theorem conv_b (h : SlA w a n c g o L) : (convert 22 9 (.slice a n c)).run Tryz.prog w = .ok (.string (strB L)) w := by
  by_cases h0 : n = 0
  · subst h0
    have hL : L = [] := List.length_eq_zero_iff.1 h.len
    subst hL
    cases a with
    | none => exact run_convert_bytes_nil w 22 5 Tryz.underlying22 Tryz.underlying5 0 c _ Tryz.underlying9
    | some ad =>
      rw [run_convert_bytes_string w 22 9 5 _ 0 c Tryz.underlying22 Tryz.underlying5 Tryz.underlying9]
      exact run_bytesToString w ad 0 c [] (run_loadCells_list w ad [] (fun j v hj => by cases hj))
  · obtain ⟨e1, e2⟩ := h.addr (by have := h.le; omega)
    subst e1
    refine run_convert_bytes_arg w 22 5 Tryz.underlying22 Tryz.underlying5 g o n c _ (by simp [h.len]) (fun i hi => ?_) _ Tryz.underlying9
    rw [h.cell i hi]
    have hl : i < L.length := by rw [h.len]; exact hi
    simp [hl]
end
end Go.Proofs.YtoicpikkcefheaaGreat.T
