/- The map of pages: its keys, its values. -/
import Derived.Test.YtibgdlianedcbaaM0
import Derived.WalkKit
import Derived.ProofKit
import Derived.Maps.OwnSet
import Derived.DeepKeys4
import Derived.RegionTactic
namespace Go.Proofs.Ytibgdlianedcbaa
open Go.Maps Go.WideMaps Go.RowKit
set_option linter.unusedVariables false
set_option linter.unusedSimpArgs false
theorem laidOut : laidOutB Try.prog = true := by kernel_rfl
theorem rowSpot : (58 : TypeId) < Try.prog.types.size := of_decide_eq_true (by kernel_rfl)
theorem wideSpot : (match Try.prog.underlying 58 with | some (.array _ _) | some (.struct _) => true | _ => false) = true := by kernel_rfl
theorem lawSpot : Keyed Try.prog 58 := Keyed.of_law (deep_law_laid laidOut (m := 2) (by omega) rowSpot (by kernel_rfl) wideSpot)
theorem zeroPage (w : World) : (zeroValue 59).run Try.prog w = .ok (.pointer none) w := by kernel_rfl
/-- How a page's place reads: the number of its block, one up; none: 0. -/
def pageR (v : Value) : Option (DataW Unit × List MemPlace) :=
  match v with
  | .pointer none => some (.lit (.int .i64 0), [])
  | .pointer (some ⟨p, 0, none⟩) => some (.lit (.int .i64 ((p : Int) + 1)), [])
  | _ => none
def pageD (p : Nat) : DataW Unit := .lit (.int .i64 ((p : Int) + 1))
def noneD : DataW Unit := .lit (.int .i64 0)
def pageV (p : Nat) : Value := .pointer (some ⟨p, 0, none⟩)
theorem pageR_mk (p : Nat) : pageR (pageV p) = some (pageD p, []) := rfl
theorem pageR_none : pageR (.pointer none) = some (noneD, []) := rfl
theorem pageR_inv {v : Value} {p : Nat} {ps : List MemPlace} (h : pageR v = some (pageD p, ps)) : v = pageV p := by
  unfold pageR pageD at h
  split at h
  · simp at h; omega
  · rename_i q
    simp at h
    obtain ⟨h, -⟩ := h
    obtain rfl : q = p := by omega
    rfl
  · cases h
theorem pageR_inv_none {v : Value} {ps : List MemPlace} (h : pageR v = some (noneD, ps)) : v = .pointer none := by
  unfold pageR noneD at h
  split at h
  · rfl
  · simp at h; omega
  · cases h
def keyV (s : Nat) : Value := .agg #[.int .u64 s]
def keyL (s : Nat) : Lit := .string (keyBytes [.int .u64 s])
theorem keySpot (s : Nat) (h1 : (Lit.int .u64 s).wf = true) : keyOf Try.prog 58 (keyV s) = some (keyL s) := by
  have k1 : Try.prog.keyType 58 = true := by kernel_rfl
  have k2 : Try.prog.cellsOf 58 = 1 := by kernel_rfl
  have k3 : Try.prog.cellsOf 30 = 1 := by kernel_rfl
  obtain ⟨d, k5⟩ : ∃ d, Try.prog.types.size + 1 = d + 2 := ⟨Try.prog.types.size - 1, by have : 0 < Try.prog.types.size := of_decide_eq_true (by kernel_rfl); omega⟩
  have k6 : Try.prog.keyLits (d + 2) 58 [.int .u64 s] = some [.int .u64 s] := by
    simp [Program.keyLits, Try.underlying58, k2, k3, Try.underlying30, h1, List.mapM_cons, List.mapM_nil]
  have k7 : Value.formed Try.prog 58 (keyV s) = true := by simp [Value.formed, keyV, Try.underlying58, k2]
  unfold keyOf keyL
  rw [Try.underlying58]
  simp only [k1, k7, k5]
  show (Program.keyLits Try.prog (d + 2) 58 [.int .u64 s]).map (fun ls => Lit.string (keyBytes ls)) = _
  rw [k6]
  rfl
theorem keyL_ne {x y : Nat} (h1 : (Lit.int .u64 x).wf = true) (h3 : (Lit.int .u64 y).wf = true) (h : x ≠ y) : keyL x ≠ keyL y := by
  intro e
  have k1 := keySpot x h1
  have k2 := keySpot y h3
  rw [← e] at k2
  have := lawSpot.inj k1 k2
  unfold keyV at this
  simp at this
  exact h (by omega)
theorem wfU {x : Nat} (h : x < 18446744073709551616) : (Lit.int .u64 x).wf = true := by simp [Lit.wf, IntKind.min, IntKind.max, IntKind.signed, IntKind.bits]; omega
end Go.Proofs.Ytibgdlianedcbaa
