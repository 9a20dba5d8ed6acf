/- The numbers of 'fixed'. -/
import Derived.Test.YtdplcdgdndeopaaT0
import Derived.KernelRfl
namespace Go.Proofs.Ytdplcdgdndeopaa
open Go.ChangeShapes Go.WideShapes Go.ChangeAt Go.RowKit Go.Sort
set_option linter.unusedVariables false
set_option linter.unusedSimpArgs false
def eF : En := ⟨4096, 0, 5, false, 1⟩
def eBad : En := ⟨4097, 0, 0, false, 0⟩
theorem eF_wf : eF.Wf := ⟨by decide, by decide, by decide, by decide⟩
theorem eBad_wf : eBad.Wf := ⟨by decide, by decide, by decide, by decide⟩
theorem f_all : ∃ X1 X2 : St, putS (S0 0) eF = X1 ∧ X1.Ok ∧ okP eF = true ∧ findE X1 5 8191 = eF ∧ findB X1 5 8191 = true ∧ findE X1 6 4096 = E0 ∧ findB X1 6 4096 = false ∧ okP eBad = false ∧ putS X1 eBad = X1 ∧
    fenceS X1 true 6144 true 5 = X2 ∧ X2.Ok ∧ findE X2 5 8191 = E0 ∧ findB X2 5 8191 = false ∧ allS X2 = [] ∧ allS X1 = [eF] := by
  refine ⟨_, _, rfl, putS_ok _ (S0_ok 0 (by decide)) _ eF_wf, by kernel_rfl, by kernel_rfl, by kernel_rfl, by kernel_rfl, by kernel_rfl, by kernel_rfl, ?_, rfl, fenceS_ok _ (putS_ok _ (S0_ok 0 (by decide)) _ eF_wf) _ _ _ _, by kernel_rfl, by kernel_rfl, by kernel_rfl, by kernel_rfl⟩
  unfold putS
  rw [if_neg (by decide)]
theorem OwnE.slice {t : TypeId} {w : World} {base : Nat} {v : Value} {L : List En} (h : OwnE t w base v L) : ∃ a c, v = .slice a L.length c := by
  rcases h.2 with ⟨e, h0⟩ | ⟨g, cap, cur, e, hbg, hg, hnc, hcm, hcs, htake⟩
  · exact ⟨none, 0, by rw [e, h0]⟩
  · exact ⟨_, _, e⟩
end Go.Proofs.Ytdplcdgdndeopaa
