/- PROVED: 'BusInputs' returns true whatever the size and the inputs are: a setup has a bus just if its image has room and its inputs may be. No condition. -/
import Derived.Test.YtkmbhhgkajmfjaaCI
namespace Go.Proofs.Ytkmbhhgkajmfjaa
open Go.ChangeShapes Go.WideShapes Go.ChangeAt Go.RowKit
set_option linter.unusedVariables false
set_option linter.unusedSimpArgs false
theorem busInputs_walk {H : Type} {enc : TypeId × Value → H} {W : World} {v : Value} {d : DataW H} {p : List MemPlace} (hv : ∃ a len cap, v = .slice a len cap) (h : DataW.Trod enc Try.prog W 0 (fun _ => true) true 22 v d p) (z : Int) {d0 : DataW H}
    (hsz : (DataW.weightsEach Try.prog [3, 22] [d0, d]).all (· ≤ reachBytes) = true) :
    Calls Try.prog 3 #[.int .i64 z, v] W (RetB true W) := by
  obtain ⟨ea, b, o, n, cap, L, rfl, hE, hL, hd⟩ := open_events hv h
  exact inputs_core W z ea n cap b o L (Lib.hid hE) (Lib.hid (few hd hsz (j := 1) rfl rfl Try.underlying22 (by kernel_rfl)))
end Go.Proofs.Ytkmbhhgkajmfjaa
namespace Go.Proofs.Ytkmbhhgkajmfjaa.busInputs
open Go.ChangeShapes Go.WideShapes Go.ChangeAt Go.RowKit
set_option linter.unusedVariables false
theorem own : ownKnob Try.prog.godebug = none := by kernel_rfl
set_option maxRecDepth 100000 in
theorem lifted (os : Os) (started : os.Started) (H : Type) (enc : TypeId × Value → H) :
    ReturnsInHanded {} Try.checked os 3 .any (Rows.busInputsSpec.pre6 enc Try.prog Try.f3 Rows.busInputsRow.domain false) (Rows.busInputsSpec.post enc Try.prog Try.f3 false true false false) := by
  refine returnsInHanded_of_change_sized (C := Try.checked) own started (by kernel_rfl) Try.func3
    (ChangeSpec.witness6 (enc := enc) (C := Try.checked) false ⟨#[], #[.int .i64 0, .slice none 0 0], []⟩ 8 (by kernel_rfl) (by kernel_rfl) (by kernel_rfl) (by kernel_rfl)) ?_
  intro W base args ds gs before hval0 hW hcnd hsz0 _
  have hsz1 : (DataW.weightsEach Try.prog (Try.f3.params.toList ++ Rows.busInputsSpec.plain.varTypes Try.prog) (ds ++ gs)).all (· ≤ reachBytes) = true := hsz0
  have hval : ∀ (j : Nat) t v, Try.f3.params[j]? = some t → args[j]? = some v → Value.okWide Try.prog W .any base t v := hval0
  have hW' := hW
  have hlt := fun p hp => hW.lt (p := p) hp
  obtain ⟨p, q, hA0, hV, rfl, hfz, hnd⟩ := hW
  have hA : DataW.TrodAll enc Try.prog W 0 (fun _ => true) true Try.f3.params.toList args.toList ds p := hA0
  rw [Try.params3] at hA hval
  obtain ⟨v0, vs0, d0, ds0, p0, q0, hargs, rfl, rfl, h0, r0⟩ := trodAll_cons hA
  obtain ⟨v1, vs1, d1, ds1, p1, q1, rfl, rfl, rfl, h1, r1⟩ := trodAll_cons r0
  obtain ⟨rfl, rfl, rfl⟩ := trodAll_nil r1
  obtain rfl : args = #[v0, v1] := by cases args; simp_all
  obtain ⟨rfl, rfl⟩ := trodVars_none hV
  have hsl := okWide_slice Try.underlying22 (hval 1 22 v1 rfl rfl)
  obtain ⟨a0, rfl, rfl, rfl, w0⟩ := open_int Try.underlying3 (hval 0 3 v0 rfl rfl) h0
  have hsz : (DataW.weightsEach Try.prog [3, 22] [.lit (.int .i64 a0), d1]).all (· ≤ reachBytes) = true := hsz1
  clear hA0 hval0 hsz0 hsz1
  simp only [List.append_nil, List.nil_append] at hW' hlt
  refine (busInputs_walk hsl h1 a0 hsz).mono fun e W' ⟨he, hg⟩ => ?_
  subst he
  have ht := Below.trod laidOut (by kernel_rfl) (of_decide_eq_true (by kernel_rfl)) h1 hg (fun x hx => hlt x hx)
  refine ⟨_, rfl, post_old hW' (fun _ _ _ => (trodAll_cons_mk (shut_bool Try.underlying4 _) trodAll_mk0)) ?_ (fun _ => rfl) hg⟩
  have := trodAll_cons_mk (shut_int Try.underlying3 w0) (trodAll_cons_mk ht (trodAll_mk0 (enc := enc) (P := Try.prog) (w := W') (base := 0) (spare := fun b => decide (b < W.heap.size)) (held := true)))
  have h9 : DataW.TrodAll enc Try.prog W' 0 (fun b => decide (b < W.heap.size)) true [3, 22] [.int .i64 a0, v1] [.lit (.int .i64 a0), d1] p1 := by simpa using this
  exact h9
theorem over : Rows.busInputsRow.holds Try.pinned (OpenSpec.ofChange Rows.busInputsSpec) :=
  OpenClaim.holds_of_wide 3 Try.f3 rfl rfl rfl rfl rfl rfl rfl ⟨rfl, rfl, rfl, rfl, rfl⟩ rfl rfl rfl rfl rfl (by kernel_rfl) Try.func3 (by kernel_rfl)
    (of_decide_eq_true (by kernel_rfl)) (by unfold Func.isWrapper; first | (rw [if_pos (by decide +kernel)]; kernel_rfl) | (rw [if_neg (by decide +kernel)]; exact ⟨rfl, rfl⟩))
    (fun os started H enc _ => lifted os started H enc)
theorem proved : Rows.BusInputsSaid := over
#print axioms proved
end Go.Proofs.Ytkmbhhgkajmfjaa.busInputs
