/- PROVED: 'RamDoes' returns true whatever the image and the steps are: every call answers as the chapter says, in every order. No condition. -/
import Derived.Test.YtibgdlianedcbaaY5
namespace Go.Proofs.Ytibgdlianedcbaa
open Go.ChangeShapes Go.WideShapes Go.ChangeAt Go.RowKit
set_option linter.unusedVariables false
set_option linter.unusedSimpArgs false
theorem ramDoes_walk {H : Type} {enc : TypeId × Value → H} {W : World} {v u : Value} {d f : DataW H} {p q : List MemPlace} (hv : ∃ a len cap, v = .slice a len cap) (hu : ∃ a len cap, u = .slice a len cap)
    (h : DataW.Trod enc Try.prog W 0 (fun _ => true) true 22 v d p) (k : DataW.Trod enc Try.prog W 0 (fun _ => true) true 23 u f q) (hsz : (DataW.weightsEach Try.prog [22, 23] [d, f]).all (· ≤ reachBytes) = true) :
    Calls Try.prog 3 #[v, u] W (RetB true W) := by
  obtain ⟨sa, g0, o0, n0, c0, B0, rfl, i1, i2, i3, i4, -, hd⟩ := open_image hv h
  obtain ⟨ta, b, o, N, cap, K, Z, A, V, X, XL, XC, rfl, hta, hS, hN, hX⟩ := open_steps5 hu k
  exact does_core W sa g0 o0 n0 c0 B0 ta b o N cap K Z A V X XL XC (Lib.hid ⟨i1, i2, i3, i4⟩) (Lib.hid (few_bytes hd hsz)) (Lib.hid hS) (Lib.hid hta) (Lib.hid hN) (Lib.hid hX)
end Go.Proofs.Ytibgdlianedcbaa
namespace Go.Proofs.Ytibgdlianedcbaa.ramDoes
open Go.ChangeShapes Go.WideShapes Go.ChangeAt Go.RowKit
set_option linter.unusedVariables false
theorem own : ownKnob Try.prog.godebug = none := by kernel_rfl
set_option maxRecDepth 100000 in
theorem lifted (os : Os) (started : os.Started) (H : Type) (enc : TypeId × Value → H) :
    ReturnsInHanded {} Try.checked os 3 .any (Rows.ramDoesSpec.pre6 enc Try.prog Try.f3 Rows.ramDoesRow.domain false) (Rows.ramDoesSpec.post enc Try.prog Try.f3 false true false false) := by
  refine returnsInHanded_of_change_sized (C := Try.checked) own started (by kernel_rfl) Try.func3
    (ChangeSpec.witness6 (enc := enc) (C := Try.checked) false ⟨#[], #[.slice none 0 0, .slice none 0 0], []⟩ 8 (by kernel_rfl) (by kernel_rfl) (by kernel_rfl) (by kernel_rfl)) ?_
  intro W base args ds gs before hval0 hW hcnd hsz0 _
  have hsz1 : (DataW.weightsEach Try.prog (Try.f3.params.toList ++ Rows.ramDoesSpec.plain.varTypes Try.prog) (ds ++ gs)).all (· ≤ reachBytes) = true := hsz0
  have hval : ∀ (j : Nat) t v, Try.f3.params[j]? = some t → args[j]? = some v → Value.okWide Try.prog W .any base t v := hval0
  have hW' := hW
  have hlt := fun p hp => hW.lt (p := p) hp
  obtain ⟨p, q, hA0, hV, rfl, hfz, hnd⟩ := hW
  have hA : DataW.TrodAll enc Try.prog W 0 (fun _ => true) true Try.f3.params.toList args.toList ds p := hA0
  rw [Try.params3] at hA hval
  obtain ⟨v0, vs0, d0, ds0, p0, q0, hargs, rfl, rfl, h0, r0⟩ := trodAll_cons hA
  obtain ⟨v1, vs1, d1, ds1, p1, q1, rfl, rfl, rfl, h1, r1⟩ := trodAll_cons r0
  obtain ⟨rfl, rfl, rfl⟩ := trodAll_nil r1
  obtain rfl : args = #[v0, v1] := by cases args; simp_all
  obtain ⟨rfl, rfl⟩ := trodVars_none hV
  have k0 := okWide_slice Try.underlying22 (hval 0 22 v0 rfl rfl)
  have k1 := okWide_slice Try.underlying23 (hval 1 23 v1 rfl rfl)
  have hsz : (DataW.weightsEach Try.prog [22, 23] [d0, d1]).all (· ≤ reachBytes) = true := hsz1
  clear hA0 hval0 hsz0 hsz1
  simp only [List.append_nil] at hW' hlt
  refine (ramDoes_walk k0 k1 h0 h1 hsz).mono fun e W' ⟨he, hg⟩ => ?_
  subst he
  have ht := Below.trod laidOut (by kernel_rfl) (of_decide_eq_true (by kernel_rfl)) h0 hg (fun x hx => hlt x (List.mem_append_left _ hx))
  have ht1 := Below.trod laidOut (by kernel_rfl) (of_decide_eq_true (by kernel_rfl)) h1 hg (fun x hx => hlt x (List.mem_append_right _ hx))
  refine ⟨_, rfl, post_old hW' (fun _ _ _ => (trodAll_cons_mk (shut_bool Try.underlying4 _) trodAll_mk0)) ?_ (fun _ => rfl) hg⟩
  have := trodAll_cons_mk ht (trodAll_cons_mk ht1 (trodAll_mk0 (enc := enc) (P := Try.prog) (w := W') (base := 0) (spare := fun b => decide (b < W.heap.size)) (held := true)))
  have h9 : DataW.TrodAll enc Try.prog W' 0 (fun b => decide (b < W.heap.size)) true [22, 23] [v0, v1] [d0, d1] (p0 ++ p1) := by simpa using this
  exact h9
theorem over : Rows.ramDoesRow.holds Try.pinned (OpenSpec.ofChange Rows.ramDoesSpec) :=
  OpenClaim.holds_of_wide 3 Try.f3 rfl rfl rfl rfl rfl rfl rfl ⟨rfl, rfl, rfl, rfl, rfl⟩ rfl rfl rfl rfl rfl (by kernel_rfl) Try.func3 (by kernel_rfl)
    (of_decide_eq_true (by kernel_rfl)) (by unfold Func.isWrapper; first | (rw [if_pos (by decide +kernel)]; kernel_rfl) | (rw [if_neg (by decide +kernel)]; exact ⟨rfl, rfl⟩))
    (fun os started H enc _ => lifted os started H enc)
theorem proved : Rows.RamDoesSaid := over
#print axioms proved
end Go.Proofs.Ytibgdlianedcbaa.ramDoes
