/- PROVED: 'BusTimes' returns true whatever the image, the inputs and the steps are: the time is how many cycles have begun; RAM stays as the image and the writes have it; two buses of one setup that are done the same to tell the same. No condition. -/
import Derived.Test.YtkmbhhgkajmfjaaCT
namespace Go.Proofs.Ytkmbhhgkajmfjaa
open Go.ChangeShapes Go.WideShapes Go.ChangeAt Go.RowKit
set_option linter.unusedVariables false
set_option linter.unusedSimpArgs false
theorem busTimes_walk {H : Type} {enc : TypeId × Value → H} {W : World} {v0 v1 v2 : Value} {d0 d1 d2 : DataW H} {p0 p1 p2 : List MemPlace} (hv0 : ∃ a len cap, v0 = .slice a len cap) (hv1 : ∃ a len cap, v1 = .slice a len cap) (hv2 : ∃ a len cap, v2 = .slice a len cap)
    (h0 : DataW.Trod enc Try.prog W 0 (fun _ => true) true 27 v0 d0 p0) (h1 : DataW.Trod enc Try.prog W 0 (fun _ => true) true 22 v1 d1 p1) (h2 : DataW.Trod enc Try.prog W 0 (fun _ => true) true 42 v2 d2 p2)
    (hsz : (DataW.weightsEach Try.prog [27, 22, 42] [d0, d1, d2]).all (· ≤ reachBytes) = true) :
    Calls Try.prog 5 #[v0, v1, v2] W (RetB true W) := by
  obtain ⟨ia, ig, io, n, ic, X, rfl, i1, i2, i3, i4, i5⟩ := open_bytes hv0 h0
  obtain ⟨ea, eg, eo, en, ec, L, rfl, hE, hL, hd⟩ := open_events hv1 h1
  obtain ⟨sa, b, o, N, cap, K, Z, A, V, rfl, hS, hsa, hd2⟩ := open_steps hv2 h2
  exact times_core W ia ig io n ic X ea en ec eg eo L sa b o N cap K Z A V (Lib.hid ⟨i1, i2, i3, i4⟩) (Lib.hid hE) (Lib.hid (few hd hsz (j := 1) rfl rfl Try.underlying22 (by kernel_rfl))) (Lib.hid hS) (Lib.hid hsa) (Lib.hid (few hd2 hsz (j := 2) rfl rfl Try.underlying42 (by kernel_rfl)))
end Go.Proofs.Ytkmbhhgkajmfjaa
namespace Go.Proofs.Ytkmbhhgkajmfjaa.busTimes
open Go.ChangeShapes Go.WideShapes Go.ChangeAt Go.RowKit
set_option linter.unusedVariables false
theorem own : ownKnob Try.prog.godebug = none := by kernel_rfl
set_option maxRecDepth 100000 in
theorem lifted (os : Os) (started : os.Started) (H : Type) (enc : TypeId × Value → H) :
    ReturnsInHanded {} Try.checked os 5 .any (Rows.busTimesSpec.pre6 enc Try.prog Try.f5 Rows.busTimesRow.domain false) (Rows.busTimesSpec.post enc Try.prog Try.f5 false true false false) := by
  refine returnsInHanded_of_change_sized (C := Try.checked) own started (by kernel_rfl) Try.func5
    (ChangeSpec.witness6 (enc := enc) (C := Try.checked) false ⟨#[], #[.slice none 0 0, .slice none 0 0, .slice none 0 0], []⟩ 8 (by kernel_rfl) (by kernel_rfl) (by kernel_rfl) (by kernel_rfl)) ?_
  intro W base args ds gs before hval0 hW hcnd hsz0 _
  have hsz1 : (DataW.weightsEach Try.prog (Try.f5.params.toList ++ Rows.busTimesSpec.plain.varTypes Try.prog) (ds ++ gs)).all (· ≤ reachBytes) = true := hsz0
  have hval : ∀ (j : Nat) t v, Try.f5.params[j]? = some t → args[j]? = some v → Value.okWide Try.prog W .any base t v := hval0
  have hW' := hW
  have hlt := fun p hp => hW.lt (p := p) hp
  obtain ⟨p, q, hA0, hV, rfl, hfz, hnd⟩ := hW
  have hA : DataW.TrodAll enc Try.prog W 0 (fun _ => true) true Try.f5.params.toList args.toList ds p := hA0
  rw [Try.params5] at hA hval
  obtain ⟨v0, vs0, d0, ds0, p0, q0, hargs, rfl, rfl, h0, r0⟩ := trodAll_cons hA
  obtain ⟨v1, vs1, d1, ds1, p1, q1, rfl, rfl, rfl, h1, r1⟩ := trodAll_cons r0
  obtain ⟨v2, vs2, d2, ds2, p2, q2, rfl, rfl, rfl, h2, r2⟩ := trodAll_cons r1
  obtain ⟨rfl, rfl, rfl⟩ := trodAll_nil r2
  obtain rfl : args = #[v0, v1, v2] := by cases args; simp_all
  obtain ⟨rfl, rfl⟩ := trodVars_none hV
  have hs0 := okWide_slice Try.underlying27 (hval 0 27 v0 rfl rfl)
  have hs1 := okWide_slice Try.underlying22 (hval 1 22 v1 rfl rfl)
  have hs2 := okWide_slice Try.underlying42 (hval 2 42 v2 rfl rfl)
  have hsz : (DataW.weightsEach Try.prog [27, 22, 42] [d0, d1, d2]).all (· ≤ reachBytes) = true := hsz1
  clear hA0 hval0 hsz0 hsz1
  simp only [List.append_nil] at hW' hlt
  refine (busTimes_walk hs0 hs1 hs2 h0 h1 h2 hsz).mono fun e W' ⟨he, hg⟩ => ?_
  subst he
  have ht0 := Below.trod laidOut (by kernel_rfl) (of_decide_eq_true (by kernel_rfl)) h0 hg (fun x hx => hlt x (List.mem_append_left _ hx))
  have ht1 := Below.trod laidOut (by kernel_rfl) (of_decide_eq_true (by kernel_rfl)) h1 hg (fun x hx => hlt x (List.mem_append_right _ (List.mem_append_left _ hx)))
  have ht2 := Below.trod laidOut (by kernel_rfl) (of_decide_eq_true (by kernel_rfl)) h2 hg (fun x hx => hlt x (List.mem_append_right _ (List.mem_append_right _ hx)))
  refine ⟨_, rfl, post_old hW' (fun _ _ _ => (trodAll_cons_mk (shut_bool Try.underlying4 _) trodAll_mk0)) ?_ (fun _ => rfl) hg⟩
  have := trodAll_cons_mk ht0 (trodAll_cons_mk ht1 (trodAll_cons_mk ht2 (trodAll_mk0 (enc := enc) (P := Try.prog) (w := W') (base := 0) (spare := fun b => decide (b < W.heap.size)) (held := true))))
  have h9 : DataW.TrodAll enc Try.prog W' 0 (fun b => decide (b < W.heap.size)) true [27, 22, 42] [v0, v1, v2] [d0, d1, d2] (p0 ++ (p1 ++ p2)) := by simpa using this
  exact h9
theorem over : Rows.busTimesRow.holds Try.pinned (OpenSpec.ofChange Rows.busTimesSpec) :=
  OpenClaim.holds_of_wide 5 Try.f5 rfl rfl rfl rfl rfl rfl rfl ⟨rfl, rfl, rfl, rfl, rfl⟩ rfl rfl rfl rfl rfl (by kernel_rfl) Try.func5 (by kernel_rfl)
    (of_decide_eq_true (by kernel_rfl)) (by unfold Func.isWrapper; first | (rw [if_pos (by decide +kernel)]; kernel_rfl) | (rw [if_neg (by decide +kernel)]; exact ⟨rfl, rfl⟩))
    (fun os started H enc _ => lifted os started H enc)
theorem proved : Rows.BusTimesSaid := over
#print axioms proved
end Go.Proofs.Ytkmbhhgkajmfjaa.busTimes
