/- PROVED: 'BusMay' returns true whatever the inputs, the ticks, the place and the size are: what May tells is what then comes; asking changes nothing. No condition. -/
import Derived.Test.YtkmbhhgkajmfjaaCM
namespace Go.Proofs.Ytkmbhhgkajmfjaa
open Go.ChangeShapes Go.WideShapes Go.ChangeAt Go.RowKit
set_option linter.unusedVariables false
set_option linter.unusedSimpArgs false
theorem busMay_walk {H : Type} {enc : TypeId × Value → H} {W : World} {v : Value} {d : DataW H} {p : List MemPlace} (hv : ∃ a len cap, v = .slice a len cap) (h : DataW.Trod enc Try.prog W 0 (fun _ => true) true 22 v d p) (t x z : Int) (hx : (Lit.int .u64 x).wf = true) (hz : (Lit.int .i64 z).wf = true) {ds : List (DataW H)}
    (hsz : (DataW.weightsEach Try.prog [22, 3, 28, 3] (d :: ds)).all (· ≤ reachBytes) = true) :
    Calls Try.prog 4 #[v, .int .i64 t, .int .u64 x, .int .i64 z] W (RetB true W) := by
  obtain ⟨ea, b, o, n, cap, L, rfl, hE, hL, hd⟩ := open_events hv h
  obtain ⟨x0, rfl, hx0⟩ := u64_of_wf hx
  exact may_core W ea n cap b o L t z x0 (Lib.hid hE) (Lib.hid (few hd hsz (j := 0) rfl rfl Try.underlying22 (by kernel_rfl))) hx0 (Lib.hid hz)
end Go.Proofs.Ytkmbhhgkajmfjaa
namespace Go.Proofs.Ytkmbhhgkajmfjaa.busMay
open Go.ChangeShapes Go.WideShapes Go.ChangeAt Go.RowKit
set_option linter.unusedVariables false
theorem own : ownKnob Try.prog.godebug = none := by kernel_rfl
set_option maxRecDepth 100000 in
theorem lifted (os : Os) (started : os.Started) (H : Type) (enc : TypeId × Value → H) :
    ReturnsInHanded {} Try.checked os 4 .any (Rows.busMaySpec.pre6 enc Try.prog Try.f4 Rows.busMayRow.domain false) (Rows.busMaySpec.post enc Try.prog Try.f4 false true false false) := by
  refine returnsInHanded_of_change_sized (C := Try.checked) own started (by kernel_rfl) Try.func4
    (ChangeSpec.witness6 (enc := enc) (C := Try.checked) false ⟨#[], #[.slice none 0 0, .int .i64 0, .int .u64 0, .int .i64 0], []⟩ 8 (by kernel_rfl) (by kernel_rfl) (by kernel_rfl) (by kernel_rfl)) ?_
  intro W base args ds gs before hval0 hW hcnd hsz0 _
  have hsz1 : (DataW.weightsEach Try.prog (Try.f4.params.toList ++ Rows.busMaySpec.plain.varTypes Try.prog) (ds ++ gs)).all (· ≤ reachBytes) = true := hsz0
  have hval : ∀ (j : Nat) t v, Try.f4.params[j]? = some t → args[j]? = some v → Value.okWide Try.prog W .any base t v := hval0
  have hW' := hW
  have hlt := fun p hp => hW.lt (p := p) hp
  obtain ⟨p, q, hA0, hV, rfl, hfz, hnd⟩ := hW
  have hA : DataW.TrodAll enc Try.prog W 0 (fun _ => true) true Try.f4.params.toList args.toList ds p := hA0
  rw [Try.params4] at hA hval
  obtain ⟨v0, vs0, d0, ds0, p0, q0, hargs, rfl, rfl, h0, r0⟩ := trodAll_cons hA
  obtain ⟨v1, vs1, d1, ds1, p1, q1, rfl, rfl, rfl, h1, r1⟩ := trodAll_cons r0
  obtain ⟨v2, vs2, d2, ds2, p2, q2, rfl, rfl, rfl, h2, r2⟩ := trodAll_cons r1
  obtain ⟨v3, vs3, d3, ds3, p3, q3, rfl, rfl, rfl, h3, r3⟩ := trodAll_cons r2
  obtain ⟨rfl, rfl, rfl⟩ := trodAll_nil r3
  obtain rfl : args = #[v0, v1, v2, v3] := by cases args; simp_all
  obtain ⟨rfl, rfl⟩ := trodVars_none hV
  have hsl := okWide_slice Try.underlying22 (hval 0 22 v0 rfl rfl)
  obtain ⟨a1, rfl, rfl, rfl, w1⟩ := open_int Try.underlying3 (hval 1 3 v1 rfl rfl) h1
  obtain ⟨a2, rfl, rfl, rfl, w2⟩ := open_int Try.underlying28 (hval 2 28 v2 rfl rfl) h2
  obtain ⟨a3, rfl, rfl, rfl, w3⟩ := open_int Try.underlying3 (hval 3 3 v3 rfl rfl) h3
  have hsz : (DataW.weightsEach Try.prog [22, 3, 28, 3] [d0, .lit (.int .i64 a1), .lit (.int .u64 a2), .lit (.int .i64 a3)]).all (· ≤ reachBytes) = true := hsz1
  clear hA0 hval0 hsz0 hsz1
  simp only [List.append_nil] at hW' hlt
  refine (busMay_walk hsl h0 a1 a2 a3 w2 w3 hsz).mono fun e W' ⟨he, hg⟩ => ?_
  subst he
  have ht := Below.trod laidOut (by kernel_rfl) (of_decide_eq_true (by kernel_rfl)) h0 hg (fun x hx => hlt x hx)
  refine ⟨_, rfl, post_old hW' (fun _ _ _ => (trodAll_cons_mk (shut_bool Try.underlying4 _) trodAll_mk0)) ?_ (fun _ => rfl) hg⟩
  have := trodAll_cons_mk ht (trodAll_cons_mk (shut_int Try.underlying3 w1) (trodAll_cons_mk (shut_int Try.underlying28 w2) (trodAll_cons_mk (shut_int Try.underlying3 w3) (trodAll_mk0 (enc := enc) (P := Try.prog) (w := W') (base := 0) (spare := fun b => decide (b < W.heap.size)) (held := true)))))
  have h9 : DataW.TrodAll enc Try.prog W' 0 (fun b => decide (b < W.heap.size)) true [22, 3, 28, 3] [v0, .int .i64 a1, .int .u64 a2, .int .i64 a3] [d0, .lit (.int .i64 a1), .lit (.int .u64 a2), .lit (.int .i64 a3)] p0 := by simpa using this
  exact h9
theorem over : Rows.busMayRow.holds Try.pinned (OpenSpec.ofChange Rows.busMaySpec) :=
  OpenClaim.holds_of_wide 4 Try.f4 rfl rfl rfl rfl rfl rfl rfl ⟨rfl, rfl, rfl, rfl, rfl⟩ rfl rfl rfl rfl rfl (by kernel_rfl) Try.func4 (by kernel_rfl)
    (of_decide_eq_true (by kernel_rfl)) (by unfold Func.isWrapper; first | (rw [if_pos (by decide +kernel)]; kernel_rfl) | (rw [if_neg (by decide +kernel)]; exact ⟨rfl, rfl⟩))
    (fun os started H enc _ => lifted os started H enc)
theorem proved : Rows.BusMaySaid := over
#print axioms proved
end Go.Proofs.Ytkmbhhgkajmfjaa.busMay
