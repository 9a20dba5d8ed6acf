/- PROVED: 'TlbPages' returns true whatever it is given: an entry serves its whole page, in its space or in all of them, and nothing beyond. No condition. -/
import Derived.Test.YtdplcdgdndeopaaC2
import Derived.Test.YtdplcdgdndeopaaF3
namespace Go.Proofs.Ytdplcdgdndeopaa.tlbPages
open Go.ChangeShapes Go.WideShapes Go.ChangeAt Go.RowKit
set_option linter.unusedVariables false
set_option linter.unusedSimpArgs false
theorem own : ownKnob Try.prog.godebug = none := by kernel_rfl
set_option maxRecDepth 100000 in
theorem lifted (os : Os) (started : os.Started) (H : Type) (enc : TypeId × Value → H) :
    ReturnsInHanded {} Try.checked os 6 .any (Rows.tlbPagesSpec.pre6 enc Try.prog Try.f6 Rows.tlbPagesRow.domain false) (Rows.tlbPagesSpec.post enc Try.prog Try.f6 false true false false) := by
  refine returnsInHanded_of_change_sized (C := Try.checked) own started (by kernel_rfl) Try.func6
    (ChangeSpec.witness6 (enc := enc) (C := Try.checked) false ⟨#[], #[.agg #[.int .i64 0, .int .u64 0, .int .i64 0, .int .u64 0, .bool false, .int .u64 0], .int .u64 0, .int .u64 0, .int .u64 0], []⟩ 8 (by kernel_rfl) (by kernel_rfl) (by kernel_rfl) (by kernel_rfl)) ?_
  intro W base args ds gs before hval0 hW hcnd hsz _
  have hval : ∀ (j : Nat) t v, Try.f6.params[j]? = some t → args[j]? = some v → Value.okWide Try.prog W .any base t v := hval0
  have hW' := hW
  have hlt := fun p hp => hW.lt (p := p) hp
  obtain ⟨p, q, hA0, hV, rfl, hfz, hnd⟩ := hW
  have hA : DataW.TrodAll enc Try.prog W 0 (fun _ => true) true Try.f6.params.toList args.toList ds p := hA0
  rw [Try.params6] at hA hval
  obtain ⟨v0, vs0, d0, ds0, p0, q0, hargs, rfl, rfl, h0, r0⟩ := trodAll_cons hA
  obtain ⟨v1, vs1, d1, ds1, p1, q1, rfl, rfl, rfl, h1, r1⟩ := trodAll_cons r0
  obtain ⟨v2, vs2, d2, ds2, p2, q2, rfl, rfl, rfl, h2, r2⟩ := trodAll_cons r1
  obtain ⟨v3, vs3, d3, ds3, p3, q3, rfl, rfl, rfl, h3, r3⟩ := trodAll_cons r2
  obtain ⟨rfl, rfl, rfl⟩ := trodAll_nil r3
  obtain rfl : args = #[v0, v1, v2, v3] := by cases args; simp_all
  obtain ⟨rfl, rfl⟩ := trodVars_none hV
  have k0 := hval 0 30 v0 rfl rfl
  have k1 := hval 1 22 v1 rfl rfl
  have k2 := hval 2 22 v2 rfl rfl
  have k3 := hval 3 22 v3 rfl rfl
  clear hA0 hval0
  simp only [List.append_nil, List.nil_append] at hW' hlt
  obtain ⟨x0, rfl, hx0⟩ := open_step k0 h0
  obtain ⟨x1, rfl, hx1⟩ : ∃ x : Nat, v1 = .int .u64 (x : Nat) ∧ Hid (x < 18446744073709551616) := by
    obtain ⟨a, e, _, _, w⟩ := open_int Try.underlying22 k1 h1
    obtain ⟨x, e2, l⟩ := u64_of_wf w
    exact ⟨x, by rw [e, e2], l⟩
  obtain ⟨x2, rfl, hx2⟩ : ∃ x : Nat, v2 = .int .u64 (x : Nat) ∧ Hid (x < 18446744073709551616) := by
    obtain ⟨a, e, _, _, w⟩ := open_int Try.underlying22 k2 h2
    obtain ⟨x, e2, l⟩ := u64_of_wf w
    exact ⟨x, by rw [e, e2], l⟩
  obtain ⟨x3, rfl, hx3⟩ : ∃ x : Nat, v3 = .int .u64 (x : Nat) ∧ Hid (x < 18446744073709551616) := by
    obtain ⟨a, e, _, _, w⟩ := open_int Try.underlying22 k3 h3
    obtain ⟨x, e2, l⟩ := u64_of_wf w
    exact ⟨x, by rw [e, e2], l⟩
  refine (pages_core tlb_ok W x0.kd x0.e.lv x0.e.ad x0.e.sp x0.e.lf x1 x2 x3 x0.e.gl hx0.ad hx0.sp hx0.lf hx1.out hx2.out hx3.out).mono fun e W' ⟨he, hg⟩ => ?_
  subst he
  have ht0 := Below.trod laidOut (by kernel_rfl) (of_decide_eq_true (by kernel_rfl)) h0 hg (fun x hx => hlt x (by first | exact List.mem_append_left _ hx | (simp only [List.mem_append]; simp [hx])))
  have ht1 := Below.trod laidOut (by kernel_rfl) (of_decide_eq_true (by kernel_rfl)) h1 hg (fun x hx => hlt x (by first | exact List.mem_append_right _ (List.mem_append_left _ hx) | (simp only [List.mem_append]; simp [hx])))
  have ht2 := Below.trod laidOut (by kernel_rfl) (of_decide_eq_true (by kernel_rfl)) h2 hg (fun x hx => hlt x (by first | exact List.mem_append_right _ (List.mem_append_right _ (List.mem_append_left _ hx)) | (simp only [List.mem_append]; simp [hx])))
  have ht3 := Below.trod laidOut (by kernel_rfl) (of_decide_eq_true (by kernel_rfl)) h3 hg (fun x hx => hlt x (by first | exact List.mem_append_right _ (List.mem_append_right _ (List.mem_append_right _ (hx))) | (simp only [List.mem_append]; simp [hx])))
  refine ⟨_, rfl, post_old hW' (fun _ _ _ => (trodAll_cons_mk (shut_bool Try.underlying4 _) trodAll_mk0)) ?_ (fun _ => rfl) hg⟩
  have h9 := (trodAll_cons_mk ht0 (trodAll_cons_mk ht1 (trodAll_cons_mk ht2 (trodAll_cons_mk ht3 (trodAll_mk0 (enc := enc) (P := Try.prog) (w := W') (base := 0) (spare := fun b => decide (b < W.heap.size)) (held := true))))))
  simp only [List.append_nil, List.nil_append] at h9
  exact h9
theorem over : Rows.tlbPagesRow.holds Try.pinned (OpenSpec.ofChange Rows.tlbPagesSpec) :=
  OpenClaim.holds_of_wide 6 Try.f6 rfl rfl rfl rfl rfl rfl rfl ⟨rfl, rfl, rfl, rfl, rfl⟩ rfl rfl rfl rfl rfl (by kernel_rfl) Try.func6 (by kernel_rfl)
    (of_decide_eq_true (by kernel_rfl)) (by unfold Func.isWrapper; first | (rw [if_pos (by decide +kernel)]; kernel_rfl) | (rw [if_neg (by decide +kernel)]; exact ⟨rfl, rfl⟩))
    (fun os started H enc _ => lifted os started H enc)
theorem proved : Rows.TlbPagesSaid := over
#print axioms proved
end Go.Proofs.Ytdplcdgdndeopaa.tlbPages
