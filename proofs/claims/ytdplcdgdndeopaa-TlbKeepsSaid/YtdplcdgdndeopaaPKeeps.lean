/- PROVED: 'TlbKeeps' returns true whatever it is given: what is found was put and has not gone since, is of the address and the space, and is the last that was put at that place; what was put is found at once. No condition. -/
import Derived.Test.YtdplcdgdndeopaaS4
namespace Go.Proofs.Ytdplcdgdndeopaa.tlbKeeps
open Go.ChangeShapes Go.WideShapes Go.ChangeAt Go.RowKit
set_option linter.unusedVariables false
set_option linter.unusedSimpArgs false
theorem own : ownKnob Try.prog.godebug = none := by kernel_rfl
set_option maxRecDepth 100000 in
theorem lifted (os : Os) (started : os.Started) (H : Type) (enc : TypeId × Value → H) :
    ReturnsInHanded {} Try.checked os 4 .any (Rows.tlbKeepsSpec.pre6 enc Try.prog Try.f4 Rows.tlbKeepsRow.domain false) (Rows.tlbKeepsSpec.post enc Try.prog Try.f4 false true false false) := by
  refine returnsInHanded_of_change_sized (C := Try.checked) own started (by kernel_rfl) Try.func4
    (ChangeSpec.witness6 (enc := enc) (C := Try.checked) false ⟨#[], #[.int .u64 0, .slice none 0 0], []⟩ 8 (by kernel_rfl) (by kernel_rfl) (by kernel_rfl) (by kernel_rfl)) ?_
  intro W base args ds gs before hval0 hW hcnd hsz _
  have hval : ∀ (j : Nat) t v, Try.f4.params[j]? = some t → args[j]? = some v → Value.okWide Try.prog W .any base t v := hval0
  have hW' := hW
  have hlt := fun p hp => hW.lt (p := p) hp
  obtain ⟨p, q, hA0, hV, rfl, hfz, hnd⟩ := hW
  have hA : DataW.TrodAll enc Try.prog W 0 (fun _ => true) true Try.f4.params.toList args.toList ds p := hA0
  rw [Try.params4] at hA hval
  obtain ⟨v0, vs0, d0, ds0, p0, q0, hargs, rfl, rfl, h0, r0⟩ := trodAll_cons hA
  obtain ⟨v1, vs1, d1, ds1, p1, q1, rfl, rfl, rfl, h1, r1⟩ := trodAll_cons r0
  obtain ⟨rfl, rfl, rfl⟩ := trodAll_nil r1
  obtain rfl : args = #[v0, v1] := by cases args; simp_all
  obtain ⟨rfl, rfl⟩ := trodVars_none hV
  have k0 := hval 0 22 v0 rfl rfl
  have k1 := hval 1 23 v1 rfl rfl
  clear hA0 hval0
  simp only [List.append_nil, List.nil_append] at hW' hlt
  obtain ⟨x0, rfl, hx0⟩ : ∃ x : Nat, v0 = .int .u64 (x : Nat) ∧ Hid (x < 18446744073709551616) := by
    obtain ⟨a, e, _, _, w⟩ := open_int Try.underlying22 k0 h0
    obtain ⟨x, e2, l⟩ := u64_of_wf w
    exact ⟨x, by rw [e, e2], l⟩
  obtain ⟨sa1, b1, o1, n1, c1, X1, rfl, HS1, HP1, hd1⟩ := open_steps (okWide_slice Try.underlying23 k1) h1
  have HN1 := few_steps hd1 (j := 1) rfl rfl hsz
  refine (keeps_core (Lib.hid tlb_ok) W x0 b1 o1 n1 c1 sa1 X1 hx0 (Lib.hid HS1) (Lib.hid HP1) (Lib.hid HN1)).mono fun e W' ⟨he, hg⟩ => ?_
  subst he
  have ht0 := Below.trod laidOut (by kernel_rfl) (of_decide_eq_true (by kernel_rfl)) h0 hg (fun x hx => hlt x (by first | exact List.mem_append_left _ hx | (simp only [List.mem_append]; simp [hx])))
  have ht1 := Below.trod laidOut (by kernel_rfl) (of_decide_eq_true (by kernel_rfl)) h1 hg (fun x hx => hlt x (by first | exact List.mem_append_right _ (hx) | (simp only [List.mem_append]; simp [hx])))
  refine ⟨_, rfl, post_old hW' (fun _ _ _ => (trodAll_cons_mk (shut_bool Try.underlying4 _) trodAll_mk0)) ?_ (fun _ => rfl) hg⟩
  have h9 := (trodAll_cons_mk ht0 (trodAll_cons_mk ht1 (trodAll_mk0 (enc := enc) (P := Try.prog) (w := W') (base := 0) (spare := fun b => decide (b < W.heap.size)) (held := true))))
  simp only [List.append_nil, List.nil_append] at h9
  exact h9
theorem over : Rows.tlbKeepsRow.holds Try.pinned (OpenSpec.ofChange Rows.tlbKeepsSpec) :=
  OpenClaim.holds_of_wide 4 Try.f4 rfl rfl rfl rfl rfl rfl rfl ⟨rfl, rfl, rfl, rfl, rfl⟩ rfl rfl rfl rfl rfl (by kernel_rfl) Try.func4 (by kernel_rfl)
    (of_decide_eq_true (by kernel_rfl)) (by unfold Func.isWrapper; first | (rw [if_pos (by decide +kernel)]; kernel_rfl) | (rw [if_neg (by decide +kernel)]; exact ⟨rfl, rfl⟩))
    (fun os started H enc _ => lifted os started H enc)
theorem proved : Rows.TlbKeepsSaid := over
#print axioms proved
end Go.Proofs.Ytdplcdgdndeopaa.tlbKeeps
