/- PROVED: 'SoftModes' returns true whatever the five numbers are: rounded down, to the nearest and up answers rise; where one is exact all are that one; where none is, down and up are neighbours. No condition. -/
import Derived.Test.YtcjpmmhkaacpfaaPM40
import Derived.Test.YtcjpmmhkaacpfaaPM41
import Derived.Test.YtcjpmmhkaacpfaaPM42
import Derived.Test.YtcjpmmhkaacpfaaPM43
import Derived.Test.YtcjpmmhkaacpfaaPM44
import Derived.Test.YtcjpmmhkaacpfaaPM80
import Derived.Test.YtcjpmmhkaacpfaaPM81
import Derived.Test.YtcjpmmhkaacpfaaPM82
import Derived.Test.YtcjpmmhkaacpfaaPM83
import Derived.Test.YtcjpmmhkaacpfaaPM84
namespace Go.Proofs.Ytcjpmmhkaacpfaa
open Go.ChangeShapes Go.WideShapes Go.ChangeAt Go.RowKit Go.Sort
set_option linter.unusedVariables false
set_option linter.unusedSimpArgs false
theorem softModes_walk (a0 a1 a2 a3 a4 : Int) (w0 : (Lit.int .i64 a0).wf = true) (w1 : (Lit.int .i64 a1).wf = true) (w2 : (Lit.int .u64 a2).wf = true) (w3 : (Lit.int .u64 a3).wf = true) (w4 : (Lit.int .u64 a4).wf = true) (w : World) :
    Calls Try.prog 8 #[.int .i64 a0, .int .i64 a1, .int .u64 a2, .int .u64 a3, .int .u64 a4] w (RetB true w) := by
  obtain ⟨a, rfl, ha⟩ := u64_of_wf w2
  obtain ⟨b, rfl, hb⟩ := u64_of_wf w3
  obtain ⟨c, rfl, hc⟩ := u64_of_wf w4
  rcases i64_and1 a0 with hs | hs <;> rcases mode_cases a1 with h | h | h | h | h
  · exact modes_4_0 a0 a1 a b c hs h ha hb hc w
  · exact modes_4_1 a0 a1 a b c hs h ha hb hc w
  · exact modes_4_2 a0 a1 a b c hs h ha hb hc w
  · exact modes_4_3 a0 a1 a b c hs h ha hb hc w
  · exact modes_4_4 a0 a1 a b c hs h ha hb hc w
  · exact modes_8_0 a0 a1 a b c hs h ha hb hc w
  · exact modes_8_1 a0 a1 a b c hs h ha hb hc w
  · exact modes_8_2 a0 a1 a b c hs h ha hb hc w
  · exact modes_8_3 a0 a1 a b c hs h ha hb hc w
  · exact modes_8_4 a0 a1 a b c hs h ha hb hc w
end Go.Proofs.Ytcjpmmhkaacpfaa
namespace Go.Proofs.Ytcjpmmhkaacpfaa.softModes
open Go.ChangeShapes Go.WideShapes Go.ChangeAt Go.RowKit
set_option linter.unusedVariables false
theorem own : ownKnob Try.prog.godebug = none := by kernel_rfl
set_option maxRecDepth 100000 in
theorem lifted (os : Os) (started : os.Started) (H : Type) (enc : TypeId × Value → H) :
    ReturnsInHanded {} Try.checked os 8 .any (Rows.softModesSpec.pre6 enc Try.prog Try.f8 Rows.softModesRow.domain false) (Rows.softModesSpec.post enc Try.prog Try.f8 false true false false) := by
  refine returnsInHanded_of_change (C := Try.checked) own started (by kernel_rfl) Try.func8
    (ChangeSpec.witness6 (enc := enc) (C := Try.checked) false ⟨#[], #[.int .i64 0, .int .i64 0, .int .u64 0, .int .u64 0, .int .u64 0], []⟩ 8 (by kernel_rfl) (by kernel_rfl) (by kernel_rfl) (by kernel_rfl)) ?_
  intro W base args ds gs before hval0 hW hcnd _
  have hval : ∀ (j : Nat) t v, Try.f8.params[j]? = some t → args[j]? = some v → Value.okWide Try.prog W .any base t v := hval0
  have hW' := hW
  obtain ⟨p, q, hA0, hV, rfl, hfz, hnd⟩ := hW
  have hA : DataW.TrodAll enc Try.prog W 0 (fun _ => true) true Try.f8.params.toList args.toList ds p := hA0
  rw [Try.params8] at hA hval
  obtain ⟨v0, vs0, d0, ds0, p0, q0, hargs, rfl, rfl, h0, r0⟩ := trodAll_cons hA
  obtain ⟨v1, vs1, d1, ds1, p1, q1, rfl, rfl, rfl, h1, r1⟩ := trodAll_cons r0
  obtain ⟨v2, vs2, d2, ds2, p2, q2, rfl, rfl, rfl, h2, r2⟩ := trodAll_cons r1
  obtain ⟨v3, vs3, d3, ds3, p3, q3, rfl, rfl, rfl, h3, r3⟩ := trodAll_cons r2
  obtain ⟨v4, vs4, d4, ds4, p4, q4, rfl, rfl, rfl, h4, r4⟩ := trodAll_cons r3
  obtain ⟨rfl, rfl, rfl⟩ := trodAll_nil r4
  obtain rfl : args = #[v0, v1, v2, v3, v4] := by cases args; simp_all
  obtain ⟨rfl, rfl⟩ := trodVars_none hV
  obtain ⟨a0, rfl, rfl, rfl, w0⟩ := open_int Try.underlying3 (hval 0 3 v0 rfl rfl) h0
  obtain ⟨a1, rfl, rfl, rfl, w1⟩ := open_int Try.underlying3 (hval 1 3 v1 rfl rfl) h1
  obtain ⟨a2, rfl, rfl, rfl, w2⟩ := open_int Try.underlying22 (hval 2 22 v2 rfl rfl) h2
  obtain ⟨a3, rfl, rfl, rfl, w3⟩ := open_int Try.underlying22 (hval 3 22 v3 rfl rfl) h3
  obtain ⟨a4, rfl, rfl, rfl, w4⟩ := open_int Try.underlying22 (hval 4 22 v4 rfl rfl) h4
  clear hA0 hval0
  simp only [List.append_nil] at hW'
  refine (softModes_walk a0 a1 a2 a3 a4 w0 w1 w2 w3 w4 W).mono fun e W' ⟨he, hg⟩ => ?_
  subst he
  exact ⟨_, rfl, post_nums hW' (fun _ _ _ => (trodAll_cons_mk (shut_bool Try.underlying4 _) trodAll_mk0)) (fun sp => (trodAll_cons_mk (shut_int Try.underlying3 w0) (trodAll_cons_mk (shut_int Try.underlying3 w1) (trodAll_cons_mk (shut_int Try.underlying22 w2) (trodAll_cons_mk (shut_int Try.underlying22 w3) (trodAll_cons_mk (shut_int Try.underlying22 w4) trodAll_mk0)))))) (fun _ => rfl) hg (ok_one (by kernel_rfl) rfl (okWide_bool_mk Try.underlying4 _))⟩
theorem over : Rows.softModesRow.holds Try.pinned (OpenSpec.ofChange Rows.softModesSpec) :=
  OpenClaim.holds_of_wide 8 Try.f8 rfl rfl rfl rfl rfl rfl rfl ⟨rfl, rfl, rfl, rfl, rfl⟩ rfl rfl rfl rfl rfl (by kernel_rfl) Try.func8 (by kernel_rfl)
    (of_decide_eq_true (by kernel_rfl)) (by unfold Func.isWrapper; first | (rw [if_pos (by decide +kernel)]; kernel_rfl) | (rw [if_neg (by decide +kernel)]; exact ⟨rfl, rfl⟩))
    (fun os started H enc _ => lifted os started H enc)
theorem proved : Rows.SoftModesSaid := over
#print axioms proved
end Go.Proofs.Ytcjpmmhkaacpfaa.softModes
