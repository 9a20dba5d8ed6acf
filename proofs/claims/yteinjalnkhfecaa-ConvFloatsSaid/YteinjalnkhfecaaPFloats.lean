/- PROVED: 'ConvFloats' returns true whatever the arguments are: any float of the other size. No condition. -/
import Derived.Test.YteinjalnkhfecaaZ6
import Derived.Test.YteinjalnkhfecaaF2
namespace Go.Proofs.Yteinjalnkhfecaa
open Go.ChangeShapes Go.WideShapes Go.ChangeAt Go.RowKit
set_option linter.unusedVariables false
set_option linter.unusedSimpArgs false
theorem u64_of_wf_ConvFloats {a : Int} (h : (Lit.int .u64 a).wf = true) : ∃ n : Nat, a = n ∧ Hid (n < 18446744073709551616) := by
  simp [Lit.wf, IntKind.min, IntKind.max, IntKind.signed, IntKind.bits] at h
  obtain ⟨h0, h1⟩ := h
  exact ⟨a.toNat, by omega, by show _ < _; omega⟩
def RetXConvFloats (x : Nat) (f : Int) (W : World) (e : Ending) (w' : World) : Prop := e = .returned (.tuple #[.int .u64 x, .int .i64 f]) ∧ Below W.heap.size W w'
theorem x_of_ConvFloats {r : Nat × Int} {x : Nat} {f : Int} (hr : r = (x, f)) {W : World} {e : Ending} {w' : World} (h : RetP r W e w') : RetXConvFloats x f W e w' := by subst hr; exact h
set_option maxRecDepth 100000 in
set_option maxHeartbeats 4000000 in
theorem convFloats_any (sz rm : Int) (a : Nat) (x0 : Nat) (f0 : Int)
    (P0 : Hid (∀ v, Calls Try.prog 20 #[.int .i64 sz, .int .i64 rm, .int .u64 a] v (RetXConvFloats x0 f0 v))) (Q0 : Hid (∀ v, Calls Try.prog 21 #[.int .i64 sz, .int .i64 rm, .int .u64 a] v (RetXConvFloats x0 f0 v)))
    (w : World) : Calls Try.prog 5 #[.int .i64 sz, .int .i64 rm, .int .u64 a] w (RetB true w) := by
  go_enter Try.func5, Try.ntmps5
  go_wp2_with fail
  refine (awake_c _).mono ?_; rintro e w1 ⟨rfl, bq⟩
  have hbw := bq; clear bq
  go_wp2_with fail
  refine (P0.out _).mono ?_; rintro e wq ⟨rfl, bq⟩
  replace hbw := hbw.trans (bq.mono hbw.size); clear bq
  go_wp2_with fail
  refine (Q0.out _).mono ?_; rintro e wq ⟨rfl, bq⟩
  replace hbw := hbw.trans (bq.mono hbw.size); clear bq
  go_wp2_with fail
  go_ret
  exact ⟨rfl, hbw⟩
theorem convFloats_walk (a0 : Int) (a1 : Int) (a2 : Int) (w0 : (Lit.int .i64 a0).wf = true) (w1 : (Lit.int .i64 a1).wf = true) (w2 : (Lit.int .u64 a2).wf = true) (w : World) :
    Calls Try.prog 5 #[.int .i64 a0, .int .i64 a1, .int .u64 a2] w (RetB true w) := by
  obtain ⟨a, rfl, ha⟩ := u64_of_wf_ConvFloats w2
  by_cases hv : (a0 = 4 ∨ a0 = 8) ∧ 0 ≤ a1 ∧ a1 ≤ 4
  · obtain ⟨hs, h5, h4⟩ := hv
    have hrm : Hid (0 ≤ a1 ∧ a1 ≤ 4) := ⟨h5, h4⟩
    obtain ⟨d, hd⟩ : ∃ d : Bool, SzOk a0 d := by
      rcases hs with h | h
      · exact ⟨false, h⟩
      · exact ⟨true, h⟩
    obtain ⟨x0, f0, hx0⟩ : ∃ x f, cvtV d a1 a = (x, f) := ⟨_, _, rfl⟩
    have P0 : Hid (∀ v, Calls Try.prog 20 #[.int .i64 a0, .int .i64 a1, .int .u64 a] v (RetXConvFloats x0 f0 v)) := Lib.hid (fun v => by
      by_cases hc : clsV (!d) a = 8 ∨ clsV (!d) a = 9
      · exact (Convert_none a0 d hd a1 hrm a ha hc v).mono fun _ _ q => x_of_ConvFloats hx0 q
      · exact (Convert_fin a0 d hd a1 hrm a ha (Lib.hid (fun e => hc (Or.inl e))) (Lib.hid (fun e => hc (Or.inr e))) v).mono fun _ _ q => x_of_ConvFloats hx0 q)
    have Q0 : Hid (∀ v, Calls Try.prog 21 #[.int .i64 a0, .int .i64 a1, .int .u64 a] v (RetXConvFloats x0 f0 v)) := Lib.hid (fun v => (Convert_r a0 d hd a1 hrm a ha v).mono fun _ _ q => x_of_ConvFloats ((cvt_eq d a1 hrm.out a).symm.trans hx0) q)
    exact convFloats_any a0 a1 a x0 f0 P0 Q0 w
  · exact convFloats_any a0 a1 a 0 0 (Lib.hid (fun v => Convert_no a0 a1 hv a v)) (Lib.hid (fun v => ConvertR_no a0 a1 hv a v)) w
end Go.Proofs.Yteinjalnkhfecaa
namespace Go.Proofs.Yteinjalnkhfecaa.convFloats
open Go.ChangeShapes Go.WideShapes Go.ChangeAt Go.RowKit
set_option linter.unusedVariables false
theorem own : ownKnob Try.prog.godebug = none := by kernel_rfl
set_option maxRecDepth 100000 in
theorem lifted (os : Os) (started : os.Started) (H : Type) (enc : TypeId × Value → H) :
    ReturnsInHanded {} Try.checked os 5 .any (Rows.convFloatsSpec.pre6 enc Try.prog Try.f5 Rows.convFloatsRow.domain false) (Rows.convFloatsSpec.post enc Try.prog Try.f5 false true false false) := by
  refine returnsInHanded_of_change (C := Try.checked) own started (by kernel_rfl) Try.func5
    (ChangeSpec.witness6 (enc := enc) (C := Try.checked) false ⟨#[], #[.int .i64 0, .int .i64 0, .int .u64 0], []⟩ 8 (by kernel_rfl) (by kernel_rfl) (by kernel_rfl) (by kernel_rfl)) ?_
  intro W base args ds gs before hval0 hW hcnd _
  have hval : ∀ (j : Nat) t v, Try.f5.params[j]? = some t → args[j]? = some v → Value.okWide Try.prog W .any base t v := hval0
  have hW' := hW
  obtain ⟨p, q, hA0, hV, rfl, hfz, hnd⟩ := hW
  have hA : DataW.TrodAll enc Try.prog W 0 (fun _ => true) true Try.f5.params.toList args.toList ds p := hA0
  rw [Try.params5] at hA hval
  obtain ⟨v0, vs0, d0, ds0, p0, q0, hargs, rfl, rfl, h0, r0⟩ := trodAll_cons hA
  obtain ⟨v1, vs1, d1, ds1, p1, q1, rfl, rfl, rfl, h1, r1⟩ := trodAll_cons r0
  obtain ⟨v2, vs2, d2, ds2, p2, q2, rfl, rfl, rfl, h2, r2⟩ := trodAll_cons r1
  obtain ⟨rfl, rfl, rfl⟩ := trodAll_nil r2
  obtain rfl : args = #[v0, v1, v2] := by cases args; simp_all
  obtain ⟨rfl, rfl⟩ := trodVars_none hV
  obtain ⟨a0, rfl, rfl, rfl, w0⟩ := open_int Try.underlying3 (hval 0 3 v0 rfl rfl) h0
  obtain ⟨a1, rfl, rfl, rfl, w1⟩ := open_int Try.underlying3 (hval 1 3 v1 rfl rfl) h1
  obtain ⟨a2, rfl, rfl, rfl, w2⟩ := open_int Try.underlying22 (hval 2 22 v2 rfl rfl) h2
  clear hA0 hval0
  simp only [List.append_nil] at hW'
  refine (convFloats_walk a0 a1 a2 w0 w1 w2 W).mono fun e W' ⟨he, hg⟩ => ?_
  subst he
  exact ⟨_, rfl, post_nums hW' (fun _ _ _ => (trodAll_cons_mk (shut_bool Try.underlying4 _) trodAll_mk0)) (fun sp => (trodAll_cons_mk (shut_int Try.underlying3 w0) (trodAll_cons_mk (shut_int Try.underlying3 w1) (trodAll_cons_mk (shut_int Try.underlying22 w2) trodAll_mk0)))) (fun _ => rfl) hg (ok_one (by kernel_rfl) rfl (okWide_bool_mk Try.underlying4 _))⟩
theorem over : Rows.convFloatsRow.holds Try.pinned (OpenSpec.ofChange Rows.convFloatsSpec) :=
  OpenClaim.holds_of_wide 5 Try.f5 rfl rfl rfl rfl rfl rfl rfl ⟨rfl, rfl, rfl, rfl, rfl⟩ rfl rfl rfl rfl rfl (by kernel_rfl) Try.func5 (by kernel_rfl)
    (of_decide_eq_true (by kernel_rfl)) (by unfold Func.isWrapper; first | (rw [if_pos (by decide +kernel)]; kernel_rfl) | (rw [if_neg (by decide +kernel)]; exact ⟨rfl, rfl⟩))
    (fun os started H enc _ => lifted os started H enc)
theorem proved : Rows.ConvFloatsSaid := over
#print axioms proved
end Go.Proofs.Yteinjalnkhfecaa.convFloats
