/- PROVED: 'ConvInts' returns true whatever the arguments are: any float as a whole number, any whole number as a float. No condition. -/
import Derived.Test.YteinjalnkhfecaaZ8
import Derived.Test.YteinjalnkhfecaaF2
namespace Go.Proofs.Yteinjalnkhfecaa
open Go.ChangeShapes Go.WideShapes Go.ChangeAt Go.RowKit
set_option linter.unusedVariables false
set_option linter.unusedSimpArgs false
theorem u64_of_wf_ConvInts {a : Int} (h : (Lit.int .u64 a).wf = true) : ∃ n : Nat, a = n ∧ Hid (n < 18446744073709551616) := by
  simp [Lit.wf, IntKind.min, IntKind.max, IntKind.signed, IntKind.bits] at h
  obtain ⟨h0, h1⟩ := h
  exact ⟨a.toNat, by omega, by show _ < _; omega⟩
def RetXConvInts (x : Nat) (f : Int) (W : World) (e : Ending) (w' : World) : Prop := e = .returned (.tuple #[.int .u64 x, .int .i64 f]) ∧ Below W.heap.size W w'
theorem x_of_ConvInts {r : Nat × Int} {x : Nat} {f : Int} (hr : r = (x, f)) {W : World} {e : Ending} {w' : World} (h : RetP r W e w') : RetXConvInts x f W e w' := by subst hr; exact h
set_option maxRecDepth 100000 in
set_option maxHeartbeats 4000000 in
theorem convInts_any (sz rm : Int) (wd u : Bool) (a : Nat) (x0 : Nat) (f0 : Int) (x1 : Nat) (f1 : Int)
    (P0 : Hid (∀ v, Calls Try.prog 16 #[.int .i64 sz, .int .i64 rm, .bool wd, .bool u, .int .u64 a] v (RetXConvInts x0 f0 v))) (Q0 : Hid (∀ v, Calls Try.prog 17 #[.int .i64 sz, .int .i64 rm, .bool wd, .bool u, .int .u64 a] v (RetXConvInts x0 f0 v)))
    (P1 : Hid (∀ v, Calls Try.prog 18 #[.int .i64 sz, .int .i64 rm, .bool wd, .bool u, .int .u64 a] v (RetXConvInts x1 f1 v))) (Q1 : Hid (∀ v, Calls Try.prog 19 #[.int .i64 sz, .int .i64 rm, .bool wd, .bool u, .int .u64 a] v (RetXConvInts x1 f1 v)))
    (w : World) : Calls Try.prog 4 #[.int .i64 sz, .int .i64 rm, .bool wd, .bool u, .int .u64 a] w (RetB true w) := by
  go_enter Try.func4, Try.ntmps4
  go_wp2_with fail
  refine (awake_c _).mono ?_; rintro e w1 ⟨rfl, bq⟩
  have hbw := bq; clear bq
  go_wp2_with fail
  refine (P0.out _).mono ?_; rintro e wq ⟨rfl, bq⟩
  replace hbw := hbw.trans (bq.mono hbw.size); clear bq
  go_wp2_with fail
  refine (Q0.out _).mono ?_; rintro e wq ⟨rfl, bq⟩
  replace hbw := hbw.trans (bq.mono hbw.size); clear bq
  go_wp2_with fail
  refine (P1.out _).mono ?_; rintro e wq ⟨rfl, bq⟩
  replace hbw := hbw.trans (bq.mono hbw.size); clear bq
  go_wp2_with fail
  refine (Q1.out _).mono ?_; rintro e wq ⟨rfl, bq⟩
  replace hbw := hbw.trans (bq.mono hbw.size); clear bq
  go_wp2_with fail
  go_ret
  exact ⟨rfl, hbw⟩
theorem convInts_walk (a0 : Int) (a1 : Int) (a2 : Bool) (a3 : Bool) (a4 : Int) (w0 : (Lit.int .i64 a0).wf = true) (w1 : (Lit.int .i64 a1).wf = true) (w4 : (Lit.int .u64 a4).wf = true) (w : World) :
    Calls Try.prog 4 #[.int .i64 a0, .int .i64 a1, .bool a2, .bool a3, .int .u64 a4] w (RetB true w) := by
  obtain ⟨a, rfl, ha⟩ := u64_of_wf_ConvInts w4
  by_cases hv : (a0 = 4 ∨ a0 = 8) ∧ 0 ≤ a1 ∧ a1 ≤ 4
  · obtain ⟨hs, h5, h4⟩ := hv
    have hrm : Hid (0 ≤ a1 ∧ a1 ≤ 4) := ⟨h5, h4⟩
    obtain ⟨d, hd⟩ : ∃ d : Bool, SzOk a0 d := by
      rcases hs with h | h
      · exact ⟨false, h⟩
      · exact ⟨true, h⟩
    obtain ⟨x0, f0, hx0⟩ : ∃ x f, toIntV d a1 a2 a3 a = (x, f) := ⟨_, _, rfl⟩
    have P0 : Hid (∀ v, Calls Try.prog 16 #[.int .i64 a0, .int .i64 a1, .bool a2, .bool a3, .int .u64 a] v (RetXConvInts x0 f0 v)) := Lib.hid (fun v => (ToInt_c a0 d hd a1 hrm a2 a3 a ha v).mono fun _ _ q => x_of_ConvInts hx0 q)
    have Q0 : Hid (∀ v, Calls Try.prog 17 #[.int .i64 a0, .int .i64 a1, .bool a2, .bool a3, .int .u64 a] v (RetXConvInts x0 f0 v)) := Lib.hid (fun v => (ToInt_r a0 d hd a1 hrm a2 a3 a ha v).mono fun _ _ q => x_of_ConvInts ((toInt_eq d a1 hrm.out a2 a3 a).symm.trans hx0) q)
    obtain ⟨x1, f1, hx1⟩ : ∃ x f, roundV d a1 (heldM a2 a3 a) 0 (heldF a2 a3 a) = (x, f) := ⟨_, _, rfl⟩
    have P1 : Hid (∀ v, Calls Try.prog 18 #[.int .i64 a0, .int .i64 a1, .bool a2, .bool a3, .int .u64 a] v (RetXConvInts x1 f1 v)) := Lib.hid (fun v => (FromInt_c a0 d hd a1 hrm a2 a3 a ha v).mono fun _ _ q => x_of_ConvInts hx1 q)
    have Q1 : Hid (∀ v, Calls Try.prog 19 #[.int .i64 a0, .int .i64 a1, .bool a2, .bool a3, .int .u64 a] v (RetXConvInts x1 f1 v)) := Lib.hid (fun v => (FromInt_r a0 d hd a1 hrm a2 a3 a ha v).mono fun _ _ q => x_of_ConvInts ((fromInt_eq d a1 hrm.out a2 a3 a ha.out).symm.trans hx1) q)
    exact convInts_any a0 a1 a2 a3 a x0 f0 x1 f1 P0 Q0 P1 Q1 w
  · exact convInts_any a0 a1 a2 a3 a 0 0 0 0 (Lib.hid (fun v => ToInt_no a0 a1 hv a2 a3 a v)) (Lib.hid (fun v => ToIntR_no a0 a1 hv a2 a3 a v)) (Lib.hid (fun v => FromInt_no a0 a1 hv a2 a3 a v)) (Lib.hid (fun v => FromIntR_no a0 a1 hv a2 a3 a v)) w
end Go.Proofs.Yteinjalnkhfecaa
namespace Go.Proofs.Yteinjalnkhfecaa.convInts
open Go.ChangeShapes Go.WideShapes Go.ChangeAt Go.RowKit
set_option linter.unusedVariables false
theorem own : ownKnob Try.prog.godebug = none := by kernel_rfl
set_option maxRecDepth 100000 in
theorem lifted (os : Os) (started : os.Started) (H : Type) (enc : TypeId × Value → H) :
    ReturnsInHanded {} Try.checked os 4 .any (Rows.convIntsSpec.pre6 enc Try.prog Try.f4 Rows.convIntsRow.domain false) (Rows.convIntsSpec.post enc Try.prog Try.f4 false true false false) := by
  refine returnsInHanded_of_change (C := Try.checked) own started (by kernel_rfl) Try.func4
    (ChangeSpec.witness6 (enc := enc) (C := Try.checked) false ⟨#[], #[.int .i64 0, .int .i64 0, .bool false, .bool false, .int .u64 0], []⟩ 8 (by kernel_rfl) (by kernel_rfl) (by kernel_rfl) (by kernel_rfl)) ?_
  intro W base args ds gs before hval0 hW hcnd _
  have hval : ∀ (j : Nat) t v, Try.f4.params[j]? = some t → args[j]? = some v → Value.okWide Try.prog W .any base t v := hval0
  have hW' := hW
  obtain ⟨p, q, hA0, hV, rfl, hfz, hnd⟩ := hW
  have hA : DataW.TrodAll enc Try.prog W 0 (fun _ => true) true Try.f4.params.toList args.toList ds p := hA0
  rw [Try.params4] at hA hval
  obtain ⟨v0, vs0, d0, ds0, p0, q0, hargs, rfl, rfl, h0, r0⟩ := trodAll_cons hA
  obtain ⟨v1, vs1, d1, ds1, p1, q1, rfl, rfl, rfl, h1, r1⟩ := trodAll_cons r0
  obtain ⟨v2, vs2, d2, ds2, p2, q2, rfl, rfl, rfl, h2, r2⟩ := trodAll_cons r1
  obtain ⟨v3, vs3, d3, ds3, p3, q3, rfl, rfl, rfl, h3, r3⟩ := trodAll_cons r2
  obtain ⟨v4, vs4, d4, ds4, p4, q4, rfl, rfl, rfl, h4, r4⟩ := trodAll_cons r3
  obtain ⟨rfl, rfl, rfl⟩ := trodAll_nil r4
  obtain rfl : args = #[v0, v1, v2, v3, v4] := by cases args; simp_all
  obtain ⟨rfl, rfl⟩ := trodVars_none hV
  obtain ⟨a0, rfl, rfl, rfl, w0⟩ := open_int Try.underlying3 (hval 0 3 v0 rfl rfl) h0
  obtain ⟨a1, rfl, rfl, rfl, w1⟩ := open_int Try.underlying3 (hval 1 3 v1 rfl rfl) h1
  obtain ⟨a2, rfl, rfl, rfl⟩ := open_bool Try.underlying4 (hval 2 4 v2 rfl rfl) h2
  obtain ⟨a3, rfl, rfl, rfl⟩ := open_bool Try.underlying4 (hval 3 4 v3 rfl rfl) h3
  obtain ⟨a4, rfl, rfl, rfl, w4⟩ := open_int Try.underlying22 (hval 4 22 v4 rfl rfl) h4
  clear hA0 hval0
  simp only [List.append_nil] at hW'
  refine (convInts_walk a0 a1 a2 a3 a4 w0 w1 w4 W).mono fun e W' ⟨he, hg⟩ => ?_
  subst he
  exact ⟨_, rfl, post_nums hW' (fun _ _ _ => (trodAll_cons_mk (shut_bool Try.underlying4 _) trodAll_mk0)) (fun sp => (trodAll_cons_mk (shut_int Try.underlying3 w0) (trodAll_cons_mk (shut_int Try.underlying3 w1) (trodAll_cons_mk (shut_bool Try.underlying4 _) (trodAll_cons_mk (shut_bool Try.underlying4 _) (trodAll_cons_mk (shut_int Try.underlying22 w4) trodAll_mk0)))))) (fun _ => rfl) hg (ok_one (by kernel_rfl) rfl (okWide_bool_mk Try.underlying4 _))⟩
theorem over : Rows.convIntsRow.holds Try.pinned (OpenSpec.ofChange Rows.convIntsSpec) :=
  OpenClaim.holds_of_wide 4 Try.f4 rfl rfl rfl rfl rfl rfl rfl ⟨rfl, rfl, rfl, rfl, rfl⟩ rfl rfl rfl rfl rfl (by kernel_rfl) Try.func4 (by kernel_rfl)
    (of_decide_eq_true (by kernel_rfl)) (by unfold Func.isWrapper; first | (rw [if_pos (by decide +kernel)]; kernel_rfl) | (rw [if_neg (by decide +kernel)]; exact ⟨rfl, rfl⟩))
    (fun os started H enc _ => lifted os started H enc)
theorem proved : Rows.ConvIntsSaid := over
#print axioms proved
end Go.Proofs.Yteinjalnkhfecaa.convInts
