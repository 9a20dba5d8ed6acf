/- PROVED: 'SoftFmas' returns true whatever the numbers are: the code's sums of products are the document's, of every size and mode, with their flags. No condition. -/
import Derived.Test.YthjdeopfbjmmeaaK22
import Derived.Test.YthjdeopfbjmmeaaF1
namespace Go.Proofs.Ythjdeopfbjmmeaa
open Go.ChangeShapes Go.WideShapes Go.ChangeAt Go.RowKit
set_option linter.unusedVariables false
set_option linter.unusedSimpArgs false
theorem u64_of_wf_Fmas {a : Int} (h : (Lit.int .u64 a).wf = true) : ∃ n : Nat, a = n ∧ Hid (n < 18446744073709551616) := by
  simp [Lit.wf, IntKind.min, IntKind.max, IntKind.signed, IntKind.bits] at h
  obtain ⟨h0, h1⟩ := h
  exact ⟨a.toNat, by omega, by show _ < _; omega⟩
/-- A float and its flags. -/
def RetXFmas (x : Nat) (f : Int) (W : World) (e : Ending) (w' : World) : Prop := e = .returned (.tuple #[.int .u64 x, .int .i64 f]) ∧ Below W.heap.size W w'
theorem x_of_Fmas {r : Nat × Int} {x : Nat} {f : Int} (hr : r = (x, f)) {W : World} {e : Ending} {w' : World} (h : RetP r W e w') : RetXFmas x f W e w' := by subst hr; exact h
theorem Fma_noc (sz rm : Int) (h : ¬ ((sz = 4 ∨ sz = 8) ∧ 0 ≤ rm ∧ rm ≤ 4)) (a : Nat) (b : Nat) (c : Nat) (w : World) : Calls Try.prog 23 #[.int .i64 sz, .int .i64 rm, .int .u64 a, .int .u64 b, .int .u64 c] w (RetXFmas 0 0 w) := by
  go_enter Try.func23, Try.ntmps23
  go_wp2_with fail
  refine (layoutOf_no sz rm h _).mono ?_; rintro e w1 ⟨rfl, b1⟩
  go_wp2_with fail
  go_ret2
  exact ⟨rfl, (by repeat (first | (with_reducible first | exact Below.refl _ _ | assumption | exact Nat.le_refl _ | refine Below.drew ?_ | refine Below.alloc ?_ ?_ _ | refine Below.setCell ?_ ?_ _ | refine le_alloc ?_ | refine le_set ?_ | refine le_drew ?_ | refine below_step (by assumption) ?_ ?_ | refine le_below (by assumption) ?_) | (dsimp only; omega)))⟩
theorem Fma_nor (sz rm : Int) (h : ¬ ((sz = 4 ∨ sz = 8) ∧ 0 ≤ rm ∧ rm ≤ 4)) (a : Nat) (b : Nat) (c : Nat) (w : World) : Calls Try.prog 24 #[.int .i64 sz, .int .i64 rm, .int .u64 a, .int .u64 b, .int .u64 c] w (RetXFmas 0 0 w) := by
  go_enter Try.func24, Try.ntmps24
  go_wp2_with fail
  refine (right_no sz rm h _).mono ?_; rintro e w1 ⟨rfl, b1⟩
  go_wp2_with fail
  go_ret2
  exact ⟨rfl, (by repeat (first | (with_reducible first | exact Below.refl _ _ | assumption | exact Nat.le_refl _ | refine Below.drew ?_ | refine Below.alloc ?_ ?_ _ | refine Below.setCell ?_ ?_ _ | refine le_alloc ?_ | refine le_set ?_ | refine le_drew ?_ | refine below_step (by assumption) ?_ ?_ | refine le_below (by assumption) ?_) | (dsimp only; omega)))⟩
set_option maxRecDepth 100000 in
set_option maxHeartbeats 4000000 in
theorem softFmas_any (sz rm : Int) (a : Nat) (b : Nat) (c : Nat) (x0 : Nat) (f0 : Int)  
    (P0 : Hid (∀ v, Calls Try.prog 23 #[.int .i64 sz, .int .i64 rm, .int .u64 a, .int .u64 b, .int .u64 c] v (RetXFmas x0 f0 v))) (Q0 : Hid (∀ v, Calls Try.prog 24 #[.int .i64 sz, .int .i64 rm, .int .u64 a, .int .u64 b, .int .u64 c] v (RetXFmas x0 f0 v)))
    (w : World) : Calls Try.prog 7 #[.int .i64 sz, .int .i64 rm, .int .u64 a, .int .u64 b, .int .u64 c] w (RetB true w) := by
  go_enter Try.func7, Try.ntmps7
  go_wp2_with fail
  refine (awake_c _).mono ?_; rintro e w1 ⟨rfl, bq⟩
  have hbw := bq; clear bq
  go_wp2_with fail
  refine (P0.out _).mono ?_; rintro e wq ⟨rfl, bq⟩
  replace hbw := hbw.trans (bq.mono hbw.size); clear bq
  go_wp2_with fail
  refine (Q0.out _).mono ?_; rintro e wq ⟨rfl, bq⟩
  replace hbw := hbw.trans (bq.mono hbw.size); clear bq
  go_wp2_with fail
  go_ret
  exact retB_mk rfl hbw
theorem softFmas_walk (a0 a1 a2 a3 a4 : Int) (w0 : (Lit.int .i64 a0).wf = true) (w1 : (Lit.int .i64 a1).wf = true) (w2 : (Lit.int .u64 a2).wf = true) (w3 : (Lit.int .u64 a3).wf = true) (w4 : (Lit.int .u64 a4).wf = true) (w : World) :
    Calls Try.prog 7 #[.int .i64 a0, .int .i64 a1, .int .u64 a2, .int .u64 a3, .int .u64 a4] w (RetB true w) := by
  obtain ⟨a, rfl, ha⟩ := u64_of_wf_Fmas w2
  obtain ⟨b, rfl, hb⟩ := u64_of_wf_Fmas w3
  obtain ⟨c, rfl, hc⟩ := u64_of_wf_Fmas w4
  by_cases hv : (a0 = 4 ∨ a0 = 8) ∧ 0 ≤ a1 ∧ a1 ≤ 4
  · obtain ⟨hs, h5, h4⟩ := hv
    have h3 : a1 < 5 := by omega
    obtain ⟨d, hd⟩ : ∃ d : Bool, Sz a0 d := by
      rcases hs with h | h
      · exact ⟨false, h⟩
      · exact ⟨true, h⟩
    obtain ⟨x0, f0, hx0⟩ : ∃ x f, fmaF d a1 (readN d a) (readN d b) (readN d c) = (x, f) := ⟨_, _, rfl⟩
    exact softFmas_any a0 a1 a b c x0 f0 (Lib.hid (fun v => (Fma_c a0 d hd a1 h5 h3 a b c ha hb hc v).mono fun _ _ q => x_of_Fmas hx0 q)) (Lib.hid (fun v => (Fma_r a0 d hd a1 h5 h3 a b c ha hb hc v).mono fun _ _ q => x_of_Fmas hx0 q)) w
  · exact softFmas_any a0 a1 a b c 0 0 (Lib.hid (fun v => Fma_noc a0 a1 hv a b c v)) (Lib.hid (fun v => Fma_nor a0 a1 hv a b c v)) w
end Go.Proofs.Ythjdeopfbjmmeaa
namespace Go.Proofs.Ythjdeopfbjmmeaa.softFmas
open Go.ChangeShapes Go.WideShapes Go.ChangeAt Go.RowKit
set_option linter.unusedVariables false
theorem own : ownKnob Try.prog.godebug = none := by kernel_rfl
set_option maxRecDepth 100000 in
theorem lifted (os : Os) (started : os.Started) (H : Type) (enc : TypeId × Value → H) :
    ReturnsInHanded {} Try.checked os 7 .any (Rows.softFmasSpec.pre6 enc Try.prog Try.f7 Rows.softFmasRow.domain false) (Rows.softFmasSpec.post enc Try.prog Try.f7 false true false false) := by
  refine returnsInHanded_of_change (C := Try.checked) own started (by kernel_rfl) Try.func7
    (ChangeSpec.witness6 (enc := enc) (C := Try.checked) false ⟨#[], #[.int .i64 0, .int .i64 0, .int .u64 0, .int .u64 0, .int .u64 0], []⟩ 8 (by kernel_rfl) (by kernel_rfl) (by kernel_rfl) (by kernel_rfl)) ?_
  intro W base args ds gs before hval0 hW hcnd _
  have hval : ∀ (j : Nat) t v, Try.f7.params[j]? = some t → args[j]? = some v → Value.okWide Try.prog W .any base t v := hval0
  have hW' := hW
  obtain ⟨p, q, hA0, hV, rfl, hfz, hnd⟩ := hW
  have hA : DataW.TrodAll enc Try.prog W 0 (fun _ => true) true Try.f7.params.toList args.toList ds p := hA0
  rw [Try.params7] at hA hval
  obtain ⟨v0, vs0, d0, ds0, p0, q0, hargs, rfl, rfl, h0, r0⟩ := trodAll_cons hA
  obtain ⟨v1, vs1, d1, ds1, p1, q1, rfl, rfl, rfl, h1, r1⟩ := trodAll_cons r0
  obtain ⟨v2, vs2, d2, ds2, p2, q2, rfl, rfl, rfl, h2, r2⟩ := trodAll_cons r1
  obtain ⟨v3, vs3, d3, ds3, p3, q3, rfl, rfl, rfl, h3, r3⟩ := trodAll_cons r2
  obtain ⟨v4, vs4, d4, ds4, p4, q4, rfl, rfl, rfl, h4, r4⟩ := trodAll_cons r3
  obtain ⟨rfl, rfl, rfl⟩ := trodAll_nil r4
  obtain rfl : args = #[v0, v1, v2, v3, v4] := by cases args; simp_all
  obtain ⟨rfl, rfl⟩ := trodVars_none hV
  obtain ⟨a0, rfl, rfl, rfl, w0⟩ := open_int Try.underlying3 (hval 0 3 v0 rfl rfl) h0
  obtain ⟨a1, rfl, rfl, rfl, w1⟩ := open_int Try.underlying3 (hval 1 3 v1 rfl rfl) h1
  obtain ⟨a2, rfl, rfl, rfl, w2⟩ := open_int Try.underlying22 (hval 2 22 v2 rfl rfl) h2
  obtain ⟨a3, rfl, rfl, rfl, w3⟩ := open_int Try.underlying22 (hval 3 22 v3 rfl rfl) h3
  obtain ⟨a4, rfl, rfl, rfl, w4⟩ := open_int Try.underlying22 (hval 4 22 v4 rfl rfl) h4
  clear hA0 hval0
  simp only [List.append_nil] at hW'
  refine (softFmas_walk a0 a1 a2 a3 a4 w0 w1 w2 w3 w4 W).mono fun e W' ⟨he, hg⟩ => ?_
  subst he
  exact ⟨_, rfl, post_nums hW' (fun _ _ _ => (trodAll_cons_mk (shut_bool Try.underlying4 _) trodAll_mk0)) (fun sp => (trodAll_cons_mk (shut_int Try.underlying3 w0) (trodAll_cons_mk (shut_int Try.underlying3 w1) (trodAll_cons_mk (shut_int Try.underlying22 w2) (trodAll_cons_mk (shut_int Try.underlying22 w3) (trodAll_cons_mk (shut_int Try.underlying22 w4) trodAll_mk0)))))) (fun _ => rfl) hg (ok_one (by kernel_rfl) rfl (okWide_bool_mk Try.underlying4 _))⟩
theorem over : Rows.softFmasRow.holds Try.pinned (OpenSpec.ofChange Rows.softFmasSpec) :=
  OpenClaim.holds_of_wide 7 Try.f7 rfl rfl rfl rfl rfl rfl rfl ⟨rfl, rfl, rfl, rfl, rfl⟩ rfl rfl rfl rfl rfl (by kernel_rfl) Try.func7 (by kernel_rfl)
    (of_decide_eq_true (by kernel_rfl)) (by unfold Func.isWrapper; first | (rw [if_pos (by decide +kernel)]; kernel_rfl) | (rw [if_neg (by decide +kernel)]; exact ⟨rfl, rfl⟩))
    (fun os started H enc _ => lifted os started H enc)
theorem proved : Rows.SoftFmasSaid := over
#print axioms proved
end Go.Proofs.Ythjdeopfbjmmeaa.softFmas
