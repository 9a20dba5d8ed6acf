/- PROVED: 'AluDivides' returns true whatever the two numbers are: quotient and rest. No condition. -/
import Derived.Test.YtbbgcjdflcfnjaaC2
import Derived.BigGuardPart
namespace Go.Proofs.Ytbbgcjdflcfnjaa
open Go.ChangeShapes Go.WideShapes Go.ChangeAt Go.RowKit
set_option linter.unusedVariables false
set_option linter.unusedSimpArgs false

theorem tmod_small (x y : Int) (h : y ≠ 0) : (x.tmod y).natAbs < y.natAbs := by
  rw [Int.natAbs_tmod]; exact Nat.mod_lt _ (by omega)
theorem tmod_sign (x y : Int) : (0 ≤ x → 0 ≤ x.tmod y) ∧ (x ≤ 0 → x.tmod y ≤ 0) := by
  refine ⟨fun h => Int.tmod_nonneg y h, fun h => ?_⟩
  have h2 := Int.tmod_nonneg y (show 0 ≤ -x by omega)
  rw [Int.neg_tmod] at h2; omega
theorem quo_rest (a b : Nat) (ha : a < 18446744073709551616) (hb : b < 18446744073709551616) (hz : ¬ b = 0) : (((quoS H64 a b : Nat) : Int) * (b : Int) % 18446744073709551616 + ((remS H64 a b : Nat) : Int)) % 18446744073709551616 = (a : Int) := by
  unfold quoS remS
  rw [if_neg hz, if_neg hz, uns_cast (by decide), uns_cast (by decide), un64]
  have e1 := sgn_mod H64 a ha; have e2 := sgn_mod H64 b hb
  rw [un64] at e1 e2
  have e3 : (a : Int) % 18446744073709551616 = a := by omega
  rw [e3] at e1
  generalize sgn H64 a = x at *
  generalize sgn H64 b = y at *
  rw [Int.mul_emod, Int.emod_emod, e2, ← Int.mul_emod, ← Int.add_emod, e1]
  congr 1
  rw [Int.tmod_def, Int.mul_comm y]; omega
theorem dist_rest (a b : Nat) (ha : a < 18446744073709551616) (hb : b < 18446744073709551616) (hz : ¬ b = 0) : distV (remS H64 a b) < distV b := by
  unfold remS
  rw [if_neg hz]
  have hy : sgn H64 b ≠ 0 := fun h => hz ((sgn_zero (by decide) hb).1 h)
  have h1 := tmod_small (sgn H64 a) (sgn H64 b) hy
  have hdb : distV b = (sgn H64 b).natAbs := by unfold distV sgn H64; split <;> omega
  have hr := @sgn_range H64 b hb
  rw [hdb]
  generalize (sgn H64 a).tmod (sgn H64 b) = t at *
  generalize sgn H64 b = y at *
  have hdr : distV (uns H64 t) = t.natAbs := by
    have hc := @uns_cast H64 (by decide) t
    rw [un64] at hc
    unfold H64 at hr
    generalize uns H64 t = u at *
    unfold distV; split <;> omega
  rw [hdr]; exact h1
theorem sign_rest (a b : Nat) (ha : a < 18446744073709551616) (hb : b < 18446744073709551616) (hz : ¬ b = 0) : remS H64 a b = 0 ∨ remS H64 a b / 9223372036854775808 = a / 9223372036854775808 := by
  unfold remS
  rw [if_neg hz]
  have hy : sgn H64 b ≠ 0 := fun h => hz ((sgn_zero (by decide) hb).1 h)
  have h1 := tmod_small (sgn H64 a) (sgn H64 b) hy
  have h2 := tmod_sign (sgn H64 a) (sgn H64 b)
  have hr := @sgn_range H64 b hb
  have hx : (0 ≤ sgn H64 a ↔ a < 9223372036854775808) := by unfold sgn H64; split <;> omega
  generalize (sgn H64 a).tmod (sgn H64 b) = t at *
  generalize sgn H64 b = y at *
  generalize sgn H64 a = x at *
  have hc := @uns_cast H64 (by decide) t
  rw [un64] at hc
  unfold H64 at hr
  generalize uns H64 t = u at *
  omega
theorem aluDivides_walk (a1 a2 : Int) (w1 : (Lit.int .u64 a1).wf = true) (w2 : (Lit.int .u64 a2).wf = true) (w : World) : Calls Try.prog 7 #[.int .u64 a1, .int .u64 a2] w (RetB true w) := by
  obtain ⟨a, rfl, ha⟩ := u64_of_wf w1
  obtain ⟨b, rfl, hb⟩ := u64_of_wf w2
  have ha' := ha.out; have hb' := hb.out
  have some_of : ∀ (k : Int) (x y n : Nat) (hx : x < 18446744073709551616) (hy : y < 18446744073709551616), doV k false x y = some n → Hid (∀ v, Calls Try.prog 11 #[.int .i64 k, .bool false, .int .u64 x, .int .u64 y] v (RetN n true v)) :=
    fun k x y n hx hy h => Lib.hid fun v => (do_c k false x y hx hy v).mono fun _ _ r => retN_of (b := true) h (fun h => nomatch h) r
  by_cases hz : b = 0
  · subst hz
    exact divides_zero a (some_of 27 a 0 _ ha' hb' rfl) (some_of 29 a 0 _ ha' hb' rfl) (some_of 28 a 0 _ ha' hb' rfl) (some_of 30 a 0 _ ha' hb' rfl) w
  have hu : quoU H64 a b = a / b := if_neg hz
  have hv : remU H64 a b = a % b := if_neg hz
  have hrl : remS H64 a b < 18446744073709551616 := by unfold remS; rw [if_neg hz]; exact uns_lt (by decide) _
  have hdm := Nat.div_add_mod a b
  have hle := Nat.div_le_self a b
  have hml := Nat.mod_lt a (show b > 0 by omega)
  refine divides_core a b (quoS H64 a b) (remS H64 a b) (a / b) (a % b) (distV (remS H64 a b)) (distV b) (decide (remS H64 a b = 0))
    (some_of 27 a b _ ha' hb' rfl) (some_of 29 a b _ ha' hb' rfl) (some_of 28 a b _ ha' hb' (congrArg some hu)) (some_of 30 a b _ ha' hb' (congrArg some hv))
    (Lib.hid fun v => distance_c _ hrl v) (Lib.hid fun v => distance_c b hb' v) ?_ ?_ ?_ ?_ ?_ ?_ ?_ ?_ w
  · rw [beq_eq_false_iff_ne]; omega
  · rw [IntKind.wrap_u64, IntKind.wrap_u64]; exact quo_rest a b ha' hb' hz
  · rw [IntKind.wrap_u64, IntKind.wrap_u64, ← Int.natCast_mul, Nat.mul_comm]
    generalize b * (a / b) = m at *; generalize a % b = r at *; omega
  · generalize a % b = r at *; omega
  · generalize a / b = r at *; omega
  · have := dist_rest a b ha' hb' hz; omega
  · by_cases h : remS H64 a b = 0 <;> simp [h]
  · intro h
    have h2 := of_decide_eq_false h
    rcases sign_rest a b ha' hb' hz with h3 | h3
    · exact absurd h3 h2
    · rw [beq_iff_eq]; omega
end Go.Proofs.Ytbbgcjdflcfnjaa
namespace Go.Proofs.Ytbbgcjdflcfnjaa.aluDivides
open Go.ChangeShapes Go.WideShapes Go.ChangeAt Go.RowKit
set_option linter.unusedVariables false
theorem own : ownKnob Try.prog.godebug = none := by kernel_rfl
set_option maxRecDepth 100000 in
theorem lifted (os : Os) (started : os.Started) (H : Type) (enc : TypeId × Value → H) :
    ReturnsInHanded {} Try.checked os 7 .any (Rows.aluDividesSpec.pre6 enc Try.prog Try.f7 Rows.aluDividesRow.domain false) (Rows.aluDividesSpec.post enc Try.prog Try.f7 false true false false) := by
  refine returnsInHanded_of_change (C := Try.checked) own started (by kernel_rfl) Try.func7
    (ChangeSpec.witness6 (enc := enc) (C := Try.checked) false ⟨#[], #[.int .u64 0, .int .u64 0], []⟩ 8 (by kernel_rfl) (by kernel_rfl) (by kernel_rfl) (by kernel_rfl)) ?_
  intro W base args ds gs before hval0 hW hcnd _
  have hval : ∀ (j : Nat) t v, Try.f7.params[j]? = some t → args[j]? = some v → Value.okWide Try.prog W .any base t v := hval0
  have hW' := hW
  obtain ⟨p, q, hA0, hV, rfl, hfz, hnd⟩ := hW
  have hA : DataW.TrodAll enc Try.prog W 0 (fun _ => true) true Try.f7.params.toList args.toList ds p := hA0
  rw [Try.params7] at hA hval
  obtain ⟨v0, vs0, d0, ds0, p0, q0, hargs, rfl, rfl, h0, r0⟩ := trodAll_cons hA
  obtain ⟨v1, vs1, d1, ds1, p1, q1, rfl, rfl, rfl, h1, r1⟩ := trodAll_cons r0
  obtain ⟨rfl, rfl, rfl⟩ := trodAll_nil r1
  obtain rfl : args = #[v0, v1] := by cases args; simp_all
  obtain ⟨rfl, rfl⟩ := trodVars_none hV
  obtain ⟨a0, rfl, rfl, rfl, w0⟩ := open_int Try.underlying22 (hval 0 22 v0 rfl rfl) h0
  obtain ⟨a1, rfl, rfl, rfl, w1⟩ := open_int Try.underlying22 (hval 1 22 v1 rfl rfl) h1
  clear hA0 hval0
  simp only [List.append_nil] at hW'
  refine (aluDivides_walk a0 a1 w0 w1 W).mono fun e W' ⟨he, hg⟩ => ?_
  subst he
  exact ⟨_, rfl, post_nums hW' (fun _ _ _ => (trodAll_cons_mk (shut_bool Try.underlying4 _) trodAll_mk0)) (fun sp => (trodAll_cons_mk (shut_int Try.underlying22 w0) (trodAll_cons_mk (shut_int Try.underlying22 w1) trodAll_mk0))) (fun _ => rfl) hg (ok_one (by kernel_rfl) rfl (okWide_bool_mk Try.underlying4 _))⟩
theorem over : Rows.aluDividesRow.holds Try.pinned (OpenSpec.ofChange Rows.aluDividesSpec) :=
  OpenClaim.holds_of_wide 7 Try.f7 rfl rfl rfl rfl rfl rfl rfl ⟨rfl, rfl, rfl, rfl, rfl⟩ rfl rfl rfl rfl rfl (by kernel_rfl) Try.func7 (by kernel_rfl)
    (of_decide_eq_true (by kernel_rfl)) (by unfold Func.isWrapper; first | (rw [if_pos (by decide +kernel)]; kernel_rfl) | (rw [if_neg (by decide +kernel)]; exact ⟨rfl, rfl⟩))
    (fun os started H enc _ => lifted os started H enc)
theorem proved : Rows.AluDividesSaid := over
#print axioms proved
end Go.Proofs.Ytbbgcjdflcfnjaa.aluDivides
