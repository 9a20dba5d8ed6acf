/- PROVED: 'AluUppers' returns true whatever the two numbers are: the two words of a product. No condition. -/
import Derived.Test.YtbbgcjdflcfnjaaC1
import Derived.BigGuardPart
namespace Go.Proofs.Ytbbgcjdflcfnjaa
open Go.ChangeShapes Go.WideShapes Go.ChangeAt Go.RowKit
set_option linter.unusedVariables false
set_option linter.unusedSimpArgs false
theorem le_mul_big (a b : Nat) (ha : a < 18446744073709551616) (hb : b < 18446744073709551616) : a * b < 18446744073709551616 * 18446744073709551616 := Nat.mul_lt_mul'' ha hb
theorem aluUppers_walk (a1 a2 : Int) (w1 : (Lit.int .u64 a1).wf = true) (w2 : (Lit.int .u64 a2).wf = true) (w : World) : Calls Try.prog 9 #[.int .u64 a1, .int .u64 a2] w (RetB true w) := by
  obtain ⟨a, rfl, ha⟩ := u64_of_wf w1
  obtain ⟨b, rfl, hb⟩ := u64_of_wf w2
  have ha' := ha.out; have hb' := hb.out
  have hbb : (b + 1) % 18446744073709551616 < 18446744073709551616 := Nat.mod_lt _ (by decide)
  have some_of : ∀ (k : Int) (x y n : Nat) (hx : x < 18446744073709551616) (hy : y < 18446744073709551616), doV k false x y = some n → Hid (∀ v, Calls Try.prog 11 #[.int .i64 k, .bool false, .int .u64 x, .int .u64 y] v (RetN n true v)) :=
    fun k x y n hx hy h => Lib.hid fun v => (do_c k false x y hx hy v).mono fun _ _ r => retN_of (b := true) h (fun h => nomatch h) r
  have hi := hi_lt a b ha' hb'
  have hla := lessU_le a b
  have hlb := lessU_le b a
  have hsa : lessU a b = if a < 9223372036854775808 then 0 else b := rfl
  have hsb : lessU b a = if b < 9223372036854775808 then 0 else a := rfl
  have h1 : a * (b + 1) = a * b + a := Nat.mul_succ a b
  refine uppers_core a b ((b + 1) % 18446744073709551616) (a * b % 18446744073709551616) (a * b / 18446744073709551616) (a * ((b + 1) % 18446744073709551616) % 18446744073709551616) (a * ((b + 1) % 18446744073709551616) / 18446744073709551616) ((a * b / 18446744073709551616 + (18446744073709551616 - lessU a b)) % 18446744073709551616) ((a * b / 18446744073709551616 + (36893488147419103232 - (lessU b a + lessU a b))) % 18446744073709551616) ((a * b % 18446744073709551616 + a) % 18446744073709551616)
    (decide (b ≠ 18446744073709551615)) (decide (b = 0)) (decide ((a * b % 18446744073709551616 + a) % 18446744073709551616 < a * b % 18446744073709551616)) (decide (9223372036854775808 ≤ a)) (decide (9223372036854775808 ≤ b))
    (some_of 23 a b _ ha' hb' rfl) (some_of 26 a b _ ha' hb' rfl) (some_of 23 a _ _ ha' hbb rfl) (some_of 26 a _ _ ha' hbb rfl) (some_of 25 a b _ ha' hb' rfl) (some_of 24 a b _ ha' hb' rfl)
    ?_ ?_ ?_ ?_ ?_ ?_ ?_ ?_ ?_ ?_ ?_ ?_ ?_ ?_ ?_ ?_ ?_ w
  · rw [IntKind.wrap_u64]; omega
  · rw [IntKind.wrap_u64]; omega
  · by_cases h : b = 18446744073709551615 <;> simp [h] <;> omega
  · by_cases h : b = 0 <;> simp [h]
  · rw [Bool.eq_iff_iff]; simp only [beq_iff_eq, decide_eq_true_eq]; omega
  · rw [Bool.eq_iff_iff]; simp only [beq_iff_eq, decide_eq_true_eq]; omega
  · intro h; have := of_decide_eq_true h; omega
  · intro h; have := of_decide_eq_false h; exact ⟨decide_eq_false (by omega), by omega⟩
  · intro h; have h2 := of_decide_eq_true h; rw [show (b + 1) % 18446744073709551616 = b + 1 by omega, h1]; omega
  · intro h h'; have h2 := of_decide_eq_true h; have h3 := of_decide_eq_true h'; have h4 := hi_lt a (b + 1) ha' (by omega); rw [h1] at h4; rw [show (b + 1) % 18446744073709551616 = b + 1 by omega, h1, IntKind.wrap_u64]; clear h1; generalize a * b = m at *; omega
  · intro h h'; have h2 := of_decide_eq_true h; have h3 := of_decide_eq_false h'; rw [show (b + 1) % 18446744073709551616 = b + 1 by omega, h1]; clear h1; generalize a * b = m at *; omega
  · rw [IntKind.wrap_u64]; generalize a * b / 18446744073709551616 = m at *; omega
  · intro h; have h2 := of_decide_eq_true h; subst h2; constructor <;> simp
  · intro h; have h2 := of_decide_eq_true h; rw [hsa, if_neg (by omega), IntKind.wrap_u64]; generalize a * b / 18446744073709551616 = m at *; omega
  · intro h; have h2 := of_decide_eq_false h; rw [hsa, if_pos (by omega)]; generalize a * b / 18446744073709551616 = m at *; omega
  · intro h; have h2 := of_decide_eq_true h; rw [hsb, if_neg (by omega), IntKind.wrap_u64]; generalize a * b / 18446744073709551616 = m at *; generalize lessU a b = p at *; omega
  · intro h; have h2 := of_decide_eq_false h; rw [hsb, if_pos (by omega)]; generalize a * b / 18446744073709551616 = m at *; generalize lessU a b = p at *; omega
end Go.Proofs.Ytbbgcjdflcfnjaa
namespace Go.Proofs.Ytbbgcjdflcfnjaa.aluUppers
open Go.ChangeShapes Go.WideShapes Go.ChangeAt Go.RowKit
set_option linter.unusedVariables false
theorem own : ownKnob Try.prog.godebug = none := by kernel_rfl
set_option maxRecDepth 100000 in
theorem lifted (os : Os) (started : os.Started) (H : Type) (enc : TypeId × Value → H) :
    ReturnsInHanded {} Try.checked os 9 .any (Rows.aluUppersSpec.pre6 enc Try.prog Try.f9 Rows.aluUppersRow.domain false) (Rows.aluUppersSpec.post enc Try.prog Try.f9 false true false false) := by
  refine returnsInHanded_of_change (C := Try.checked) own started (by kernel_rfl) Try.func9
    (ChangeSpec.witness6 (enc := enc) (C := Try.checked) false ⟨#[], #[.int .u64 0, .int .u64 0], []⟩ 8 (by kernel_rfl) (by kernel_rfl) (by kernel_rfl) (by kernel_rfl)) ?_
  intro W base args ds gs before hval0 hW hcnd _
  have hval : ∀ (j : Nat) t v, Try.f9.params[j]? = some t → args[j]? = some v → Value.okWide Try.prog W .any base t v := hval0
  have hW' := hW
  obtain ⟨p, q, hA0, hV, rfl, hfz, hnd⟩ := hW
  have hA : DataW.TrodAll enc Try.prog W 0 (fun _ => true) true Try.f9.params.toList args.toList ds p := hA0
  rw [Try.params9] at hA hval
  obtain ⟨v0, vs0, d0, ds0, p0, q0, hargs, rfl, rfl, h0, r0⟩ := trodAll_cons hA
  obtain ⟨v1, vs1, d1, ds1, p1, q1, rfl, rfl, rfl, h1, r1⟩ := trodAll_cons r0
  obtain ⟨rfl, rfl, rfl⟩ := trodAll_nil r1
  obtain rfl : args = #[v0, v1] := by cases args; simp_all
  obtain ⟨rfl, rfl⟩ := trodVars_none hV
  obtain ⟨a0, rfl, rfl, rfl, w0⟩ := open_int Try.underlying22 (hval 0 22 v0 rfl rfl) h0
  obtain ⟨a1, rfl, rfl, rfl, w1⟩ := open_int Try.underlying22 (hval 1 22 v1 rfl rfl) h1
  clear hA0 hval0
  simp only [List.append_nil] at hW'
  refine (aluUppers_walk a0 a1 w0 w1 W).mono fun e W' ⟨he, hg⟩ => ?_
  subst he
  exact ⟨_, rfl, post_nums hW' (fun _ _ _ => (trodAll_cons_mk (shut_bool Try.underlying4 _) trodAll_mk0)) (fun sp => (trodAll_cons_mk (shut_int Try.underlying22 w0) (trodAll_cons_mk (shut_int Try.underlying22 w1) trodAll_mk0))) (fun _ => rfl) hg (ok_one (by kernel_rfl) rfl (okWide_bool_mk Try.underlying4 _))⟩
theorem over : Rows.aluUppersRow.holds Try.pinned (OpenSpec.ofChange Rows.aluUppersSpec) :=
  OpenClaim.holds_of_wide 9 Try.f9 rfl rfl rfl rfl rfl rfl rfl ⟨rfl, rfl, rfl, rfl, rfl⟩ rfl rfl rfl rfl rfl (by kernel_rfl) Try.func9 (by kernel_rfl)
    (of_decide_eq_true (by kernel_rfl)) (by unfold Func.isWrapper; first | (rw [if_pos (by decide +kernel)]; kernel_rfl) | (rw [if_neg (by decide +kernel)]; exact ⟨rfl, rfl⟩))
    (fun os started H enc _ => lifted os started H enc)
theorem proved : Rows.AluUppersSaid := over
#print axioms proved
end Go.Proofs.Ytbbgcjdflcfnjaa.aluUppers
