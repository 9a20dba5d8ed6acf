/- PROVED: 'DecodeReads' returns true whatever the bits are: the instruction that the document's own answer has, or none. No condition. -/
import Derived.Test.YtlohpakcikkdmaaF2
import Derived.Test.YtlohpakcikkdmaaM8
import Derived.Test.YtlohpakcikkdmaaR18
import Derived.Test.YtlohpakcikkdmaaE0
namespace Go.Proofs.Ytlohpakcikkdmaa
open Go.ChangeShapes Go.WideShapes Go.ChangeAt Go.RowKit Go.Sort
set_option linter.unusedVariables false
set_option linter.unusedSimpArgs false
set_option maxRecDepth 100000 in
set_option maxHeartbeats 4000000 in
theorem decodeReads_walk (a0 : Int) (w0 : (Lit.int .u32 a0).wf = true) (w : World) : Calls Try.prog 3 #[.int .u32 a0] w (RetB true w) := by
  obtain ⟨b, rfl, hb⟩ := u32_of_wf w0
  clear w0
  have D1 := Lib.hid (fun v => Decode_c b hb v)
  have D2 := Lib.hid (fun v => DecodeR_c b hb v)
  rw [reads b hb.out] at D2
  generalize decF b = I at *
  obtain ⟨kind, rd, rs1, rs2, rs3, rm, csr, size, imm, ui, un, wo⟩ := I
  have E1 : Hid (∀ v, Calls Try.prog 10 #[.int .u32 b] v (fun e w' => e = .returned (.agg #[.int .i64 kind, .int .i64 rd, .int .i64 rs1, .int .i64 rs2, .int .i64 rs3, .int .i64 rm, .int .i64 csr, .int .i64 size, .int .i64 imm, .bool ui, .bool un, .bool wo]) ∧ Below v.heap.size v w')) := D1.out
  have E2 : Hid (∀ v, Calls Try.prog 11 #[.int .u32 b] v (fun e w' => e = .returned (.agg #[.int .i64 kind, .int .i64 rd, .int .i64 rs1, .int .i64 rs2, .int .i64 rs3, .int .i64 rm, .int .i64 csr, .int .i64 size, .int .i64 imm, .bool ui, .bool un, .bool wo]) ∧ Below v.heap.size v w')) := D2.out
  clear D1 D2
  have g25 := guard25
  have hq25 := fun v => eq25 kind rd rs1 rs2 rs3 rm csr size imm ui un wo kind rd rs1 rs2 rs3 rm csr size imm ui un wo v
  rw [decide_eq_true (rfl : (⟨kind, rd, rs1, rs2, rs3, rm, csr, size, imm, ui, un, wo⟩ : Ins) = ⟨kind, rd, rs1, rs2, rs3, rm, csr, size, imm, ui, un, wo⟩)] at hq25
  go_enter Try.func3, Try.ntmps3
  go_wp2_with fail
  refine (awake_c _).mono ?_; rintro e w1 ⟨rfl, hb1⟩
  go_wp2_with fail
  refine (E1.out _).mono ?_; rintro e w2 ⟨rfl, hb2⟩
  go_wp2_with fail
  refine (E2.out _).mono ?_; rintro e w3 ⟨rfl, hb3⟩
  go_wp2_with fail
  (try rw [hq25])
  (try simp only [Result.andThen])
  go_wp2_with fail
  go_ret
  exact retB_mk (by first | rfl | simp) (by repeat (first | (with_reducible first | exact Below.refl _ _ | assumption | exact Nat.le_refl _ | refine Below.drew ?_ | refine Below.alloc ?_ ?_ _ | refine Below.setCell ?_ ?_ _ | refine le_alloc ?_ | refine le_set ?_ | refine le_drew ?_ | refine below_step (by assumption) ?_ ?_ | refine le_below (by assumption) ?_) | (dsimp only; omega)))
end Go.Proofs.Ytlohpakcikkdmaa
namespace Go.Proofs.Ytlohpakcikkdmaa.decodeReads
open Go.ChangeShapes Go.WideShapes Go.ChangeAt Go.RowKit
set_option linter.unusedVariables false
theorem own : ownKnob Try.prog.godebug = none := by kernel_rfl
set_option maxRecDepth 100000 in
theorem lifted (os : Os) (started : os.Started) (H : Type) (enc : TypeId × Value → H) :
    ReturnsInHanded {} Try.checked os 3 .any (Rows.decodeReadsSpec.pre6 enc Try.prog Try.f3 Rows.decodeReadsRow.domain false) (Rows.decodeReadsSpec.post enc Try.prog Try.f3 false true false false) := by
  refine returnsInHanded_of_change (C := Try.checked) own started (by kernel_rfl) Try.func3
    (ChangeSpec.witness6 (enc := enc) (C := Try.checked) false ⟨#[], #[.int .u32 0], []⟩ 8 (by kernel_rfl) (by kernel_rfl) (by kernel_rfl) (by kernel_rfl)) ?_
  intro W base args ds gs before hval0 hW hcnd _
  have hval : ∀ (j : Nat) t v, Try.f3.params[j]? = some t → args[j]? = some v → Value.okWide Try.prog W .any base t v := hval0
  have hW' := hW
  obtain ⟨p, q, hA0, hV, rfl, hfz, hnd⟩ := hW
  have hA : DataW.TrodAll enc Try.prog W 0 (fun _ => true) true Try.f3.params.toList args.toList ds p := hA0
  rw [Try.params3] at hA hval
  obtain ⟨v0, vs0, d0, ds0, p0, q0, hargs, rfl, rfl, h0, r0⟩ := trodAll_cons hA
  obtain ⟨rfl, rfl, rfl⟩ := trodAll_nil r0
  obtain rfl : args = #[v0] := by cases args; simp_all
  obtain ⟨rfl, rfl⟩ := trodVars_none hV
  obtain ⟨a0, rfl, rfl, rfl, w0⟩ := open_int Try.underlying22 (hval 0 22 v0 rfl rfl) h0
  clear hA0 hval0
  simp only [List.append_nil] at hW'
  refine (decodeReads_walk a0 w0 W).mono fun e W' ⟨he, hg⟩ => ?_
  subst he
  exact ⟨_, rfl, post_nums hW' (fun _ _ _ => (trodAll_cons_mk (shut_bool Try.underlying4 _) trodAll_mk0)) (fun sp => (trodAll_cons_mk (shut_int Try.underlying22 w0) trodAll_mk0)) (fun _ => rfl) hg (ok_one (by kernel_rfl) rfl (okWide_bool_mk Try.underlying4 _))⟩
theorem over : Rows.decodeReadsRow.holds Try.pinned (OpenSpec.ofChange Rows.decodeReadsSpec) :=
  OpenClaim.holds_of_wide 3 Try.f3 rfl rfl rfl rfl rfl rfl rfl ⟨rfl, rfl, rfl, rfl, rfl⟩ rfl rfl rfl rfl rfl (by kernel_rfl) Try.func3 (by kernel_rfl)
    (of_decide_eq_true (by kernel_rfl)) (by unfold Func.isWrapper; first | (rw [if_pos (by decide +kernel)]; kernel_rfl) | (rw [if_neg (by decide +kernel)]; exact ⟨rfl, rfl⟩))
    (fun os started H enc _ => lifted os started H enc)
theorem proved : Rows.DecodeReadsSaid := over
#print axioms proved
end Go.Proofs.Ytlohpakcikkdmaa.decodeReads
