/- Instructions are compared field by field. -/
import Derived.Test.YtlohpakcikkdmaaA
import Derived.Laws.StructEq
namespace Go.Proofs.Ytlohpakcikkdmaa
open Go.ChangeShapes Go.WideShapes Go.ChangeAt Go.RowKit
set_option linter.unusedVariables false
set_option linter.unusedSimpArgs false
theorem guard25 : Try.prog.eqGuardType Try.prog.depth 25 = false := by kernel_rfl
theorem eq25 (ykind yrd yrs1 yrs2 yrs3 yrm ycsr ysize yimm : Int) (yui yun ywo : Bool) (kind rd rs1 rs2 rs3 rm csr size imm : Int) (ui un wo : Bool) (w : World) : (Op.equalIn 10000 25 (.agg #[.int .i64 ykind, .int .i64 yrd, .int .i64 yrs1, .int .i64 yrs2, .int .i64 yrs3, .int .i64 yrm, .int .i64 ycsr, .int .i64 ysize, .int .i64 yimm, .bool yui, .bool yun, .bool ywo]) (.agg #[.int .i64 kind, .int .i64 rd, .int .i64 rs1, .int .i64 rs2, .int .i64 rs3, .int .i64 rm, .int .i64 csr, .int .i64 size, .int .i64 imm, .bool ui, .bool un, .bool wo])).run Try.prog w =
    .ok (decide ((⟨ykind, yrd, yrs1, yrs2, yrs3, yrm, ycsr, ysize, yimm, yui, yun, ywo⟩ : Ins) = ⟨kind, rd, rs1, rs2, rs3, rm, csr, size, imm, ui, un, wo⟩)) w := by
  have u2 := Try.underlying2
  have a2 := Try.isAgg2
  have z2 := Try.sizeOf2
  have u3 := Try.underlying3
  have a3 := Try.isAgg3
  have z3 := Try.sizeOf3
  have u4 := Try.underlying4
  have a4 := Try.isAgg4
  have z4 := Try.sizeOf4
  have hS : Try.prog.underlying 25 = some (.struct (Try.prog.fieldsOf 25)) := by kernel_rfl
  have hp : Try.prog.stoodInHeld 25 = false := by kernel_rfl
  rw [show (10000 : Nat) = 9999 + 1 from rfl, run_equalIn_agg w 9999 25 _ _ hS hp]
  simp only [Program.fieldsOf, Try.underlying25]
  go_simp
  by_cases h_kind : ykind = kind
  rotate_left
  · simp [h_kind]
  subst h_kind
  by_cases h_rd : yrd = rd
  rotate_left
  · simp [h_rd]
  subst h_rd
  by_cases h_rs1 : yrs1 = rs1
  rotate_left
  · simp [h_rs1]
  subst h_rs1
  by_cases h_rs2 : yrs2 = rs2
  rotate_left
  · simp [h_rs2]
  subst h_rs2
  by_cases h_rs3 : yrs3 = rs3
  rotate_left
  · simp [h_rs3]
  subst h_rs3
  by_cases h_rm : yrm = rm
  rotate_left
  · simp [h_rm]
  subst h_rm
  by_cases h_csr : ycsr = csr
  rotate_left
  · simp [h_csr]
  subst h_csr
  by_cases h_size : ysize = size
  rotate_left
  · simp [h_size]
  subst h_size
  by_cases h_imm : yimm = imm
  rotate_left
  · simp [h_imm]
  subst h_imm
  by_cases h_ui : yui = ui
  rotate_left
  · simp [h_ui]
  subst h_ui
  by_cases h_un : yun = un
  rotate_left
  · simp [h_un]
  subst h_un
  by_cases h_wo : ywo = wo
  rotate_left
  · simp [h_wo]
  subst h_wo
  simp
end Go.Proofs.Ytlohpakcikkdmaa
