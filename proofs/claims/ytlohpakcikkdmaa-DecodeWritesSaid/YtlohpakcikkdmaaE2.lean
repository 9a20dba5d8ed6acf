/- The contract of writeRegisters. -/
import Derived.Test.YtlohpakcikkdmaaE1
namespace Go.Proofs.Ytlohpakcikkdmaa
open Go.ChangeShapes Go.WideShapes Go.ChangeAt Go.RowKit Go.Sort
set_option linter.unusedVariables false
set_option linter.unusedSimpArgs false

theorem wRegs_eq (I : Ins) : bits .or .u32 (bits .or .u32 (bits .or .u32 (plN I.rd 7 5 : Int) (bits .or .u32 (bits .or .u32 (plN I.rs1 15 5 : Int) (plN I.rs2 20 5 : Int)) (plN I.rs3 27 5 : Int))) (plN I.rm 12 3 : Int)) (plN I.csr 20 12 : Int) = ((wRegs I : Nat) : Int) := by
  have a := plN_lt I.rs1 15 5 (by decide); have b := plN_lt I.rs2 20 5 (by decide); have c := plN_lt I.rs3 27 5 (by decide)
  have d := plN_lt I.rd 7 5 (by decide); have e := plN_lt I.rm 12 3 (by decide); have f := plN_lt I.csr 20 12 (by decide)
  have ab := or_lt32 _ _ a b; have abc := or_lt32 _ _ ab c; have g := or_lt32 _ _ d abc; have h := or_lt32 _ _ g e
  rw [u32_or_nat _ _ a b, u32_or_nat _ _ ab c, u32_or_nat _ _ d abc, u32_or_nat _ _ g e, u32_or_nat _ _ h f]; rfl

set_option maxRecDepth 100000 in
set_option maxHeartbeats 2000000 in
theorem wRegs_c (I : Ins) (w : World) : Calls Try.prog 42 #[.agg (cellsI I)] w (RetU (wRegs I) w) := by
  have HV := Lib.hid (wRegs_eq I)
  obtain ⟨kind, rd, rs1, rs2, rs3, rm, csr, size, imm, ui, un, wo⟩ := I
  generalize hX : wRegs ⟨kind, rd, rs1, rs2, rs3, rm, csr, size, imm, ui, un, wo⟩ = X at HV ⊢
  clear hX
  dsimp only at HV
  show Calls Try.prog 42 #[.agg #[.int .i64 kind, .int .i64 rd, .int .i64 rs1, .int .i64 rs2, .int .i64 rs3, .int .i64 rm, .int .i64 csr, .int .i64 size, .int .i64 imm, .bool ui, .bool un, .bool wo]] w (RetU X w)
  go_enter Try.func42, Try.ntmps42
  go_wp2_with fail
  have c2 : (w.alloc (Obj.cells #[.int .i64 kind, .int .i64 rd, .int .i64 rs1, .int .i64 rs2, .int .i64 rs3, .int .i64 rm, .int .i64 csr, .int .i64 size, .int .i64 imm, .bool ui, .bool un, .bool wo] 25)).cell? ⟨w.heap.size, 2, none⟩ = some (.int .i64 rs1) := World.cell?_alloc_at _ _ _ _ rfl
  have c3 : (w.alloc (Obj.cells #[.int .i64 kind, .int .i64 rd, .int .i64 rs1, .int .i64 rs2, .int .i64 rs3, .int .i64 rm, .int .i64 csr, .int .i64 size, .int .i64 imm, .bool ui, .bool un, .bool wo] 25)).cell? ⟨w.heap.size, 3, none⟩ = some (.int .i64 rs2) := World.cell?_alloc_at _ _ _ _ rfl
  have c4 : (w.alloc (Obj.cells #[.int .i64 kind, .int .i64 rd, .int .i64 rs1, .int .i64 rs2, .int .i64 rs3, .int .i64 rm, .int .i64 csr, .int .i64 size, .int .i64 imm, .bool ui, .bool un, .bool wo] 25)).cell? ⟨w.heap.size, 4, none⟩ = some (.int .i64 rs3) := World.cell?_alloc_at _ _ _ _ rfl
  have K2 := cell_regrown c2
  have K3 := cell_regrown c3
  have K4 := cell_regrown c4
  have qrs1 : ∀ dd os, Calls Try.prog 45 #[.int .i64 rs1, .int .i64 15, .int .i64 5] (grow (redrawn (w.alloc (Obj.cells #[.int .i64 kind, .int .i64 rd, .int .i64 rs1, .int .i64 rs2, .int .i64 rs3, .int .i64 rm, .int .i64 csr, .int .i64 size, .int .i64 imm, .bool ui, .bool un, .bool wo] 25)) dd) os) fun e w'' => e = .returned (.int .u32 (plN rs1 15 5 : Nat)) ∧ ∃ p : Regrown, w'' = grow (redrawn (w.alloc (Obj.cells #[.int .i64 kind, .int .i64 rd, .int .i64 rs1, .int .i64 rs2, .int .i64 rs3, .int .i64 rm, .int .i64 csr, .int .i64 size, .int .i64 imm, .bool ui, .bool un, .bool wo] 25)) p.d) p.os := fun dd os => q_u (place_15_5 rs1 _)
  have qrs2 : ∀ dd os, Calls Try.prog 45 #[.int .i64 rs2, .int .i64 20, .int .i64 5] (grow (redrawn (w.alloc (Obj.cells #[.int .i64 kind, .int .i64 rd, .int .i64 rs1, .int .i64 rs2, .int .i64 rs3, .int .i64 rm, .int .i64 csr, .int .i64 size, .int .i64 imm, .bool ui, .bool un, .bool wo] 25)) dd) os) fun e w'' => e = .returned (.int .u32 (plN rs2 20 5 : Nat)) ∧ ∃ p : Regrown, w'' = grow (redrawn (w.alloc (Obj.cells #[.int .i64 kind, .int .i64 rd, .int .i64 rs1, .int .i64 rs2, .int .i64 rs3, .int .i64 rm, .int .i64 csr, .int .i64 size, .int .i64 imm, .bool ui, .bool un, .bool wo] 25)) p.d) p.os := fun dd os => q_u (place_20_5 rs2 _)
  have qrs3 : ∀ dd os, Calls Try.prog 45 #[.int .i64 rs3, .int .i64 27, .int .i64 5] (grow (redrawn (w.alloc (Obj.cells #[.int .i64 kind, .int .i64 rd, .int .i64 rs1, .int .i64 rs2, .int .i64 rs3, .int .i64 rm, .int .i64 csr, .int .i64 size, .int .i64 imm, .bool ui, .bool un, .bool wo] 25)) dd) os) fun e w'' => e = .returned (.int .u32 (plN rs3 27 5 : Nat)) ∧ ∃ p : Regrown, w'' = grow (redrawn (w.alloc (Obj.cells #[.int .i64 kind, .int .i64 rd, .int .i64 rs1, .int .i64 rs2, .int .i64 rs3, .int .i64 rm, .int .i64 csr, .int .i64 size, .int .i64 imm, .bool ui, .bool un, .bool wo] 25)) p.d) p.os := fun dd os => q_u (place_27_5 rs3 _)
  refine wp_region_quiet_below (by kernel_rfl) (by kernel_rfl) ?_
  repeat (go_big_quiet_step (first | (go_at_call_of 45 (Value.int .i64 rs1); exact qrs1 _ _) | (go_at_call_of 45 (Value.int .i64 rs2); exact qrs2 _ _) | (go_at_call_of 45 (Value.int .i64 rs3); exact qrs3 _ _)))
  refine wpQuiet_nil ?_
  intro _ hw'
  obtain ⟨⟨dq, osq⟩, hw''⟩ := hw'
  subst hw''
  have hb1 := below_regrown (w.alloc (Obj.cells #[.int .i64 kind, .int .i64 rd, .int .i64 rs1, .int .i64 rs2, .int .i64 rs3, .int .i64 rm, .int .i64 csr, .int .i64 size, .int .i64 imm, .bool ui, .bool un, .bool wo] 25)) dq osq
  generalize grow (redrawn (w.alloc (Obj.cells #[.int .i64 kind, .int .i64 rd, .int .i64 rs1, .int .i64 rs2, .int .i64 rs3, .int .i64 rm, .int .i64 csr, .int .i64 size, .int .i64 imm, .bool ui, .bool un, .bool wo] 25)) dq) osq = w1 at hb1 ⊢
  clear K2 c2 K3 c3 K4 c4 qrs1 qrs2 qrs3
  obtain ⟨hc1, hf1⟩ := bcell hb1; have hz1 := hb1.size; (try simp only [sz_alloc, sz_drew, sz_set] at hz1 hc1 hf1); have kq_0 := fun o => hc1 w.heap.size o (by omega)
  (try simp only [World.cell?_alloc_at _ _ _ _ rfl] at kq_0)
  clear hc1 hf1
  go_wp2_with fail
  have c1 : w1.cell? ⟨w.heap.size, 1, none⟩ = some (.int .i64 rd) := by rw [kq_0]; rfl
  have c5 : w1.cell? ⟨w.heap.size, 5, none⟩ = some (.int .i64 rm) := by rw [kq_0]; rfl
  have c6 : w1.cell? ⟨w.heap.size, 6, none⟩ = some (.int .i64 csr) := by rw [kq_0]; rfl
  have K1 := cell_regrown c1
  have K5 := cell_regrown c5
  have K6 := cell_regrown c6
  have qrd : ∀ dd os, Calls Try.prog 45 #[.int .i64 rd, .int .i64 7, .int .i64 5] (grow (redrawn w1 dd) os) fun e w'' => e = .returned (.int .u32 (plN rd 7 5 : Nat)) ∧ ∃ p : Regrown, w'' = grow (redrawn w1 p.d) p.os := fun dd os => q_u (place_7_5 rd _)
  have qrm : ∀ dd os, Calls Try.prog 45 #[.int .i64 rm, .int .i64 12, .int .i64 3] (grow (redrawn w1 dd) os) fun e w'' => e = .returned (.int .u32 (plN rm 12 3 : Nat)) ∧ ∃ p : Regrown, w'' = grow (redrawn w1 p.d) p.os := fun dd os => q_u (place_12_3 rm _)
  have qcsr : ∀ dd os, Calls Try.prog 45 #[.int .i64 csr, .int .i64 20, .int .i64 12] (grow (redrawn w1 dd) os) fun e w'' => e = .returned (.int .u32 (plN csr 20 12 : Nat)) ∧ ∃ p : Regrown, w'' = grow (redrawn w1 p.d) p.os := fun dd os => q_u (place_20_12 csr _)
  refine wp_region_quiet_below (by kernel_rfl) (by kernel_rfl) ?_
  repeat (go_big_quiet_step (first | (go_at_call_of 45 (Value.int .i64 rd); exact qrd _ _) | (go_at_call_of 45 (Value.int .i64 rm); exact qrm _ _) | (go_at_call_of 45 (Value.int .i64 csr); exact qcsr _ _)))
  refine wpQuiet_nil ?_
  intro _ hw'
  obtain ⟨⟨dq, osq⟩, hw''⟩ := hw'
  subst hw''
  have hb2 := below_regrown w1 dq osq
  generalize grow (redrawn w1 dq) osq = w2 at hb2 ⊢
  clear K1 c1 K5 c5 K6 c6 qrd qrm qcsr
  go_wp2_with fail
  go_ret
  exact retU_mk HV.out (by repeat (first | (with_reducible first | exact Below.refl _ _ | assumption | exact Nat.le_refl _ | refine Below.drew ?_ | refine Below.alloc ?_ ?_ _ | refine Below.setCell ?_ ?_ _ | refine le_alloc ?_ | refine le_set ?_ | refine le_drew ?_ | refine below_step (by assumption) ?_ ?_ | refine le_below (by assumption) ?_) | (dsimp only; omega)))

end Go.Proofs.Ytlohpakcikkdmaa
