/- The contract of write. -/
import Derived.Test.YtlohpakcikkdmaaE2
import Derived.Test.YtlohpakcikkdmaaE3
import Derived.Test.YtlohpakcikkdmaaE4
namespace Go.Proofs.Ytlohpakcikkdmaa
open Go.ChangeShapes Go.WideShapes Go.ChangeAt Go.RowKit Go.Sort
set_option linter.unusedVariables false
set_option linter.unusedSimpArgs false

def OkW (r : Row) : Prop := OkR r ∧ OkSz r.parts
set_option maxRecDepth 100000 in
set_option maxHeartbeats 2000000 in
theorem write_c (r : Row) (hr : Hid (OkW r)) (I : Ins) (w : World) : Calls Try.prog 32 #[.agg (cellsR r), .agg (cellsI I)] w (RetU (writeF r I) w) := by
  obtain ⟨m, mt, k, p⟩ := r
  have hp : Hid (p < 4294967296) := hr.out.1.2.2.2.1
  have hq : Hid (OkImm p) := hr.out.1.2.2.2.2
  have hz : Hid (OkSz p) := hr.out.2
  have HV : Hid (bits .or .u32 (bits .or .u32 (bits .or .u32 (mt : Int) (wRegs I : Int)) (wSizes p I : Int)) (wImm p I.imm : Int) = ((writeF ⟨m, mt, k, p⟩ I : Nat) : Int)) := by
    have a : mt < 4294967296 := hr.out.1.2.1
    have b := wRegs_lt I; have c := wSizes_lt p I; have d := wImm_lt p I.imm
    have ab := or_lt32 _ _ a b; have abc := or_lt32 _ _ ab c
    show _ = _
    rw [u32_or_nat _ _ a b, u32_or_nat _ _ ab c, u32_or_nat _ _ abc d]; rfl
  obtain ⟨kind, rd, rs1, rs2, rs3, rm, csr, size, imm, ui, un, wo⟩ := I
  generalize hX : writeF ⟨m, mt, k, p⟩ ⟨kind, rd, rs1, rs2, rs3, rm, csr, size, imm, ui, un, wo⟩ = X at HV ⊢
  generalize hA : wRegs ⟨kind, rd, rs1, rs2, rs3, rm, csr, size, imm, ui, un, wo⟩ = A at HV
  generalize hB : wSizes p ⟨kind, rd, rs1, rs2, rs3, rm, csr, size, imm, ui, un, wo⟩ = Bz at HV
  dsimp only at HV
  have HA := Lib.hid hA; have HB := Lib.hid hB
  clear hX hA hB
  show Calls Try.prog 32 #[.agg #[.int .u32 m, .int .u32 mt, .int .u8 k, .int .u32 p], .agg #[.int .i64 kind, .int .i64 rd, .int .i64 rs1, .int .i64 rs2, .int .i64 rs3, .int .i64 rm, .int .i64 csr, .int .i64 size, .int .i64 imm, .bool ui, .bool un, .bool wo]] w (RetU X w)
  go_enter Try.func32, Try.ntmps32
  go_wp2_with fail
  have a1 : ((w.alloc (Obj.cells #[.int .u32 m, .int .u32 mt, .int .u8 k, .int .u32 p] 35)).alloc (Obj.cells #[.int .i64 kind, .int .i64 rd, .int .i64 rs1, .int .i64 rs2, .int .i64 rs3, .int .i64 rm, .int .i64 csr, .int .i64 size, .int .i64 imm, .bool ui, .bool un, .bool wo] 25)).cell? ⟨w.heap.size, 1, none⟩ = some (.int .u32 mt) := by rw [World.cell?_alloc_past _ _ _ (by rw [sz_alloc]; exact Nat.lt_succ_self _), World.cell?_alloc_at _ _ _ _ rfl]; rfl
  have a3 : ((w.alloc (Obj.cells #[.int .u32 m, .int .u32 mt, .int .u8 k, .int .u32 p] 35)).alloc (Obj.cells #[.int .i64 kind, .int .i64 rd, .int .i64 rs1, .int .i64 rs2, .int .i64 rs3, .int .i64 rm, .int .i64 csr, .int .i64 size, .int .i64 imm, .bool ui, .bool un, .bool wo] 25)).cell? ⟨w.heap.size, 3, none⟩ = some (.int .u32 p) := by rw [World.cell?_alloc_past _ _ _ (by rw [sz_alloc]; exact Nat.lt_succ_self _), World.cell?_alloc_at _ _ _ _ rfl]; rfl
  have b0 : ((w.alloc (Obj.cells #[.int .u32 m, .int .u32 mt, .int .u8 k, .int .u32 p] 35)).alloc (Obj.cells #[.int .i64 kind, .int .i64 rd, .int .i64 rs1, .int .i64 rs2, .int .i64 rs3, .int .i64 rm, .int .i64 csr, .int .i64 size, .int .i64 imm, .bool ui, .bool un, .bool wo] 25)).cell? ⟨w.heap.size + 1, 0, none⟩ = some (.int .i64 kind) := by rw [World.cell?_alloc_at _ _ _ _ (sz_alloc _ _).symm]; rfl
  have b1 : ((w.alloc (Obj.cells #[.int .u32 m, .int .u32 mt, .int .u8 k, .int .u32 p] 35)).alloc (Obj.cells #[.int .i64 kind, .int .i64 rd, .int .i64 rs1, .int .i64 rs2, .int .i64 rs3, .int .i64 rm, .int .i64 csr, .int .i64 size, .int .i64 imm, .bool ui, .bool un, .bool wo] 25)).cell? ⟨w.heap.size + 1, 1, none⟩ = some (.int .i64 rd) := by rw [World.cell?_alloc_at _ _ _ _ (sz_alloc _ _).symm]; rfl
  have b2 : ((w.alloc (Obj.cells #[.int .u32 m, .int .u32 mt, .int .u8 k, .int .u32 p] 35)).alloc (Obj.cells #[.int .i64 kind, .int .i64 rd, .int .i64 rs1, .int .i64 rs2, .int .i64 rs3, .int .i64 rm, .int .i64 csr, .int .i64 size, .int .i64 imm, .bool ui, .bool un, .bool wo] 25)).cell? ⟨w.heap.size + 1, 2, none⟩ = some (.int .i64 rs1) := by rw [World.cell?_alloc_at _ _ _ _ (sz_alloc _ _).symm]; rfl
  have b3 : ((w.alloc (Obj.cells #[.int .u32 m, .int .u32 mt, .int .u8 k, .int .u32 p] 35)).alloc (Obj.cells #[.int .i64 kind, .int .i64 rd, .int .i64 rs1, .int .i64 rs2, .int .i64 rs3, .int .i64 rm, .int .i64 csr, .int .i64 size, .int .i64 imm, .bool ui, .bool un, .bool wo] 25)).cell? ⟨w.heap.size + 1, 3, none⟩ = some (.int .i64 rs2) := by rw [World.cell?_alloc_at _ _ _ _ (sz_alloc _ _).symm]; rfl
  have b4 : ((w.alloc (Obj.cells #[.int .u32 m, .int .u32 mt, .int .u8 k, .int .u32 p] 35)).alloc (Obj.cells #[.int .i64 kind, .int .i64 rd, .int .i64 rs1, .int .i64 rs2, .int .i64 rs3, .int .i64 rm, .int .i64 csr, .int .i64 size, .int .i64 imm, .bool ui, .bool un, .bool wo] 25)).cell? ⟨w.heap.size + 1, 4, none⟩ = some (.int .i64 rs3) := by rw [World.cell?_alloc_at _ _ _ _ (sz_alloc _ _).symm]; rfl
  have b5 : ((w.alloc (Obj.cells #[.int .u32 m, .int .u32 mt, .int .u8 k, .int .u32 p] 35)).alloc (Obj.cells #[.int .i64 kind, .int .i64 rd, .int .i64 rs1, .int .i64 rs2, .int .i64 rs3, .int .i64 rm, .int .i64 csr, .int .i64 size, .int .i64 imm, .bool ui, .bool un, .bool wo] 25)).cell? ⟨w.heap.size + 1, 5, none⟩ = some (.int .i64 rm) := by rw [World.cell?_alloc_at _ _ _ _ (sz_alloc _ _).symm]; rfl
  have b6 : ((w.alloc (Obj.cells #[.int .u32 m, .int .u32 mt, .int .u8 k, .int .u32 p] 35)).alloc (Obj.cells #[.int .i64 kind, .int .i64 rd, .int .i64 rs1, .int .i64 rs2, .int .i64 rs3, .int .i64 rm, .int .i64 csr, .int .i64 size, .int .i64 imm, .bool ui, .bool un, .bool wo] 25)).cell? ⟨w.heap.size + 1, 6, none⟩ = some (.int .i64 csr) := by rw [World.cell?_alloc_at _ _ _ _ (sz_alloc _ _).symm]; rfl
  have b7 : ((w.alloc (Obj.cells #[.int .u32 m, .int .u32 mt, .int .u8 k, .int .u32 p] 35)).alloc (Obj.cells #[.int .i64 kind, .int .i64 rd, .int .i64 rs1, .int .i64 rs2, .int .i64 rs3, .int .i64 rm, .int .i64 csr, .int .i64 size, .int .i64 imm, .bool ui, .bool un, .bool wo] 25)).cell? ⟨w.heap.size + 1, 7, none⟩ = some (.int .i64 size) := by rw [World.cell?_alloc_at _ _ _ _ (sz_alloc _ _).symm]; rfl
  have b8 : ((w.alloc (Obj.cells #[.int .u32 m, .int .u32 mt, .int .u8 k, .int .u32 p] 35)).alloc (Obj.cells #[.int .i64 kind, .int .i64 rd, .int .i64 rs1, .int .i64 rs2, .int .i64 rs3, .int .i64 rm, .int .i64 csr, .int .i64 size, .int .i64 imm, .bool ui, .bool un, .bool wo] 25)).cell? ⟨w.heap.size + 1, 8, none⟩ = some (.int .i64 imm) := by rw [World.cell?_alloc_at _ _ _ _ (sz_alloc _ _).symm]; rfl
  have b9 : ((w.alloc (Obj.cells #[.int .u32 m, .int .u32 mt, .int .u8 k, .int .u32 p] 35)).alloc (Obj.cells #[.int .i64 kind, .int .i64 rd, .int .i64 rs1, .int .i64 rs2, .int .i64 rs3, .int .i64 rm, .int .i64 csr, .int .i64 size, .int .i64 imm, .bool ui, .bool un, .bool wo] 25)).cell? ⟨w.heap.size + 1, 9, none⟩ = some (.bool ui) := by rw [World.cell?_alloc_at _ _ _ _ (sz_alloc _ _).symm]; rfl
  have b10 : ((w.alloc (Obj.cells #[.int .u32 m, .int .u32 mt, .int .u8 k, .int .u32 p] 35)).alloc (Obj.cells #[.int .i64 kind, .int .i64 rd, .int .i64 rs1, .int .i64 rs2, .int .i64 rs3, .int .i64 rm, .int .i64 csr, .int .i64 size, .int .i64 imm, .bool ui, .bool un, .bool wo] 25)).cell? ⟨w.heap.size + 1, 10, none⟩ = some (.bool un) := by rw [World.cell?_alloc_at _ _ _ _ (sz_alloc _ _).symm]; rfl
  have b11 : ((w.alloc (Obj.cells #[.int .u32 m, .int .u32 mt, .int .u8 k, .int .u32 p] 35)).alloc (Obj.cells #[.int .i64 kind, .int .i64 rd, .int .i64 rs1, .int .i64 rs2, .int .i64 rs3, .int .i64 rm, .int .i64 csr, .int .i64 size, .int .i64 imm, .bool ui, .bool un, .bool wo] 25)).cell? ⟨w.heap.size + 1, 11, none⟩ = some (.bool wo) := by rw [World.cell?_alloc_at _ _ _ _ (sz_alloc _ _).symm]; rfl
  have Ka1 := cell_regrown a1
  have Ka3 := cell_regrown a3
  have Kb0 := cell_regrown b0
  have Kb1 := cell_regrown b1
  have Kb2 := cell_regrown b2
  have Kb3 := cell_regrown b3
  have Kb4 := cell_regrown b4
  have Kb5 := cell_regrown b5
  have Kb6 := cell_regrown b6
  have Kb7 := cell_regrown b7
  have Kb8 := cell_regrown b8
  have Kb9 := cell_regrown b9
  have Kb10 := cell_regrown b10
  have Kb11 := cell_regrown b11
  have q1 : ∀ dd os, Calls Try.prog 42 #[.agg #[.int .i64 kind, .int .i64 rd, .int .i64 rs1, .int .i64 rs2, .int .i64 rs3, .int .i64 rm, .int .i64 csr, .int .i64 size, .int .i64 imm, .bool ui, .bool un, .bool wo]] (grow (redrawn ((w.alloc (Obj.cells #[.int .u32 m, .int .u32 mt, .int .u8 k, .int .u32 p] 35)).alloc (Obj.cells #[.int .i64 kind, .int .i64 rd, .int .i64 rs1, .int .i64 rs2, .int .i64 rs3, .int .i64 rm, .int .i64 csr, .int .i64 size, .int .i64 imm, .bool ui, .bool un, .bool wo] 25)) dd) os) fun e w'' => e = .returned (.int .u32 (A : Nat)) ∧ ∃ rg : Regrown, w'' = grow (redrawn ((w.alloc (Obj.cells #[.int .u32 m, .int .u32 mt, .int .u8 k, .int .u32 p] 35)).alloc (Obj.cells #[.int .i64 kind, .int .i64 rd, .int .i64 rs1, .int .i64 rs2, .int .i64 rs3, .int .i64 rm, .int .i64 csr, .int .i64 size, .int .i64 imm, .bool ui, .bool un, .bool wo] 25)) rg.d) rg.os := fun dd os => by rw [← HA.out]; exact q_u (wRegs_c ⟨kind, rd, rs1, rs2, rs3, rm, csr, size, imm, ui, un, wo⟩ _)
  have q2 : ∀ dd os, Calls Try.prog 43 #[.int .u32 p, .agg #[.int .i64 kind, .int .i64 rd, .int .i64 rs1, .int .i64 rs2, .int .i64 rs3, .int .i64 rm, .int .i64 csr, .int .i64 size, .int .i64 imm, .bool ui, .bool un, .bool wo]] (grow (redrawn ((w.alloc (Obj.cells #[.int .u32 m, .int .u32 mt, .int .u8 k, .int .u32 p] 35)).alloc (Obj.cells #[.int .i64 kind, .int .i64 rd, .int .i64 rs1, .int .i64 rs2, .int .i64 rs3, .int .i64 rm, .int .i64 csr, .int .i64 size, .int .i64 imm, .bool ui, .bool un, .bool wo] 25)) dd) os) fun e w'' => e = .returned (.int .u32 (Bz : Nat)) ∧ ∃ rg : Regrown, w'' = grow (redrawn ((w.alloc (Obj.cells #[.int .u32 m, .int .u32 mt, .int .u8 k, .int .u32 p] 35)).alloc (Obj.cells #[.int .i64 kind, .int .i64 rd, .int .i64 rs1, .int .i64 rs2, .int .i64 rs3, .int .i64 rm, .int .i64 csr, .int .i64 size, .int .i64 imm, .bool ui, .bool un, .bool wo] 25)) rg.d) rg.os := fun dd os => by rw [← HB.out]; exact q_u (wSizes_c p hp hz ⟨kind, rd, rs1, rs2, rs3, rm, csr, size, imm, ui, un, wo⟩ _)
  have q3 : ∀ dd os, Calls Try.prog 44 #[.int .u32 p, .int .i64 imm] (grow (redrawn ((w.alloc (Obj.cells #[.int .u32 m, .int .u32 mt, .int .u8 k, .int .u32 p] 35)).alloc (Obj.cells #[.int .i64 kind, .int .i64 rd, .int .i64 rs1, .int .i64 rs2, .int .i64 rs3, .int .i64 rm, .int .i64 csr, .int .i64 size, .int .i64 imm, .bool ui, .bool un, .bool wo] 25)) dd) os) fun e w'' => e = .returned (.int .u32 (wImm p imm : Nat)) ∧ ∃ rg : Regrown, w'' = grow (redrawn ((w.alloc (Obj.cells #[.int .u32 m, .int .u32 mt, .int .u8 k, .int .u32 p] 35)).alloc (Obj.cells #[.int .i64 kind, .int .i64 rd, .int .i64 rs1, .int .i64 rs2, .int .i64 rs3, .int .i64 rm, .int .i64 csr, .int .i64 size, .int .i64 imm, .bool ui, .bool un, .bool wo] 25)) rg.d) rg.os := fun dd os => q_u (placeImm_c p imm hp hq _)
  refine wp_region_quiet_below (by kernel_rfl) (by kernel_rfl) ?_
  repeat (go_big_quiet_step (first | (go_at_call 42; exact q1 _ _) | (go_at_call 43; exact q2 _ _) | (go_at_call 44; exact q3 _ _)))
  refine wpQuiet_nil ?_
  intro _ hw'
  obtain ⟨⟨dq, osq⟩, hw''⟩ := hw'
  subst hw''
  have hb1 := below_regrown ((w.alloc (Obj.cells #[.int .u32 m, .int .u32 mt, .int .u8 k, .int .u32 p] 35)).alloc (Obj.cells #[.int .i64 kind, .int .i64 rd, .int .i64 rs1, .int .i64 rs2, .int .i64 rs3, .int .i64 rm, .int .i64 csr, .int .i64 size, .int .i64 imm, .bool ui, .bool un, .bool wo] 25)) dq osq
  generalize grow (redrawn ((w.alloc (Obj.cells #[.int .u32 m, .int .u32 mt, .int .u8 k, .int .u32 p] 35)).alloc (Obj.cells #[.int .i64 kind, .int .i64 rd, .int .i64 rs1, .int .i64 rs2, .int .i64 rs3, .int .i64 rm, .int .i64 csr, .int .i64 size, .int .i64 imm, .bool ui, .bool un, .bool wo] 25)) dq) osq = w1 at hb1 ⊢
  clear Ka1 Ka3 Kb0 Kb1 Kb2 Kb3 Kb4 Kb5 Kb6 Kb7 Kb8 Kb9 Kb10 Kb11 a1 a3 b0 b1 b2 b3 b4 b5 b6 b7 b8 b9 b10 b11 q1 q2 q3
  go_wp2_with fail
  go_ret
  exact retU_mk HV.out (by repeat (first | (with_reducible first | exact Below.refl _ _ | assumption | exact Nat.le_refl _ | refine Below.drew ?_ | refine Below.alloc ?_ ?_ _ | refine Below.setCell ?_ ?_ _ | refine le_alloc ?_ | refine le_set ?_ | refine le_drew ?_ | refine below_step (by assumption) ?_ ?_ | refine le_below (by assumption) ?_) | (dsimp only; omega)))
end Go.Proofs.Ytlohpakcikkdmaa
