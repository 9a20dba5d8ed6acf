/- PROVED: 'DecodeWrites' returns true whatever the instruction is: its bits as the document's own answer has them, or none. No condition. -/
import Derived.Test.YtlohpakcikkdmaaF3
import Derived.Test.YtlohpakcikkdmaaM10
namespace Go.Proofs.Ytlohpakcikkdmaa
open Go.ChangeShapes Go.WideShapes Go.ChangeAt Go.RowKit Go.Sort
set_option linter.unusedVariables false
set_option linter.unusedSimpArgs false
set_option maxRecDepth 100000 in
set_option maxHeartbeats 4000000 in
theorem decodeWrites_walk (I : Ins) (w : World) : Calls Try.prog 4 #[.agg (cellsI I)] w (RetB true w) := by
  have D1 := Lib.hid (fun v => Encode_c I v)
  have D2 := Lib.hid (fun v => EncodeR_c I v)
  rw [writes I] at D2
  have D3 : Hid (∀ v, Calls Try.prog 12 #[.agg (cellsI I)] v (RetA ((encF I).getD 0) (encF I).isSome v)) := D1.out
  clear D1
  generalize (encF I).getD 0 = n at *
  generalize (encF I).isSome = t at *
  have E1 : Hid (∀ v, Calls Try.prog 12 #[.agg #[.int .i64 I.kind, .int .i64 I.rd, .int .i64 I.rs1, .int .i64 I.rs2, .int .i64 I.rs3, .int .i64 I.rm, .int .i64 I.csr, .int .i64 I.size, .int .i64 I.imm, .bool I.ui, .bool I.un, .bool I.wo]] v (RetA n t v)) := D3.out
  have E2 : Hid (∀ v, Calls Try.prog 13 #[.agg #[.int .i64 I.kind, .int .i64 I.rd, .int .i64 I.rs1, .int .i64 I.rs2, .int .i64 I.rs3, .int .i64 I.rm, .int .i64 I.csr, .int .i64 I.size, .int .i64 I.imm, .bool I.ui, .bool I.un, .bool I.wo]] v (RetA n t v)) := D2.out
  clear D2 D3
  show Calls Try.prog 4 #[.agg #[.int .i64 I.kind, .int .i64 I.rd, .int .i64 I.rs1, .int .i64 I.rs2, .int .i64 I.rs3, .int .i64 I.rm, .int .i64 I.csr, .int .i64 I.size, .int .i64 I.imm, .bool I.ui, .bool I.un, .bool I.wo]] w (RetB true w)
  cases t
  all_goals (
    go_enter Try.func4, Try.ntmps4
    go_wp2_with fail
    have HA := Lib.hid (atI_lit w 25 w.heap.size I rfl)
    refine (awake_c _).mono ?_; rintro e w1 ⟨rfl, hb1⟩
    have hz1 := hb1.size
    simp only [sz_alloc] at hz1
    have HA1 := Lib.hid (atI_below HA.out hb1 (by rw [sz_alloc]; omega))
    clear HA
    have a0 : w1.cell? ⟨w.heap.size, 0, none⟩ = some (.int .i64 I.kind) := HA1.out.1 0
    have a1 : w1.cell? ⟨w.heap.size, 1, none⟩ = some (.int .i64 I.rd) := HA1.out.1 1
    have a2 : w1.cell? ⟨w.heap.size, 2, none⟩ = some (.int .i64 I.rs1) := HA1.out.1 2
    have a3 : w1.cell? ⟨w.heap.size, 3, none⟩ = some (.int .i64 I.rs2) := HA1.out.1 3
    have a4 : w1.cell? ⟨w.heap.size, 4, none⟩ = some (.int .i64 I.rs3) := HA1.out.1 4
    have a5 : w1.cell? ⟨w.heap.size, 5, none⟩ = some (.int .i64 I.rm) := HA1.out.1 5
    have a6 : w1.cell? ⟨w.heap.size, 6, none⟩ = some (.int .i64 I.csr) := HA1.out.1 6
    have a7 : w1.cell? ⟨w.heap.size, 7, none⟩ = some (.int .i64 I.size) := HA1.out.1 7
    have a8 : w1.cell? ⟨w.heap.size, 8, none⟩ = some (.int .i64 I.imm) := HA1.out.1 8
    have a9 : w1.cell? ⟨w.heap.size, 9, none⟩ = some (.bool I.ui) := HA1.out.1 9
    have a10 : w1.cell? ⟨w.heap.size, 10, none⟩ = some (.bool I.un) := HA1.out.1 10
    have a11 : w1.cell? ⟨w.heap.size, 11, none⟩ = some (.bool I.wo) := HA1.out.1 11
    go_wp2_with fail
    refine (E1.out _).mono ?_; rintro e w2 ⟨rfl, hb2⟩
    have hz2 := hb2.size
    have HA2 := Lib.hid (atI_below HA1.out hb2 (by omega))
    clear a0 a1 a2 a3 a4 a5 a6 a7 a8 a9 a10 a11
    have a0 : w2.cell? ⟨w.heap.size, 0, none⟩ = some (.int .i64 I.kind) := HA2.out.1 0
    have a1 : w2.cell? ⟨w.heap.size, 1, none⟩ = some (.int .i64 I.rd) := HA2.out.1 1
    have a2 : w2.cell? ⟨w.heap.size, 2, none⟩ = some (.int .i64 I.rs1) := HA2.out.1 2
    have a3 : w2.cell? ⟨w.heap.size, 3, none⟩ = some (.int .i64 I.rs2) := HA2.out.1 3
    have a4 : w2.cell? ⟨w.heap.size, 4, none⟩ = some (.int .i64 I.rs3) := HA2.out.1 4
    have a5 : w2.cell? ⟨w.heap.size, 5, none⟩ = some (.int .i64 I.rm) := HA2.out.1 5
    have a6 : w2.cell? ⟨w.heap.size, 6, none⟩ = some (.int .i64 I.csr) := HA2.out.1 6
    have a7 : w2.cell? ⟨w.heap.size, 7, none⟩ = some (.int .i64 I.size) := HA2.out.1 7
    have a8 : w2.cell? ⟨w.heap.size, 8, none⟩ = some (.int .i64 I.imm) := HA2.out.1 8
    have a9 : w2.cell? ⟨w.heap.size, 9, none⟩ = some (.bool I.ui) := HA2.out.1 9
    have a10 : w2.cell? ⟨w.heap.size, 10, none⟩ = some (.bool I.un) := HA2.out.1 10
    have a11 : w2.cell? ⟨w.heap.size, 11, none⟩ = some (.bool I.wo) := HA2.out.1 11
    go_wp2_with fail
    refine (E2.out _).mono ?_; rintro e w3 ⟨rfl, hb3⟩
    go_wp2_with fail
    go_ret
    exact retB_mk (by first | rfl | simp) (by repeat (first | (with_reducible first | exact Below.refl _ _ | assumption | exact Nat.le_refl _ | refine Below.drew ?_ | refine Below.alloc ?_ ?_ _ | refine Below.setCell ?_ ?_ _ | refine le_alloc ?_ | refine le_set ?_ | refine le_drew ?_ | refine below_step (by assumption) ?_ ?_ | refine le_below (by assumption) ?_) | (dsimp only; omega))))
end Go.Proofs.Ytlohpakcikkdmaa
namespace Go.Proofs.Ytlohpakcikkdmaa.decodeWrites
open Go.ChangeShapes Go.WideShapes Go.ChangeAt Go.RowKit
set_option linter.unusedVariables false
theorem own : ownKnob Try.prog.godebug = none := by kernel_rfl
set_option maxRecDepth 100000 in
theorem lifted (os : Os) (started : os.Started) (H : Type) (enc : TypeId × Value → H) :
    ReturnsInHanded {} Try.checked os 4 .any (Rows.decodeWritesSpec.pre6 enc Try.prog Try.f4 Rows.decodeWritesRow.domain false) (Rows.decodeWritesSpec.post enc Try.prog Try.f4 false true false false) := by
  refine returnsInHanded_of_change (C := Try.checked) own started (by kernel_rfl) Try.func4
    (ChangeSpec.witness6 (enc := enc) (C := Try.checked) false ⟨#[], #[.agg (cellsI zeroI)], []⟩ 8 (by kernel_rfl) (by kernel_rfl) (by kernel_rfl) (by kernel_rfl)) ?_
  intro W base args ds gs before hval0 hW hcnd _
  have hval : ∀ (j : Nat) t v, Try.f4.params[j]? = some t → args[j]? = some v → Value.okWide Try.prog W .any base t v := hval0
  have hW' := hW
  obtain ⟨p, q, hA0, hV, rfl, hfz, hnd⟩ := hW
  have hA : DataW.TrodAll enc Try.prog W 0 (fun _ => true) true Try.f4.params.toList args.toList ds p := hA0
  rw [Try.params4] at hA hval
  obtain ⟨v0, vs0, d0, ds0, p0, q0, hargs, rfl, rfl, h0, r0⟩ := trodAll_cons hA
  obtain ⟨rfl, rfl, rfl⟩ := trodAll_nil r0
  obtain rfl : args = #[v0] := by cases args; simp_all
  obtain ⟨rfl, rfl⟩ := trodVars_none hV
  obtain ⟨a0, rfl, rfl, re0⟩ := open_ins (hval 0 25 v0 rfl rfl) h0
  clear hA0 hval0
  simp only [List.append_nil] at hW'
  refine (decodeWrites_walk a0 W).mono fun e W' ⟨he, hg⟩ => ?_
  subst he
  exact ⟨_, rfl, post_nums hW' (fun _ _ _ => (trodAll_cons_mk (shut_bool Try.underlying4 _) trodAll_mk0)) (fun sp => (trodAll_cons_mk (re0 _ _ _ _) trodAll_mk0)) (fun _ => rfl) hg (ok_one (by kernel_rfl) rfl (okWide_bool_mk Try.underlying4 _))⟩
theorem over : Rows.decodeWritesRow.holds Try.pinned (OpenSpec.ofChange Rows.decodeWritesSpec) :=
  OpenClaim.holds_of_wide 4 Try.f4 rfl rfl rfl rfl rfl rfl rfl ⟨rfl, rfl, rfl, rfl, rfl⟩ rfl rfl rfl rfl rfl (by kernel_rfl) Try.func4 (by kernel_rfl)
    (of_decide_eq_true (by kernel_rfl)) (by unfold Func.isWrapper; first | (rw [if_pos (by decide +kernel)]; kernel_rfl) | (rw [if_neg (by decide +kernel)]; exact ⟨rfl, rfl⟩))
    (fun os started H enc _ => lifted os started H enc)
theorem proved : Rows.DecodeWritesSaid := over
#print axioms proved
end Go.Proofs.Ytlohpakcikkdmaa.decodeWrites
