/- The contract of attempt. -/
import Derived.Test.YtlohpakcikkdmaaE5
import Derived.Test.YtlohpakcikkdmaaE0
import Derived.Test.YtlohpakcikkdmaaB9
namespace Go.Proofs.Ytlohpakcikkdmaa
open Go.ChangeShapes Go.WideShapes Go.ChangeAt Go.RowKit Go.Sort
set_option linter.unusedVariables false
set_option linter.unusedSimpArgs false

def RetA (a : Nat) (b : Bool) (W : World) (e : Ending) (w' : World) : Prop := e = .returned (.tuple #[.int .u32 a, .bool b]) ∧ Below W.heap.size W w'
def attA (r : Row) (I : Ins) : Nat := if (r.kind : Int) = I.kind then writeF r I else 0
def attB (r : Row) (I : Ins) : Bool := if (r.kind : Int) = I.kind then decide (decF (writeF r I) = I) else false
theorem q_x {W : World} {dd : Nat} {os : Array Obj} {f : FuncId} {args : Array Value} {X : Ins} (c : Calls Try.prog f args (grow (redrawn W dd) os) (RetX X (grow (redrawn W dd) os))) :
    Calls Try.prog f args (grow (redrawn W dd) os) fun e w'' => e = .returned (.agg (cellsI X)) ∧ ∃ p : Regrown, w'' = grow (redrawn W p.d) p.os := Calls.regrown_of (c.mono fun _ _ h' => ⟨by rw [h'.1], h'.2⟩)

set_option maxRecDepth 100000 in
set_option maxHeartbeats 2000000 in
theorem attempt_c (r : Row) (hr : Hid (OkW r)) (I : Ins) (w : World) : Calls Try.prog 21 #[.agg (cellsR r), .agg (cellsI I)] w (RetA (attA r I) (attB r I) w) := by
  have hk : r.kind < 256 := hr.out.1.2.2.1
  have hwl : Hid (writeF r I < 4294967296) := writeF_lt r I hr.out.1.2.1
  by_cases hkk : (r.kind : Int) = I.kind
  · have HA : Hid (attA r I = writeF r I) := by show _ = _; unfold attA; rw [if_pos hkk]
    have HB : Hid (attB r I = decide (decF (writeF r I) = I)) := by show _ = _; unfold attB; rw [if_pos hkk]
    generalize attA r I = aa at HA ⊢
    generalize attB r I = bb at HB ⊢
    have hwr := Lib.hid (fun v => write_c r hr I v)
    generalize writeF r I = X at HA HB hwl hwr
    obtain ⟨Y, hY⟩ : ∃ Y, decF X = Y := ⟨_, rfl⟩
    rw [hY] at HB
    have hdc : Hid (∀ v, Calls Try.prog 10 #[.int .u32 X] v (RetX Y v)) := fun v => by rw [← hY]; exact Decode_c X hwl v
    clear hY
    obtain ⟨m, mt, k, p⟩ := r
    obtain ⟨kind, rd, rs1, rs2, rs3, rm, csr, size, imm, ui, un, wo⟩ := I
    obtain ⟨ykind, yrd, yrs1, yrs2, yrs3, yrm, ycsr, ysize, yimm, yui, yun, ywo⟩ := Y
    dsimp only at hkk hk
    have ek : wrap64 (k : Int) = k := IntWalk.wrap64_in _ (by omega)
    have ekk : ((k : Int) != kind) = false := by rw [hkk]; simp
    have HK := Lib.hid hkk; clear hkk hk
    show Calls Try.prog 21 #[.agg #[.int .u32 m, .int .u32 mt, .int .u8 k, .int .u32 p], .agg #[.int .i64 kind, .int .i64 rd, .int .i64 rs1, .int .i64 rs2, .int .i64 rs3, .int .i64 rm, .int .i64 csr, .int .i64 size, .int .i64 imm, .bool ui, .bool un, .bool wo]] w (RetA aa bb w)
    go_enter Try.func21, Try.ntmps21
    go_wp2_with fail
    refine (hwr.out _).mono ?_; rintro e w1 ⟨rfl, hb1⟩
    obtain ⟨hc1, hf1⟩ := bcell hb1; have hz1 := hb1.size; (try simp only [sz_alloc, sz_drew, sz_set] at hz1 hc1 hf1)
    have kr := fun o => hc1 (w.heap.size + 1) o (by omega)
    clear hc1 hf1
    go_wp2_with fail
    have b0 : w1.cell? ⟨w.heap.size + 1, 0, none⟩ = some (.int .i64 kind) := by rw [kr, World.cell?_alloc_at _ _ _ _ (sz_alloc _ _).symm]; rfl
    have b1 : w1.cell? ⟨w.heap.size + 1, 1, none⟩ = some (.int .i64 rd) := by rw [kr, World.cell?_alloc_at _ _ _ _ (sz_alloc _ _).symm]; rfl
    have b2 : w1.cell? ⟨w.heap.size + 1, 2, none⟩ = some (.int .i64 rs1) := by rw [kr, World.cell?_alloc_at _ _ _ _ (sz_alloc _ _).symm]; rfl
    have b3 : w1.cell? ⟨w.heap.size + 1, 3, none⟩ = some (.int .i64 rs2) := by rw [kr, World.cell?_alloc_at _ _ _ _ (sz_alloc _ _).symm]; rfl
    have b4 : w1.cell? ⟨w.heap.size + 1, 4, none⟩ = some (.int .i64 rs3) := by rw [kr, World.cell?_alloc_at _ _ _ _ (sz_alloc _ _).symm]; rfl
    have b5 : w1.cell? ⟨w.heap.size + 1, 5, none⟩ = some (.int .i64 rm) := by rw [kr, World.cell?_alloc_at _ _ _ _ (sz_alloc _ _).symm]; rfl
    have b6 : w1.cell? ⟨w.heap.size + 1, 6, none⟩ = some (.int .i64 csr) := by rw [kr, World.cell?_alloc_at _ _ _ _ (sz_alloc _ _).symm]; rfl
    have b7 : w1.cell? ⟨w.heap.size + 1, 7, none⟩ = some (.int .i64 size) := by rw [kr, World.cell?_alloc_at _ _ _ _ (sz_alloc _ _).symm]; rfl
    have b8 : w1.cell? ⟨w.heap.size + 1, 8, none⟩ = some (.int .i64 imm) := by rw [kr, World.cell?_alloc_at _ _ _ _ (sz_alloc _ _).symm]; rfl
    have b9 : w1.cell? ⟨w.heap.size + 1, 9, none⟩ = some (.bool ui) := by rw [kr, World.cell?_alloc_at _ _ _ _ (sz_alloc _ _).symm]; rfl
    have b10 : w1.cell? ⟨w.heap.size + 1, 10, none⟩ = some (.bool un) := by rw [kr, World.cell?_alloc_at _ _ _ _ (sz_alloc _ _).symm]; rfl
    have b11 : w1.cell? ⟨w.heap.size + 1, 11, none⟩ = some (.bool wo) := by rw [kr, World.cell?_alloc_at _ _ _ _ (sz_alloc _ _).symm]; rfl
    have Kb0 := cell_regrown b0
    have Kb1 := cell_regrown b1
    have Kb2 := cell_regrown b2
    have Kb3 := cell_regrown b3
    have Kb4 := cell_regrown b4
    have Kb5 := cell_regrown b5
    have Kb6 := cell_regrown b6
    have Kb7 := cell_regrown b7
    have Kb8 := cell_regrown b8
    have Kb9 := cell_regrown b9
    have Kb10 := cell_regrown b10
    have Kb11 := cell_regrown b11
    have q1 : ∀ dd os, Calls Try.prog 10 #[.int .u32 X] (grow (redrawn w1 dd) os) fun e w'' => e = .returned (.agg #[.int .i64 ykind, .int .i64 yrd, .int .i64 yrs1, .int .i64 yrs2, .int .i64 yrs3, .int .i64 yrm, .int .i64 ycsr, .int .i64 ysize, .int .i64 yimm, .bool yui, .bool yun, .bool ywo]) ∧ ∃ rg : Regrown, w'' = grow (redrawn w1 rg.d) rg.os := fun dd os => q_x (hdc.out _)
    have g25 := guard25
    obtain ⟨bv, hbv⟩ : ∃ bv, bv = decide ((⟨ykind, yrd, yrs1, yrs2, yrs3, yrm, ycsr, ysize, yimm, yui, yun, ywo⟩ : Ins) = ⟨kind, rd, rs1, rs2, rs3, rm, csr, size, imm, ui, un, wo⟩) := ⟨_, rfl⟩
    have hq25 := fun v => eq25 ykind yrd yrs1 yrs2 yrs3 yrm ycsr ysize yimm yui yun ywo kind rd rs1 rs2 rs3 rm csr size imm ui un wo v
    rw [← hbv] at hq25
    rw [← hbv] at HB
    clear hbv
    refine wp_region_quiet_below (by kernel_rfl) (by kernel_rfl) ?_
    repeat (go_big_quiet_step (first | (go_at_call 10; exact q1 _ _)))
    refine wpQuiet_nil ?_
    intro _ hw'
    obtain ⟨⟨dq, osq⟩, hw''⟩ := hw'
    subst hw''
    have hb2 := below_regrown w1 dq osq
    generalize grow (redrawn w1 dq) osq = w2 at hb2 ⊢
    clear Kb0 Kb1 Kb2 Kb3 Kb4 Kb5 Kb6 Kb7 Kb8 Kb9 Kb10 Kb11 b0 b1 b2 b3 b4 b5 b6 b7 b8 b9 b10 b11 q1
    go_wp2_with fail
    go_ret2
    exact ⟨by rw [HA.out, HB.out]; rfl, (by repeat (first | (with_reducible first | exact Below.refl _ _ | assumption | exact Nat.le_refl _ | refine Below.drew ?_ | refine Below.alloc ?_ ?_ _ | refine Below.setCell ?_ ?_ _ | refine le_alloc ?_ | refine le_set ?_ | refine le_drew ?_ | refine below_step (by assumption) ?_ ?_ | refine le_below (by assumption) ?_) | (dsimp only; omega)))⟩
  · have HA : Hid (attA r I = 0) := by show _ = _; unfold attA; rw [if_neg hkk]
    have HB : Hid (attB r I = false) := by show _ = _; unfold attB; rw [if_neg hkk]
    generalize attA r I = aa at HA ⊢
    generalize attB r I = bb at HB ⊢
    clear hwl
    obtain ⟨m, mt, k, p⟩ := r
    obtain ⟨kind, rd, rs1, rs2, rs3, rm, csr, size, imm, ui, un, wo⟩ := I
    dsimp only at hkk hk
    have ek : wrap64 (k : Int) = k := IntWalk.wrap64_in _ (by omega)
    have ekk : ((k : Int) != kind) = true := by simpa using hkk
    clear hkk hk
    show Calls Try.prog 21 #[.agg #[.int .u32 m, .int .u32 mt, .int .u8 k, .int .u32 p], .agg #[.int .i64 kind, .int .i64 rd, .int .i64 rs1, .int .i64 rs2, .int .i64 rs3, .int .i64 rm, .int .i64 csr, .int .i64 size, .int .i64 imm, .bool ui, .bool un, .bool wo]] w (RetA aa bb w)
    go_enter Try.func21, Try.ntmps21
    go_wp2_with fail
    go_ret2
    exact ⟨by rw [HA.out, HB.out]; rfl, (by repeat (first | (with_reducible first | exact Below.refl _ _ | assumption | exact Nat.le_refl _ | refine Below.drew ?_ | refine Below.alloc ?_ ?_ _ | refine Below.setCell ?_ ?_ _ | refine le_alloc ?_ | refine le_set ?_ | refine le_drew ?_ | refine below_step (by assumption) ?_ ?_ | refine le_below (by assumption) ?_) | (dsimp only; omega)))⟩
end Go.Proofs.Ytlohpakcikkdmaa
