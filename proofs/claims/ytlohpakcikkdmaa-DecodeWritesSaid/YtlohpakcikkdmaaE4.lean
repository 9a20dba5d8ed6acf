/- The contract of writeSizes. -/
import Derived.Test.YtlohpakcikkdmaaE1
namespace Go.Proofs.Ytlohpakcikkdmaa
open Go.ChangeShapes Go.WideShapes Go.ChangeAt Go.RowKit Go.Sort
set_option linter.unusedVariables false
set_option linter.unusedSimpArgs false

/-- Which sizes a row may name. -/
def OkSz (p : Nat) : Prop := (has p 8192 = false ∧ has p 16384 = false ∧ has p 32768 = false ∧ has p 65536 = false) ∨ (has p 8192 = true ∧ has p 16384 = false ∧ has p 32768 = false ∧ has p 65536 = false) ∨
  (has p 8192 = false ∧ has p 16384 = true ∧ has p 32768 = false ∧ has p 65536 = false) ∨ (has p 8192 = false ∧ has p 16384 = false ∧ has p 32768 = true ∧ has p 65536 = false) ∨ (has p 8192 = false ∧ has p 16384 = true ∧ has p 32768 = false ∧ has p 65536 = true)
instance (p : Nat) : Decidable (OkSz p) := by unfold OkSz; infer_instance
set_option maxRecDepth 100000 in
set_option maxHeartbeats 2000000 in
theorem wSizes_none (p : Nat) (hp : Hid (p < 4294967296)) (h1 : has p 8192 = false) (h2 : has p 16384 = false) (h3 : has p 32768 = false) (h4 : has p 65536 = false) (kind rd rs1 rs2 rs3 rm csr size imm : Int) (ui un wo : Bool) (w : World) :
    Calls Try.prog 43 #[.int .u32 p, .agg #[.int .i64 kind, .int .i64 rd, .int .i64 rs1, .int .i64 rs2, .int .i64 rs3, .int .i64 rm, .int .i64 csr, .int .i64 size, .int .i64 imm, .bool ui, .bool un, .bool wo]] w (RetU (wSizes p ⟨kind, rd, rs1, rs2, rs3, rm, csr, size, imm, ui, un, wo⟩) w) := by
  have HV : Hid (wSizes p ⟨kind, rd, rs1, rs2, rs3, rm, csr, size, imm, ui, un, wo⟩ = 0) := by show _ = _; unfold wSizes wSz4 wSz3 wSz2 wSz1; simp [h1, h2, h3, h4]
  skip
  have t1 : (bits .and .u32 (p : Int) 8192 != 0) = has p 8192 := u32_has p 8192 hp (by decide)
  have t2 : (bits .and .u32 (p : Int) 16384 != 0) = has p 16384 := u32_has p 16384 hp (by decide)
  have t3 : (bits .and .u32 (p : Int) 32768 != 0) = has p 32768 := u32_has p 32768 hp (by decide)
  have t4 : (bits .and .u32 (p : Int) 65536 != 0) = has p 65536 := u32_has p 65536 hp (by decide)
  rw [h1] at t1; rw [h2] at t2; rw [h3] at t3; rw [h4] at t4
  clear h1 h2 h3 h4
  skip
  skip
  go_enter Try.func43, Try.ntmps43
  go_wp2_with fail
  go_ret
  exact retU_mk (by rw [HV.out]; first | rfl | decide) (by repeat (first | (with_reducible first | exact Below.refl _ _ | assumption | exact Nat.le_refl _ | refine Below.drew ?_ | refine Below.alloc ?_ ?_ _ | refine Below.setCell ?_ ?_ _ | refine le_alloc ?_ | refine le_set ?_ | refine le_drew ?_ | refine below_step (by assumption) ?_ ?_ | refine le_below (by assumption) ?_) | (dsimp only; omega)))

set_option maxRecDepth 100000 in
set_option maxHeartbeats 2000000 in
theorem wSizes_wide (p : Nat) (hp : Hid (p < 4294967296)) (h1 : has p 8192 = true) (h2 : has p 16384 = false) (h3 : has p 32768 = false) (h4 : has p 65536 = false) (kind rd rs1 rs2 rs3 rm csr size imm : Int) (ui un wo : Bool) (w : World) :
    Calls Try.prog 43 #[.int .u32 p, .agg #[.int .i64 kind, .int .i64 rd, .int .i64 rs1, .int .i64 rs2, .int .i64 rs3, .int .i64 rm, .int .i64 csr, .int .i64 size, .int .i64 imm, .bool ui, .bool un, .bool wo]] w (RetU (wSizes p ⟨kind, rd, rs1, rs2, rs3, rm, csr, size, imm, ui, un, wo⟩) w) := by
  have HV : Hid (wSizes p ⟨kind, rd, rs1, rs2, rs3, rm, csr, size, imm, ui, un, wo⟩ = 0 ||| plN (powV size) 12 2) := by show _ = _; unfold wSizes wSz4 wSz3 wSz2 wSz1; simp [h1, h2, h3, h4]
  skip
  have t1 : (bits .and .u32 (p : Int) 8192 != 0) = has p 8192 := u32_has p 8192 hp (by decide)
  have t2 : (bits .and .u32 (p : Int) 16384 != 0) = has p 16384 := u32_has p 16384 hp (by decide)
  have t3 : (bits .and .u32 (p : Int) 32768 != 0) = has p 32768 := u32_has p 32768 hp (by decide)
  have t4 : (bits .and .u32 (p : Int) 65536 != 0) = has p 65536 := u32_has p 65536 hp (by decide)
  rw [h1] at t1; rw [h2] at t2; rw [h3] at t3; rw [h4] at t4
  clear h1 h2 h3 h4
  skip
  skip
  go_enter Try.func43, Try.ntmps43
  go_wp2_with fail
  refine (power_c size _).mono ?_; rintro e w1 ⟨rfl, hb1⟩
  go_wp2_with fail
  refine (place_12_2 _ _).mono ?_; rintro e w2 ⟨rfl, hb2⟩
  go_wp2_with fail
  go_ret
  exact retU_mk (by rw [HV.out]; exact u32_or_nat 0 _ (by decide) (plN_lt _ _ _ (by decide))) (by repeat (first | (with_reducible first | exact Below.refl _ _ | assumption | exact Nat.le_refl _ | refine Below.drew ?_ | refine Below.alloc ?_ ?_ _ | refine Below.setCell ?_ ?_ _ | refine le_alloc ?_ | refine le_set ?_ | refine le_drew ?_ | refine below_step (by assumption) ?_ ?_ | refine le_below (by assumption) ?_) | (dsimp only; omega)))

set_option maxRecDepth 100000 in
set_option maxHeartbeats 2000000 in
theorem wSizes_fmt8 (p : Nat) (hp : Hid (p < 4294967296)) (h1 : has p 8192 = false) (h2 : has p 16384 = true) (h3 : has p 32768 = false) (h4 : has p 65536 = false) (kind rd rs1 rs2 rs3 rm csr imm : Int) (ui un wo : Bool) (w : World) :
    Calls Try.prog 43 #[.int .u32 p, .agg #[.int .i64 kind, .int .i64 rd, .int .i64 rs1, .int .i64 rs2, .int .i64 rs3, .int .i64 rm, .int .i64 csr, .int .i64 8, .int .i64 imm, .bool ui, .bool un, .bool wo]] w (RetU (wSizes p ⟨kind, rd, rs1, rs2, rs3, rm, csr, 8, imm, ui, un, wo⟩) w) := by
  have HV : Hid (wSizes p ⟨kind, rd, rs1, rs2, rs3, rm, csr, 8, imm, ui, un, wo⟩ = 33554432) := by show _ = _; unfold wSizes wSz4 wSz3 wSz2 wSz1; simp [h1, h2, h3, h4]
  skip
  have t1 : (bits .and .u32 (p : Int) 8192 != 0) = has p 8192 := u32_has p 8192 hp (by decide)
  have t2 : (bits .and .u32 (p : Int) 16384 != 0) = has p 16384 := u32_has p 16384 hp (by decide)
  have t3 : (bits .and .u32 (p : Int) 32768 != 0) = has p 32768 := u32_has p 32768 hp (by decide)
  have t4 : (bits .and .u32 (p : Int) 65536 != 0) = has p 65536 := u32_has p 65536 hp (by decide)
  rw [h1] at t1; rw [h2] at t2; rw [h3] at t3; rw [h4] at t4
  clear h1 h2 h3 h4
  skip
  skip
  go_enter Try.func43, Try.ntmps43
  go_wp2_with fail
  refine (place1_25 _).mono ?_; rintro e w1 ⟨rfl, hb1⟩
  obtain ⟨hc1, hf1⟩ := bcell hb1; have hz1 := hb1.size; (try simp only [sz_alloc, sz_drew, sz_set] at hz1 hc1 hf1); have l1_0 : w.heap.size < w1.heap.size := (by omega); have n1_0 : ¬ w.heap.size = w1.heap.size := (by omega); have m1_0 : ¬ w1.heap.size = w.heap.size := (by omega); have k1_0 := fun o => hc1 (w.heap.size) o (by omega); have f1_0 := fun o => hf1 (w.heap.size) o (by omega); (try simp (disch := (first | rfl | omega | (simp only [sz_alloc, sz_drew, sz_set]; omega))) only [sz_alloc, sz_drew, sz_set, World.cell?_drew, World.frozen?_drew, World.cell?_alloc_at, World.cell?_alloc_past, World.frozen?_alloc_at, World.frozen?_alloc_past] at k1_0 f1_0)
  go_wp2_with fail
  go_ret
  exact retU_mk (by rw [HV.out]; first | rfl | decide) (by repeat (first | (with_reducible first | exact Below.refl _ _ | assumption | exact Nat.le_refl _ | refine Below.drew ?_ | refine Below.alloc ?_ ?_ _ | refine Below.setCell ?_ ?_ _ | refine le_alloc ?_ | refine le_set ?_ | refine le_drew ?_ | refine below_step (by assumption) ?_ ?_ | refine le_below (by assumption) ?_) | (dsimp only; omega)))

set_option maxRecDepth 100000 in
set_option maxHeartbeats 2000000 in
theorem wSizes_fmt4 (p : Nat) (hp : Hid (p < 4294967296)) (h1 : has p 8192 = false) (h2 : has p 16384 = true) (h3 : has p 32768 = false) (h4 : has p 65536 = false) (kind rd rs1 rs2 rs3 rm csr size imm : Int) (ui un wo : Bool) (hs : size ≠ 8) (w : World) :
    Calls Try.prog 43 #[.int .u32 p, .agg #[.int .i64 kind, .int .i64 rd, .int .i64 rs1, .int .i64 rs2, .int .i64 rs3, .int .i64 rm, .int .i64 csr, .int .i64 size, .int .i64 imm, .bool ui, .bool un, .bool wo]] w (RetU (wSizes p ⟨kind, rd, rs1, rs2, rs3, rm, csr, size, imm, ui, un, wo⟩) w) := by
  have h8 : decide (size = 8) = false := decide_eq_false hs
  have HV : Hid (wSizes p ⟨kind, rd, rs1, rs2, rs3, rm, csr, size, imm, ui, un, wo⟩ = 0) := by show _ = _; unfold wSizes wSz4 wSz3 wSz2 wSz1; simp [h1, h2, h3, h4, hs]
  clear h8
  have t1 : (bits .and .u32 (p : Int) 8192 != 0) = has p 8192 := u32_has p 8192 hp (by decide)
  have t2 : (bits .and .u32 (p : Int) 16384 != 0) = has p 16384 := u32_has p 16384 hp (by decide)
  have t3 : (bits .and .u32 (p : Int) 32768 != 0) = has p 32768 := u32_has p 32768 hp (by decide)
  have t4 : (bits .and .u32 (p : Int) 65536 != 0) = has p 65536 := u32_has p 65536 hp (by decide)
  rw [h1] at t1; rw [h2] at t2; rw [h3] at t3; rw [h4] at t4
  clear h1 h2 h3 h4
  have e8 : (size == 8) = false := by simpa using hs
  clear hs
  go_enter Try.func43, Try.ntmps43
  go_wp2_with fail
  go_ret
  exact retU_mk (by rw [HV.out]; first | rfl | decide) (by repeat (first | (with_reducible first | exact Below.refl _ _ | assumption | exact Nat.le_refl _ | refine Below.drew ?_ | refine Below.alloc ?_ ?_ _ | refine Below.setCell ?_ ?_ _ | refine le_alloc ?_ | refine le_set ?_ | refine le_drew ?_ | refine below_step (by assumption) ?_ ?_ | refine le_below (by assumption) ?_) | (dsimp only; omega)))

set_option maxRecDepth 100000 in
set_option maxHeartbeats 2000000 in
theorem wSizes_wordt (p : Nat) (hp : Hid (p < 4294967296)) (h1 : has p 8192 = false) (h2 : has p 16384 = false) (h3 : has p 32768 = true) (h4 : has p 65536 = false) (kind rd rs1 rs2 rs3 rm csr size imm : Int) (ui un : Bool) (w : World) :
    Calls Try.prog 43 #[.int .u32 p, .agg #[.int .i64 kind, .int .i64 rd, .int .i64 rs1, .int .i64 rs2, .int .i64 rs3, .int .i64 rm, .int .i64 csr, .int .i64 size, .int .i64 imm, .bool ui, .bool un, .bool true]] w (RetU (wSizes p ⟨kind, rd, rs1, rs2, rs3, rm, csr, size, imm, ui, un, true⟩) w) := by
  have HV : Hid (wSizes p ⟨kind, rd, rs1, rs2, rs3, rm, csr, size, imm, ui, un, true⟩ = 8) := by show _ = _; unfold wSizes wSz4 wSz3 wSz2 wSz1; simp [h1, h2, h3, h4]
  skip
  have t1 : (bits .and .u32 (p : Int) 8192 != 0) = has p 8192 := u32_has p 8192 hp (by decide)
  have t2 : (bits .and .u32 (p : Int) 16384 != 0) = has p 16384 := u32_has p 16384 hp (by decide)
  have t3 : (bits .and .u32 (p : Int) 32768 != 0) = has p 32768 := u32_has p 32768 hp (by decide)
  have t4 : (bits .and .u32 (p : Int) 65536 != 0) = has p 65536 := u32_has p 65536 hp (by decide)
  rw [h1] at t1; rw [h2] at t2; rw [h3] at t3; rw [h4] at t4
  clear h1 h2 h3 h4
  skip
  skip
  go_enter Try.func43, Try.ntmps43
  go_wp2_with fail
  refine (place1_3 _).mono ?_; rintro e w1 ⟨rfl, hb1⟩
  obtain ⟨hc1, hf1⟩ := bcell hb1; have hz1 := hb1.size; (try simp only [sz_alloc, sz_drew, sz_set] at hz1 hc1 hf1); have l1_0 : w.heap.size < w1.heap.size := (by omega); have n1_0 : ¬ w.heap.size = w1.heap.size := (by omega); have m1_0 : ¬ w1.heap.size = w.heap.size := (by omega); have k1_0 := fun o => hc1 (w.heap.size) o (by omega); have f1_0 := fun o => hf1 (w.heap.size) o (by omega); (try simp (disch := (first | rfl | omega | (simp only [sz_alloc, sz_drew, sz_set]; omega))) only [sz_alloc, sz_drew, sz_set, World.cell?_drew, World.frozen?_drew, World.cell?_alloc_at, World.cell?_alloc_past, World.frozen?_alloc_at, World.frozen?_alloc_past] at k1_0 f1_0)
  go_wp2_with fail
  go_ret
  exact retU_mk (by rw [HV.out]; first | rfl | decide) (by repeat (first | (with_reducible first | exact Below.refl _ _ | assumption | exact Nat.le_refl _ | refine Below.drew ?_ | refine Below.alloc ?_ ?_ _ | refine Below.setCell ?_ ?_ _ | refine le_alloc ?_ | refine le_set ?_ | refine le_drew ?_ | refine below_step (by assumption) ?_ ?_ | refine le_below (by assumption) ?_) | (dsimp only; omega)))

set_option maxRecDepth 100000 in
set_option maxHeartbeats 2000000 in
theorem wSizes_wordf (p : Nat) (hp : Hid (p < 4294967296)) (h1 : has p 8192 = false) (h2 : has p 16384 = false) (h3 : has p 32768 = true) (h4 : has p 65536 = false) (kind rd rs1 rs2 rs3 rm csr size imm : Int) (ui un : Bool) (w : World) :
    Calls Try.prog 43 #[.int .u32 p, .agg #[.int .i64 kind, .int .i64 rd, .int .i64 rs1, .int .i64 rs2, .int .i64 rs3, .int .i64 rm, .int .i64 csr, .int .i64 size, .int .i64 imm, .bool ui, .bool un, .bool false]] w (RetU (wSizes p ⟨kind, rd, rs1, rs2, rs3, rm, csr, size, imm, ui, un, false⟩) w) := by
  have HV : Hid (wSizes p ⟨kind, rd, rs1, rs2, rs3, rm, csr, size, imm, ui, un, false⟩ = 0) := by show _ = _; unfold wSizes wSz4 wSz3 wSz2 wSz1; simp [h1, h2, h3, h4]
  skip
  have t1 : (bits .and .u32 (p : Int) 8192 != 0) = has p 8192 := u32_has p 8192 hp (by decide)
  have t2 : (bits .and .u32 (p : Int) 16384 != 0) = has p 16384 := u32_has p 16384 hp (by decide)
  have t3 : (bits .and .u32 (p : Int) 32768 != 0) = has p 32768 := u32_has p 32768 hp (by decide)
  have t4 : (bits .and .u32 (p : Int) 65536 != 0) = has p 65536 := u32_has p 65536 hp (by decide)
  rw [h1] at t1; rw [h2] at t2; rw [h3] at t3; rw [h4] at t4
  clear h1 h2 h3 h4
  skip
  skip
  go_enter Try.func43, Try.ntmps43
  go_wp2_with fail
  go_ret
  exact retU_mk (by rw [HV.out]; first | rfl | decide) (by repeat (first | (with_reducible first | exact Below.refl _ _ | assumption | exact Nat.le_refl _ | refine Below.drew ?_ | refine Below.alloc ?_ ?_ _ | refine Below.setCell ?_ ?_ _ | refine le_alloc ?_ | refine le_set ?_ | refine le_drew ?_ | refine below_step (by assumption) ?_ ?_ | refine le_below (by assumption) ?_) | (dsimp only; omega)))

set_option maxRecDepth 100000 in
set_option maxHeartbeats 2000000 in
theorem wSizes_whole111 (p : Nat) (hp : Hid (p < 4294967296)) (h1 : has p 8192 = false) (h2 : has p 16384 = true) (h3 : has p 32768 = false) (h4 : has p 65536 = true) (kind rd rs1 rs2 rs3 rm csr imm : Int) (ui : Bool) (w : World) :
    Calls Try.prog 43 #[.int .u32 p, .agg #[.int .i64 kind, .int .i64 rd, .int .i64 rs1, .int .i64 rs2, .int .i64 rs3, .int .i64 rm, .int .i64 csr, .int .i64 8, .int .i64 imm, .bool ui, .bool true, .bool true]] w (RetU (wSizes p ⟨kind, rd, rs1, rs2, rs3, rm, csr, 8, imm, ui, true, true⟩) w) := by
  have HV : Hid (wSizes p ⟨kind, rd, rs1, rs2, rs3, rm, csr, 8, imm, ui, true, true⟩ = 34603008) := by show _ = _; unfold wSizes wSz4 wSz3 wSz2 wSz1; simp [h1, h2, h3, h4]
  skip
  have t1 : (bits .and .u32 (p : Int) 8192 != 0) = has p 8192 := u32_has p 8192 hp (by decide)
  have t2 : (bits .and .u32 (p : Int) 16384 != 0) = has p 16384 := u32_has p 16384 hp (by decide)
  have t3 : (bits .and .u32 (p : Int) 32768 != 0) = has p 32768 := u32_has p 32768 hp (by decide)
  have t4 : (bits .and .u32 (p : Int) 65536 != 0) = has p 65536 := u32_has p 65536 hp (by decide)
  rw [h1] at t1; rw [h2] at t2; rw [h3] at t3; rw [h4] at t4
  clear h1 h2 h3 h4
  skip
  skip
  go_enter Try.func43, Try.ntmps43
  go_wp2_with fail
  refine (place1_25 _).mono ?_; rintro e w1 ⟨rfl, hb1⟩
  obtain ⟨hc1, hf1⟩ := bcell hb1; have hz1 := hb1.size; (try simp only [sz_alloc, sz_drew, sz_set] at hz1 hc1 hf1); have l1_0 : w.heap.size < w1.heap.size := (by omega); have n1_0 : ¬ w.heap.size = w1.heap.size := (by omega); have m1_0 : ¬ w1.heap.size = w.heap.size := (by omega); have k1_0 := fun o => hc1 (w.heap.size) o (by omega); have f1_0 := fun o => hf1 (w.heap.size) o (by omega); (try simp (disch := (first | rfl | omega | (simp only [sz_alloc, sz_drew, sz_set]; omega))) only [sz_alloc, sz_drew, sz_set, World.cell?_drew, World.frozen?_drew, World.cell?_alloc_at, World.cell?_alloc_past, World.frozen?_alloc_at, World.frozen?_alloc_past] at k1_0 f1_0)
  go_wp2_with fail
  refine (place1_20 _).mono ?_; rintro e w2 ⟨rfl, hb2⟩
  obtain ⟨hc2, hf2⟩ := bcell hb2; have hz2 := hb2.size; (try simp only [sz_alloc, sz_drew, sz_set] at hz2 hc2 hf2); have l2_0 : w.heap.size < w2.heap.size := (by omega); have n2_0 : ¬ w.heap.size = w2.heap.size := (by omega); have m2_0 : ¬ w2.heap.size = w.heap.size := (by omega); have k2_0 := fun o => hc2 (w.heap.size) o (by omega); have f2_0 := fun o => hf2 (w.heap.size) o (by omega); (try simp (disch := (first | rfl | omega | (simp only [sz_alloc, sz_drew, sz_set]; omega))) only [sz_alloc, sz_drew, sz_set, World.cell?_drew, World.frozen?_drew, World.cell?_alloc_at, World.cell?_alloc_past, World.frozen?_alloc_at, World.frozen?_alloc_past, hc1, hf1] at k2_0 f2_0)
  go_wp2_with fail
  go_ret
  exact retU_mk (by rw [HV.out]; first | rfl | decide) (by repeat (first | (with_reducible first | exact Below.refl _ _ | assumption | exact Nat.le_refl _ | refine Below.drew ?_ | refine Below.alloc ?_ ?_ _ | refine Below.setCell ?_ ?_ _ | refine le_alloc ?_ | refine le_set ?_ | refine le_drew ?_ | refine below_step (by assumption) ?_ ?_ | refine le_below (by assumption) ?_) | (dsimp only; omega)))

set_option maxRecDepth 100000 in
set_option maxHeartbeats 2000000 in
theorem wSizes_whole110 (p : Nat) (hp : Hid (p < 4294967296)) (h1 : has p 8192 = false) (h2 : has p 16384 = true) (h3 : has p 32768 = false) (h4 : has p 65536 = true) (kind rd rs1 rs2 rs3 rm csr imm : Int) (ui : Bool) (w : World) :
    Calls Try.prog 43 #[.int .u32 p, .agg #[.int .i64 kind, .int .i64 rd, .int .i64 rs1, .int .i64 rs2, .int .i64 rs3, .int .i64 rm, .int .i64 csr, .int .i64 8, .int .i64 imm, .bool ui, .bool false, .bool true]] w (RetU (wSizes p ⟨kind, rd, rs1, rs2, rs3, rm, csr, 8, imm, ui, false, true⟩) w) := by
  have HV : Hid (wSizes p ⟨kind, rd, rs1, rs2, rs3, rm, csr, 8, imm, ui, false, true⟩ = 33554432) := by show _ = _; unfold wSizes wSz4 wSz3 wSz2 wSz1; simp [h1, h2, h3, h4]
  skip
  have t1 : (bits .and .u32 (p : Int) 8192 != 0) = has p 8192 := u32_has p 8192 hp (by decide)
  have t2 : (bits .and .u32 (p : Int) 16384 != 0) = has p 16384 := u32_has p 16384 hp (by decide)
  have t3 : (bits .and .u32 (p : Int) 32768 != 0) = has p 32768 := u32_has p 32768 hp (by decide)
  have t4 : (bits .and .u32 (p : Int) 65536 != 0) = has p 65536 := u32_has p 65536 hp (by decide)
  rw [h1] at t1; rw [h2] at t2; rw [h3] at t3; rw [h4] at t4
  clear h1 h2 h3 h4
  skip
  skip
  go_enter Try.func43, Try.ntmps43
  go_wp2_with fail
  refine (place1_25 _).mono ?_; rintro e w1 ⟨rfl, hb1⟩
  obtain ⟨hc1, hf1⟩ := bcell hb1; have hz1 := hb1.size; (try simp only [sz_alloc, sz_drew, sz_set] at hz1 hc1 hf1); have l1_0 : w.heap.size < w1.heap.size := (by omega); have n1_0 : ¬ w.heap.size = w1.heap.size := (by omega); have m1_0 : ¬ w1.heap.size = w.heap.size := (by omega); have k1_0 := fun o => hc1 (w.heap.size) o (by omega); have f1_0 := fun o => hf1 (w.heap.size) o (by omega); (try simp (disch := (first | rfl | omega | (simp only [sz_alloc, sz_drew, sz_set]; omega))) only [sz_alloc, sz_drew, sz_set, World.cell?_drew, World.frozen?_drew, World.cell?_alloc_at, World.cell?_alloc_past, World.frozen?_alloc_at, World.frozen?_alloc_past] at k1_0 f1_0)
  go_wp2_with fail
  go_ret
  exact retU_mk (by rw [HV.out]; first | rfl | decide) (by repeat (first | (with_reducible first | exact Below.refl _ _ | assumption | exact Nat.le_refl _ | refine Below.drew ?_ | refine Below.alloc ?_ ?_ _ | refine Below.setCell ?_ ?_ _ | refine le_alloc ?_ | refine le_set ?_ | refine le_drew ?_ | refine below_step (by assumption) ?_ ?_ | refine le_below (by assumption) ?_) | (dsimp only; omega)))

set_option maxRecDepth 100000 in
set_option maxHeartbeats 2000000 in
theorem wSizes_whole101 (p : Nat) (hp : Hid (p < 4294967296)) (h1 : has p 8192 = false) (h2 : has p 16384 = true) (h3 : has p 32768 = false) (h4 : has p 65536 = true) (kind rd rs1 rs2 rs3 rm csr imm : Int) (ui : Bool) (w : World) :
    Calls Try.prog 43 #[.int .u32 p, .agg #[.int .i64 kind, .int .i64 rd, .int .i64 rs1, .int .i64 rs2, .int .i64 rs3, .int .i64 rm, .int .i64 csr, .int .i64 8, .int .i64 imm, .bool ui, .bool true, .bool false]] w (RetU (wSizes p ⟨kind, rd, rs1, rs2, rs3, rm, csr, 8, imm, ui, true, false⟩) w) := by
  have HV : Hid (wSizes p ⟨kind, rd, rs1, rs2, rs3, rm, csr, 8, imm, ui, true, false⟩ = 36700160) := by show _ = _; unfold wSizes wSz4 wSz3 wSz2 wSz1; simp [h1, h2, h3, h4]
  skip
  have t1 : (bits .and .u32 (p : Int) 8192 != 0) = has p 8192 := u32_has p 8192 hp (by decide)
  have t2 : (bits .and .u32 (p : Int) 16384 != 0) = has p 16384 := u32_has p 16384 hp (by decide)
  have t3 : (bits .and .u32 (p : Int) 32768 != 0) = has p 32768 := u32_has p 32768 hp (by decide)
  have t4 : (bits .and .u32 (p : Int) 65536 != 0) = has p 65536 := u32_has p 65536 hp (by decide)
  rw [h1] at t1; rw [h2] at t2; rw [h3] at t3; rw [h4] at t4
  clear h1 h2 h3 h4
  skip
  skip
  go_enter Try.func43, Try.ntmps43
  go_wp2_with fail
  refine (place1_25 _).mono ?_; rintro e w1 ⟨rfl, hb1⟩
  obtain ⟨hc1, hf1⟩ := bcell hb1; have hz1 := hb1.size; (try simp only [sz_alloc, sz_drew, sz_set] at hz1 hc1 hf1); have l1_0 : w.heap.size < w1.heap.size := (by omega); have n1_0 : ¬ w.heap.size = w1.heap.size := (by omega); have m1_0 : ¬ w1.heap.size = w.heap.size := (by omega); have k1_0 := fun o => hc1 (w.heap.size) o (by omega); have f1_0 := fun o => hf1 (w.heap.size) o (by omega); (try simp (disch := (first | rfl | omega | (simp only [sz_alloc, sz_drew, sz_set]; omega))) only [sz_alloc, sz_drew, sz_set, World.cell?_drew, World.frozen?_drew, World.cell?_alloc_at, World.cell?_alloc_past, World.frozen?_alloc_at, World.frozen?_alloc_past] at k1_0 f1_0)
  go_wp2_with fail
  refine (place1_21 _).mono ?_; rintro e w2 ⟨rfl, hb2⟩
  obtain ⟨hc2, hf2⟩ := bcell hb2; have hz2 := hb2.size; (try simp only [sz_alloc, sz_drew, sz_set] at hz2 hc2 hf2); have l2_0 : w.heap.size < w2.heap.size := (by omega); have n2_0 : ¬ w.heap.size = w2.heap.size := (by omega); have m2_0 : ¬ w2.heap.size = w.heap.size := (by omega); have k2_0 := fun o => hc2 (w.heap.size) o (by omega); have f2_0 := fun o => hf2 (w.heap.size) o (by omega); (try simp (disch := (first | rfl | omega | (simp only [sz_alloc, sz_drew, sz_set]; omega))) only [sz_alloc, sz_drew, sz_set, World.cell?_drew, World.frozen?_drew, World.cell?_alloc_at, World.cell?_alloc_past, World.frozen?_alloc_at, World.frozen?_alloc_past, hc1, hf1] at k2_0 f2_0)
  go_wp2_with fail
  refine (place1_20 _).mono ?_; rintro e w3 ⟨rfl, hb3⟩
  obtain ⟨hc3, hf3⟩ := bcell hb3; have hz3 := hb3.size; (try simp only [sz_alloc, sz_drew, sz_set] at hz3 hc3 hf3); have l3_0 : w.heap.size < w3.heap.size := (by omega); have n3_0 : ¬ w.heap.size = w3.heap.size := (by omega); have m3_0 : ¬ w3.heap.size = w.heap.size := (by omega); have k3_0 := fun o => hc3 (w.heap.size) o (by omega); have f3_0 := fun o => hf3 (w.heap.size) o (by omega); (try simp (disch := (first | rfl | omega | (simp only [sz_alloc, sz_drew, sz_set]; omega))) only [sz_alloc, sz_drew, sz_set, World.cell?_drew, World.frozen?_drew, World.cell?_alloc_at, World.cell?_alloc_past, World.frozen?_alloc_at, World.frozen?_alloc_past, hc1, hc2, hf1, hf2] at k3_0 f3_0)
  go_wp2_with fail
  go_ret
  exact retU_mk (by rw [HV.out]; first | rfl | decide) (by repeat (first | (with_reducible first | exact Below.refl _ _ | assumption | exact Nat.le_refl _ | refine Below.drew ?_ | refine Below.alloc ?_ ?_ _ | refine Below.setCell ?_ ?_ _ | refine le_alloc ?_ | refine le_set ?_ | refine le_drew ?_ | refine below_step (by assumption) ?_ ?_ | refine le_below (by assumption) ?_) | (dsimp only; omega)))

set_option maxRecDepth 100000 in
set_option maxHeartbeats 2000000 in
theorem wSizes_whole100 (p : Nat) (hp : Hid (p < 4294967296)) (h1 : has p 8192 = false) (h2 : has p 16384 = true) (h3 : has p 32768 = false) (h4 : has p 65536 = true) (kind rd rs1 rs2 rs3 rm csr imm : Int) (ui : Bool) (w : World) :
    Calls Try.prog 43 #[.int .u32 p, .agg #[.int .i64 kind, .int .i64 rd, .int .i64 rs1, .int .i64 rs2, .int .i64 rs3, .int .i64 rm, .int .i64 csr, .int .i64 8, .int .i64 imm, .bool ui, .bool false, .bool false]] w (RetU (wSizes p ⟨kind, rd, rs1, rs2, rs3, rm, csr, 8, imm, ui, false, false⟩) w) := by
  have HV : Hid (wSizes p ⟨kind, rd, rs1, rs2, rs3, rm, csr, 8, imm, ui, false, false⟩ = 35651584) := by show _ = _; unfold wSizes wSz4 wSz3 wSz2 wSz1; simp [h1, h2, h3, h4]
  skip
  have t1 : (bits .and .u32 (p : Int) 8192 != 0) = has p 8192 := u32_has p 8192 hp (by decide)
  have t2 : (bits .and .u32 (p : Int) 16384 != 0) = has p 16384 := u32_has p 16384 hp (by decide)
  have t3 : (bits .and .u32 (p : Int) 32768 != 0) = has p 32768 := u32_has p 32768 hp (by decide)
  have t4 : (bits .and .u32 (p : Int) 65536 != 0) = has p 65536 := u32_has p 65536 hp (by decide)
  rw [h1] at t1; rw [h2] at t2; rw [h3] at t3; rw [h4] at t4
  clear h1 h2 h3 h4
  skip
  skip
  go_enter Try.func43, Try.ntmps43
  go_wp2_with fail
  refine (place1_25 _).mono ?_; rintro e w1 ⟨rfl, hb1⟩
  obtain ⟨hc1, hf1⟩ := bcell hb1; have hz1 := hb1.size; (try simp only [sz_alloc, sz_drew, sz_set] at hz1 hc1 hf1); have l1_0 : w.heap.size < w1.heap.size := (by omega); have n1_0 : ¬ w.heap.size = w1.heap.size := (by omega); have m1_0 : ¬ w1.heap.size = w.heap.size := (by omega); have k1_0 := fun o => hc1 (w.heap.size) o (by omega); have f1_0 := fun o => hf1 (w.heap.size) o (by omega); (try simp (disch := (first | rfl | omega | (simp only [sz_alloc, sz_drew, sz_set]; omega))) only [sz_alloc, sz_drew, sz_set, World.cell?_drew, World.frozen?_drew, World.cell?_alloc_at, World.cell?_alloc_past, World.frozen?_alloc_at, World.frozen?_alloc_past] at k1_0 f1_0)
  go_wp2_with fail
  refine (place1_21 _).mono ?_; rintro e w2 ⟨rfl, hb2⟩
  obtain ⟨hc2, hf2⟩ := bcell hb2; have hz2 := hb2.size; (try simp only [sz_alloc, sz_drew, sz_set] at hz2 hc2 hf2); have l2_0 : w.heap.size < w2.heap.size := (by omega); have n2_0 : ¬ w.heap.size = w2.heap.size := (by omega); have m2_0 : ¬ w2.heap.size = w.heap.size := (by omega); have k2_0 := fun o => hc2 (w.heap.size) o (by omega); have f2_0 := fun o => hf2 (w.heap.size) o (by omega); (try simp (disch := (first | rfl | omega | (simp only [sz_alloc, sz_drew, sz_set]; omega))) only [sz_alloc, sz_drew, sz_set, World.cell?_drew, World.frozen?_drew, World.cell?_alloc_at, World.cell?_alloc_past, World.frozen?_alloc_at, World.frozen?_alloc_past, hc1, hf1] at k2_0 f2_0)
  go_wp2_with fail
  go_ret
  exact retU_mk (by rw [HV.out]; first | rfl | decide) (by repeat (first | (with_reducible first | exact Below.refl _ _ | assumption | exact Nat.le_refl _ | refine Below.drew ?_ | refine Below.alloc ?_ ?_ _ | refine Below.setCell ?_ ?_ _ | refine le_alloc ?_ | refine le_set ?_ | refine le_drew ?_ | refine below_step (by assumption) ?_ ?_ | refine le_below (by assumption) ?_) | (dsimp only; omega)))

set_option maxRecDepth 100000 in
set_option maxHeartbeats 2000000 in
theorem wSizes_whole011 (p : Nat) (hp : Hid (p < 4294967296)) (h1 : has p 8192 = false) (h2 : has p 16384 = true) (h3 : has p 32768 = false) (h4 : has p 65536 = true) (kind rd rs1 rs2 rs3 rm csr size imm : Int) (ui : Bool) (hs : size ≠ 8) (w : World) :
    Calls Try.prog 43 #[.int .u32 p, .agg #[.int .i64 kind, .int .i64 rd, .int .i64 rs1, .int .i64 rs2, .int .i64 rs3, .int .i64 rm, .int .i64 csr, .int .i64 size, .int .i64 imm, .bool ui, .bool true, .bool true]] w (RetU (wSizes p ⟨kind, rd, rs1, rs2, rs3, rm, csr, size, imm, ui, true, true⟩) w) := by
  have h8 : decide (size = 8) = false := decide_eq_false hs
  have HV : Hid (wSizes p ⟨kind, rd, rs1, rs2, rs3, rm, csr, size, imm, ui, true, true⟩ = 1048576) := by show _ = _; unfold wSizes wSz4 wSz3 wSz2 wSz1; simp [h1, h2, h3, h4, hs]
  clear h8
  have t1 : (bits .and .u32 (p : Int) 8192 != 0) = has p 8192 := u32_has p 8192 hp (by decide)
  have t2 : (bits .and .u32 (p : Int) 16384 != 0) = has p 16384 := u32_has p 16384 hp (by decide)
  have t3 : (bits .and .u32 (p : Int) 32768 != 0) = has p 32768 := u32_has p 32768 hp (by decide)
  have t4 : (bits .and .u32 (p : Int) 65536 != 0) = has p 65536 := u32_has p 65536 hp (by decide)
  rw [h1] at t1; rw [h2] at t2; rw [h3] at t3; rw [h4] at t4
  clear h1 h2 h3 h4
  have e8 : (size == 8) = false := by simpa using hs
  clear hs
  go_enter Try.func43, Try.ntmps43
  go_wp2_with fail
  refine (place1_20 _).mono ?_; rintro e w1 ⟨rfl, hb1⟩
  obtain ⟨hc1, hf1⟩ := bcell hb1; have hz1 := hb1.size; (try simp only [sz_alloc, sz_drew, sz_set] at hz1 hc1 hf1); have l1_0 : w.heap.size < w1.heap.size := (by omega); have n1_0 : ¬ w.heap.size = w1.heap.size := (by omega); have m1_0 : ¬ w1.heap.size = w.heap.size := (by omega); have k1_0 := fun o => hc1 (w.heap.size) o (by omega); have f1_0 := fun o => hf1 (w.heap.size) o (by omega); (try simp (disch := (first | rfl | omega | (simp only [sz_alloc, sz_drew, sz_set]; omega))) only [sz_alloc, sz_drew, sz_set, World.cell?_drew, World.frozen?_drew, World.cell?_alloc_at, World.cell?_alloc_past, World.frozen?_alloc_at, World.frozen?_alloc_past] at k1_0 f1_0)
  go_wp2_with fail
  go_ret
  exact retU_mk (by rw [HV.out]; first | rfl | decide) (by repeat (first | (with_reducible first | exact Below.refl _ _ | assumption | exact Nat.le_refl _ | refine Below.drew ?_ | refine Below.alloc ?_ ?_ _ | refine Below.setCell ?_ ?_ _ | refine le_alloc ?_ | refine le_set ?_ | refine le_drew ?_ | refine below_step (by assumption) ?_ ?_ | refine le_below (by assumption) ?_) | (dsimp only; omega)))

set_option maxRecDepth 100000 in
set_option maxHeartbeats 2000000 in
theorem wSizes_whole010 (p : Nat) (hp : Hid (p < 4294967296)) (h1 : has p 8192 = false) (h2 : has p 16384 = true) (h3 : has p 32768 = false) (h4 : has p 65536 = true) (kind rd rs1 rs2 rs3 rm csr size imm : Int) (ui : Bool) (hs : size ≠ 8) (w : World) :
    Calls Try.prog 43 #[.int .u32 p, .agg #[.int .i64 kind, .int .i64 rd, .int .i64 rs1, .int .i64 rs2, .int .i64 rs3, .int .i64 rm, .int .i64 csr, .int .i64 size, .int .i64 imm, .bool ui, .bool false, .bool true]] w (RetU (wSizes p ⟨kind, rd, rs1, rs2, rs3, rm, csr, size, imm, ui, false, true⟩) w) := by
  have h8 : decide (size = 8) = false := decide_eq_false hs
  have HV : Hid (wSizes p ⟨kind, rd, rs1, rs2, rs3, rm, csr, size, imm, ui, false, true⟩ = 0) := by show _ = _; unfold wSizes wSz4 wSz3 wSz2 wSz1; simp [h1, h2, h3, h4, hs]
  clear h8
  have t1 : (bits .and .u32 (p : Int) 8192 != 0) = has p 8192 := u32_has p 8192 hp (by decide)
  have t2 : (bits .and .u32 (p : Int) 16384 != 0) = has p 16384 := u32_has p 16384 hp (by decide)
  have t3 : (bits .and .u32 (p : Int) 32768 != 0) = has p 32768 := u32_has p 32768 hp (by decide)
  have t4 : (bits .and .u32 (p : Int) 65536 != 0) = has p 65536 := u32_has p 65536 hp (by decide)
  rw [h1] at t1; rw [h2] at t2; rw [h3] at t3; rw [h4] at t4
  clear h1 h2 h3 h4
  have e8 : (size == 8) = false := by simpa using hs
  clear hs
  go_enter Try.func43, Try.ntmps43
  go_wp2_with fail
  go_ret
  exact retU_mk (by rw [HV.out]; first | rfl | decide) (by repeat (first | (with_reducible first | exact Below.refl _ _ | assumption | exact Nat.le_refl _ | refine Below.drew ?_ | refine Below.alloc ?_ ?_ _ | refine Below.setCell ?_ ?_ _ | refine le_alloc ?_ | refine le_set ?_ | refine le_drew ?_ | refine below_step (by assumption) ?_ ?_ | refine le_below (by assumption) ?_) | (dsimp only; omega)))

set_option maxRecDepth 100000 in
set_option maxHeartbeats 2000000 in
theorem wSizes_whole001 (p : Nat) (hp : Hid (p < 4294967296)) (h1 : has p 8192 = false) (h2 : has p 16384 = true) (h3 : has p 32768 = false) (h4 : has p 65536 = true) (kind rd rs1 rs2 rs3 rm csr size imm : Int) (ui : Bool) (hs : size ≠ 8) (w : World) :
    Calls Try.prog 43 #[.int .u32 p, .agg #[.int .i64 kind, .int .i64 rd, .int .i64 rs1, .int .i64 rs2, .int .i64 rs3, .int .i64 rm, .int .i64 csr, .int .i64 size, .int .i64 imm, .bool ui, .bool true, .bool false]] w (RetU (wSizes p ⟨kind, rd, rs1, rs2, rs3, rm, csr, size, imm, ui, true, false⟩) w) := by
  have h8 : decide (size = 8) = false := decide_eq_false hs
  have HV : Hid (wSizes p ⟨kind, rd, rs1, rs2, rs3, rm, csr, size, imm, ui, true, false⟩ = 3145728) := by show _ = _; unfold wSizes wSz4 wSz3 wSz2 wSz1; simp [h1, h2, h3, h4, hs]
  clear h8
  have t1 : (bits .and .u32 (p : Int) 8192 != 0) = has p 8192 := u32_has p 8192 hp (by decide)
  have t2 : (bits .and .u32 (p : Int) 16384 != 0) = has p 16384 := u32_has p 16384 hp (by decide)
  have t3 : (bits .and .u32 (p : Int) 32768 != 0) = has p 32768 := u32_has p 32768 hp (by decide)
  have t4 : (bits .and .u32 (p : Int) 65536 != 0) = has p 65536 := u32_has p 65536 hp (by decide)
  rw [h1] at t1; rw [h2] at t2; rw [h3] at t3; rw [h4] at t4
  clear h1 h2 h3 h4
  have e8 : (size == 8) = false := by simpa using hs
  clear hs
  go_enter Try.func43, Try.ntmps43
  go_wp2_with fail
  refine (place1_21 _).mono ?_; rintro e w1 ⟨rfl, hb1⟩
  obtain ⟨hc1, hf1⟩ := bcell hb1; have hz1 := hb1.size; (try simp only [sz_alloc, sz_drew, sz_set] at hz1 hc1 hf1); have l1_0 : w.heap.size < w1.heap.size := (by omega); have n1_0 : ¬ w.heap.size = w1.heap.size := (by omega); have m1_0 : ¬ w1.heap.size = w.heap.size := (by omega); have k1_0 := fun o => hc1 (w.heap.size) o (by omega); have f1_0 := fun o => hf1 (w.heap.size) o (by omega); (try simp (disch := (first | rfl | omega | (simp only [sz_alloc, sz_drew, sz_set]; omega))) only [sz_alloc, sz_drew, sz_set, World.cell?_drew, World.frozen?_drew, World.cell?_alloc_at, World.cell?_alloc_past, World.frozen?_alloc_at, World.frozen?_alloc_past] at k1_0 f1_0)
  go_wp2_with fail
  refine (place1_20 _).mono ?_; rintro e w2 ⟨rfl, hb2⟩
  obtain ⟨hc2, hf2⟩ := bcell hb2; have hz2 := hb2.size; (try simp only [sz_alloc, sz_drew, sz_set] at hz2 hc2 hf2); have l2_0 : w.heap.size < w2.heap.size := (by omega); have n2_0 : ¬ w.heap.size = w2.heap.size := (by omega); have m2_0 : ¬ w2.heap.size = w.heap.size := (by omega); have k2_0 := fun o => hc2 (w.heap.size) o (by omega); have f2_0 := fun o => hf2 (w.heap.size) o (by omega); (try simp (disch := (first | rfl | omega | (simp only [sz_alloc, sz_drew, sz_set]; omega))) only [sz_alloc, sz_drew, sz_set, World.cell?_drew, World.frozen?_drew, World.cell?_alloc_at, World.cell?_alloc_past, World.frozen?_alloc_at, World.frozen?_alloc_past, hc1, hf1] at k2_0 f2_0)
  go_wp2_with fail
  go_ret
  exact retU_mk (by rw [HV.out]; first | rfl | decide) (by repeat (first | (with_reducible first | exact Below.refl _ _ | assumption | exact Nat.le_refl _ | refine Below.drew ?_ | refine Below.alloc ?_ ?_ _ | refine Below.setCell ?_ ?_ _ | refine le_alloc ?_ | refine le_set ?_ | refine le_drew ?_ | refine below_step (by assumption) ?_ ?_ | refine le_below (by assumption) ?_) | (dsimp only; omega)))

set_option maxRecDepth 100000 in
set_option maxHeartbeats 2000000 in
theorem wSizes_whole000 (p : Nat) (hp : Hid (p < 4294967296)) (h1 : has p 8192 = false) (h2 : has p 16384 = true) (h3 : has p 32768 = false) (h4 : has p 65536 = true) (kind rd rs1 rs2 rs3 rm csr size imm : Int) (ui : Bool) (hs : size ≠ 8) (w : World) :
    Calls Try.prog 43 #[.int .u32 p, .agg #[.int .i64 kind, .int .i64 rd, .int .i64 rs1, .int .i64 rs2, .int .i64 rs3, .int .i64 rm, .int .i64 csr, .int .i64 size, .int .i64 imm, .bool ui, .bool false, .bool false]] w (RetU (wSizes p ⟨kind, rd, rs1, rs2, rs3, rm, csr, size, imm, ui, false, false⟩) w) := by
  have h8 : decide (size = 8) = false := decide_eq_false hs
  have HV : Hid (wSizes p ⟨kind, rd, rs1, rs2, rs3, rm, csr, size, imm, ui, false, false⟩ = 2097152) := by show _ = _; unfold wSizes wSz4 wSz3 wSz2 wSz1; simp [h1, h2, h3, h4, hs]
  clear h8
  have t1 : (bits .and .u32 (p : Int) 8192 != 0) = has p 8192 := u32_has p 8192 hp (by decide)
  have t2 : (bits .and .u32 (p : Int) 16384 != 0) = has p 16384 := u32_has p 16384 hp (by decide)
  have t3 : (bits .and .u32 (p : Int) 32768 != 0) = has p 32768 := u32_has p 32768 hp (by decide)
  have t4 : (bits .and .u32 (p : Int) 65536 != 0) = has p 65536 := u32_has p 65536 hp (by decide)
  rw [h1] at t1; rw [h2] at t2; rw [h3] at t3; rw [h4] at t4
  clear h1 h2 h3 h4
  have e8 : (size == 8) = false := by simpa using hs
  clear hs
  go_enter Try.func43, Try.ntmps43
  go_wp2_with fail
  refine (place1_21 _).mono ?_; rintro e w1 ⟨rfl, hb1⟩
  obtain ⟨hc1, hf1⟩ := bcell hb1; have hz1 := hb1.size; (try simp only [sz_alloc, sz_drew, sz_set] at hz1 hc1 hf1); have l1_0 : w.heap.size < w1.heap.size := (by omega); have n1_0 : ¬ w.heap.size = w1.heap.size := (by omega); have m1_0 : ¬ w1.heap.size = w.heap.size := (by omega); have k1_0 := fun o => hc1 (w.heap.size) o (by omega); have f1_0 := fun o => hf1 (w.heap.size) o (by omega); (try simp (disch := (first | rfl | omega | (simp only [sz_alloc, sz_drew, sz_set]; omega))) only [sz_alloc, sz_drew, sz_set, World.cell?_drew, World.frozen?_drew, World.cell?_alloc_at, World.cell?_alloc_past, World.frozen?_alloc_at, World.frozen?_alloc_past] at k1_0 f1_0)
  go_wp2_with fail
  go_ret
  exact retU_mk (by rw [HV.out]; first | rfl | decide) (by repeat (first | (with_reducible first | exact Below.refl _ _ | assumption | exact Nat.le_refl _ | refine Below.drew ?_ | refine Below.alloc ?_ ?_ _ | refine Below.setCell ?_ ?_ _ | refine le_alloc ?_ | refine le_set ?_ | refine le_drew ?_ | refine below_step (by assumption) ?_ ?_ | refine le_below (by assumption) ?_) | (dsimp only; omega)))

theorem wSizes_c (p : Nat) (hp : Hid (p < 4294967296)) (ho : Hid (OkSz p)) (I : Ins) (w : World) : Calls Try.prog 43 #[.int .u32 p, .agg (cellsI I)] w (RetU (wSizes p I) w) := by
  obtain ⟨kind, rd, rs1, rs2, rs3, rm, csr, size, imm, ui, un, wo⟩ := I
  rcases ho.out with ⟨h1, h2, h3, h4⟩ | ⟨h1, h2, h3, h4⟩ | ⟨h1, h2, h3, h4⟩ | ⟨h1, h2, h3, h4⟩ | ⟨h1, h2, h3, h4⟩
  · exact wSizes_none p hp h1 h2 h3 h4 kind rd rs1 rs2 rs3 rm csr size imm ui un wo w
  · exact wSizes_wide p hp h1 h2 h3 h4 kind rd rs1 rs2 rs3 rm csr size imm ui un wo w
  · by_cases hs : size = 8
    · subst hs; exact wSizes_fmt8 p hp h1 h2 h3 h4 kind rd rs1 rs2 rs3 rm csr imm ui un wo w
    · exact wSizes_fmt4 p hp h1 h2 h3 h4 kind rd rs1 rs2 rs3 rm csr size imm ui un wo hs w
  · cases wo
    · exact wSizes_wordf p hp h1 h2 h3 h4 kind rd rs1 rs2 rs3 rm csr size imm ui un w
    · exact wSizes_wordt p hp h1 h2 h3 h4 kind rd rs1 rs2 rs3 rm csr size imm ui un w
  · by_cases hs : size = 8
    · subst hs; cases wo <;> cases un
      · exact wSizes_whole100 p hp h1 h2 h3 h4 kind rd rs1 rs2 rs3 rm csr imm ui w
      · exact wSizes_whole101 p hp h1 h2 h3 h4 kind rd rs1 rs2 rs3 rm csr imm ui w
      · exact wSizes_whole110 p hp h1 h2 h3 h4 kind rd rs1 rs2 rs3 rm csr imm ui w
      · exact wSizes_whole111 p hp h1 h2 h3 h4 kind rd rs1 rs2 rs3 rm csr imm ui w
    · cases wo <;> cases un
      · exact wSizes_whole000 p hp h1 h2 h3 h4 kind rd rs1 rs2 rs3 rm csr size imm ui hs w
      · exact wSizes_whole001 p hp h1 h2 h3 h4 kind rd rs1 rs2 rs3 rm csr size imm ui hs w
      · exact wSizes_whole010 p hp h1 h2 h3 h4 kind rd rs1 rs2 rs3 rm csr size imm ui hs w
      · exact wSizes_whole011 p hp h1 h2 h3 h4 kind rd rs1 rs2 rs3 rm csr size imm ui hs w
end Go.Proofs.Ytlohpakcikkdmaa
