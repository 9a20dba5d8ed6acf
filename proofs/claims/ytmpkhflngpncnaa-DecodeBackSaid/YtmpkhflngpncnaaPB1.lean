/- PROVED: 'DecodeBack' returns true whatever the bits and the instruction are: there and back, both ways. No condition. -/
import Derived.Test.YtmpkhflngpncnaaF3
import Derived.Test.YtmpkhflngpncnaaM4
import Derived.Lib.QuietBelow
import Derived.BigGuardPart
namespace Go.Proofs.Ytmpkhflngpncnaa
open Go.ChangeShapes Go.WideShapes Go.ChangeAt Go.RowKit Go.Sort
set_option linter.unusedVariables false
set_option linter.unusedSimpArgs false

theorem sub_and {n b : Nat} (hb : b < 4294967296) (hn : n < 4294967296) (h : n &&& b = n) : (bits .andNot .u32 (n : Int) (b : Int) == 0) = true := by
  rw [u32_andNot_nat n b hn hb]
  have e : n &&& (4294967295 - b) = 0 := by
    rw [← h, Nat.and_assoc]
    have e2 : b &&& (4294967295 - b) = 0 := by
      apply Nat.eq_of_testBit_eq; intro i
      rw [Nat.testBit_and, show (4294967295 : Nat) - b = 2 ^ 32 - (b + 1) by omega, Nat.testBit_two_pow_sub_succ (by simpa using hb), Nat.zero_testBit]
      cases b.testBit i <;> simp
    rw [e2, Nat.and_zero]
  rw [e]; rfl

set_option maxRecDepth 100000 in
set_option maxHeartbeats 4000000 in
theorem back_11 (b : Nat) (hb : Hid (b < 4294967296)) (kind rd rs1 rs2 rs3 rm csr size imm : Int) (ui un wo : Bool) (n : Nat) (henc : Hid (∀ v, Calls Try.prog 12 #[.agg #[.int .i64 kind, .int .i64 rd, .int .i64 rs1, .int .i64 rs2, .int .i64 rs3, .int .i64 rm, .int .i64 csr, .int .i64 size, .int .i64 imm, .bool ui, .bool un, .bool wo]] v (RetA n true v))) (hx : Hid (∀ v, Calls Try.prog 10 #[.int .u32 n] v (fun e w' => e = .returned (.agg #[.int .i64 kind, .int .i64 rd, .int .i64 rs1, .int .i64 rs2, .int .i64 rs3, .int .i64 rm, .int .i64 csr, .int .i64 size, .int .i64 imm, .bool ui, .bool un, .bool wo]) ∧ Below v.heap.size v w'))) (hk0 : (kind == 0) = false) (ykind yrd yrs1 yrs2 yrs3 yrm ycsr ysize yimm : Int) (yui yun ywo : Bool) (hdec : Hid (∀ v, Calls Try.prog 10 #[.int .u32 b] v (fun e w' => e = .returned (.agg #[.int .i64 ykind, .int .i64 yrd, .int .i64 yrs1, .int .i64 yrs2, .int .i64 yrs3, .int .i64 yrm, .int .i64 ycsr, .int .i64 ysize, .int .i64 yimm, .bool yui, .bool yun, .bool ywo]) ∧ Below v.heap.size v w'))) (c : Nat) (heny : Hid (∀ v, Calls Try.prog 12 #[.agg #[.int .i64 ykind, .int .i64 yrd, .int .i64 yrs1, .int .i64 yrs2, .int .i64 yrs3, .int .i64 yrm, .int .i64 ycsr, .int .i64 ysize, .int .i64 yimm, .bool yui, .bool yun, .bool ywo]] v (RetA c true v))) (hy : Hid (∀ v, Calls Try.prog 10 #[.int .u32 c] v (fun e w' => e = .returned (.agg #[.int .i64 ykind, .int .i64 yrd, .int .i64 yrs1, .int .i64 yrs2, .int .i64 yrs3, .int .i64 yrm, .int .i64 ycsr, .int .i64 ysize, .int .i64 yimm, .bool yui, .bool yun, .bool ywo]) ∧ Below v.heap.size v w'))) (hyk : (ykind == 0) = false) (hsub : (bits .andNot .u32 (c : Int) (b : Int) == 0) = true) (w : World) : Calls Try.prog 5 #[.int .u32 b, .agg #[.int .i64 kind, .int .i64 rd, .int .i64 rs1, .int .i64 rs2, .int .i64 rs3, .int .i64 rm, .int .i64 csr, .int .i64 size, .int .i64 imm, .bool ui, .bool un, .bool wo]] w (RetB true w) := by
  go_enter Try.func5, Try.ntmps5
  go_wp2_with fail
  refine (awake_c _).mono ?_; rintro e w1 ⟨rfl, hb1⟩; obtain ⟨hc1, hf1⟩ := bcell hb1; have hz1 := hb1.size; (try simp only [sz_alloc, sz_drew, sz_set] at hz1 hc1 hf1); have l1_0 : w.heap.size < w1.heap.size := (by omega); have n1_0 : ¬ w.heap.size = w1.heap.size := (by omega); have m1_0 : ¬ w1.heap.size = w.heap.size := (by omega); have k1_0 := fun o => hc1 (w.heap.size) o (by omega); have f1_0 := fun o => hf1 (w.heap.size) o (by omega); (try simp (disch := (first | rfl | omega | (simp only [sz_alloc, sz_drew, sz_set]; omega))) only [sz_alloc, sz_drew, sz_set, World.cell?_drew, World.frozen?_drew, World.cell?_alloc_at, World.cell?_alloc_past, World.frozen?_alloc_at, World.frozen?_alloc_past] at k1_0 f1_0)
  clear hc1 hf1
  go_wp2_with fail
  refine (henc.out _).mono ?_; rintro e w2 ⟨rfl, hb2⟩; obtain ⟨hc2, hf2⟩ := bcell hb2; have hz2 := hb2.size; (try simp only [sz_alloc, sz_drew, sz_set] at hz2 hc2 hf2); have l2_0 : w.heap.size < w2.heap.size := (by omega); have n2_0 : ¬ w.heap.size = w2.heap.size := (by omega); have m2_0 : ¬ w2.heap.size = w.heap.size := (by omega); have k2_0 := fun o => hc2 (w.heap.size) o (by omega); have f2_0 := fun o => hf2 (w.heap.size) o (by omega); (try simp (disch := (first | rfl | omega | (simp only [sz_alloc, sz_drew, sz_set]; omega))) only [sz_alloc, sz_drew, sz_set, World.cell?_drew, World.frozen?_drew, World.cell?_alloc_at, World.cell?_alloc_past, World.frozen?_alloc_at, World.frozen?_alloc_past] at k2_0 f2_0)
  clear hc2 hf2
  go_wp2_with fail
  have hqx : ∀ v, (Op.equalIn 10000 25 (.agg #[.int .i64 kind, .int .i64 rd, .int .i64 rs1, .int .i64 rs2, .int .i64 rs3, .int .i64 rm, .int .i64 csr, .int .i64 size, .int .i64 imm, .bool ui, .bool un, .bool wo]) (.agg #[.int .i64 kind, .int .i64 rd, .int .i64 rs1, .int .i64 rs2, .int .i64 rs3, .int .i64 rm, .int .i64 csr, .int .i64 size, .int .i64 imm, .bool ui, .bool un, .bool wo])).run Try.prog v = .ok true v := fun v => by rw [eq25 kind rd rs1 rs2 rs3 rm csr size imm ui un wo kind rd rs1 rs2 rs3 rm csr size imm ui un wo v]; simp
  have b0 : w2.cell? ⟨w.heap.size, 0, none⟩ = some (.int .i64 kind) := by rw [k2_0, k1_0]; rfl
  have b1 : w2.cell? ⟨w.heap.size, 1, none⟩ = some (.int .i64 rd) := by rw [k2_0, k1_0]; rfl
  have b2 : w2.cell? ⟨w.heap.size, 2, none⟩ = some (.int .i64 rs1) := by rw [k2_0, k1_0]; rfl
  have b3 : w2.cell? ⟨w.heap.size, 3, none⟩ = some (.int .i64 rs2) := by rw [k2_0, k1_0]; rfl
  have b4 : w2.cell? ⟨w.heap.size, 4, none⟩ = some (.int .i64 rs3) := by rw [k2_0, k1_0]; rfl
  have b5 : w2.cell? ⟨w.heap.size, 5, none⟩ = some (.int .i64 rm) := by rw [k2_0, k1_0]; rfl
  have b6 : w2.cell? ⟨w.heap.size, 6, none⟩ = some (.int .i64 csr) := by rw [k2_0, k1_0]; rfl
  have b7 : w2.cell? ⟨w.heap.size, 7, none⟩ = some (.int .i64 size) := by rw [k2_0, k1_0]; rfl
  have b8 : w2.cell? ⟨w.heap.size, 8, none⟩ = some (.int .i64 imm) := by rw [k2_0, k1_0]; rfl
  have b9 : w2.cell? ⟨w.heap.size, 9, none⟩ = some (.bool ui) := by rw [k2_0, k1_0]; rfl
  have b10 : w2.cell? ⟨w.heap.size, 10, none⟩ = some (.bool un) := by rw [k2_0, k1_0]; rfl
  have b11 : w2.cell? ⟨w.heap.size, 11, none⟩ = some (.bool wo) := by rw [k2_0, k1_0]; rfl
  have K0 := cell_regrown b0
  have K1 := cell_regrown b1
  have K2 := cell_regrown b2
  have K3 := cell_regrown b3
  have K4 := cell_regrown b4
  have K5 := cell_regrown b5
  have K6 := cell_regrown b6
  have K7 := cell_regrown b7
  have K8 := cell_regrown b8
  have K9 := cell_regrown b9
  have K10 := cell_regrown b10
  have K11 := cell_regrown b11
  have g25 := guard25
  have qd : ∀ dd os, Calls Try.prog 10 #[.int .u32 n] (grow (redrawn w2 dd) os) fun e w'' => e = .returned (.agg #[.int .i64 kind, .int .i64 rd, .int .i64 rs1, .int .i64 rs2, .int .i64 rs3, .int .i64 rm, .int .i64 csr, .int .i64 size, .int .i64 imm, .bool ui, .bool un, .bool wo]) ∧ ∃ rg : Regrown, w'' = grow (redrawn w2 rg.d) rg.os := fun dd os => Calls.regrown_of (hx.out _)
  refine wp_region_quiet_below (by kernel_rfl) (by kernel_rfl) ?_
  repeat (go_big_quiet_step (first | (go_at_call 10; exact qd _ _) | fail))
  refine wpQuiet_nil ?_
  intro _ hw'
  obtain ⟨⟨dq, osq⟩, hw''⟩ := hw'
  subst hw''
  have hb3 := below_regrown w2 dq osq
  generalize grow (redrawn w2 dq) osq = w3 at hb3 ⊢
  clear K0 b0 K1 b1 K2 b2 K3 b3 K4 b4 K5 b5 K6 b6 K7 b7 K8 b8 K9 b9 K10 b10 K11 b11 qd
  go_wp2_with fail
  refine (hdec.out _).mono ?_; rintro e w4 ⟨rfl, hb4⟩
  go_wp2_with fail
  refine (heny.out _).mono ?_; rintro e w5 ⟨rfl, hb5⟩; obtain ⟨hc5, hf5⟩ := bcell hb5; have hz5 := hb5.size; (try simp only [sz_alloc, sz_drew, sz_set] at hz5 hc5 hf5); have l5_0 : w4.heap.size < w5.heap.size := (by omega); have n5_0 : ¬ w4.heap.size = w5.heap.size := (by omega); have m5_0 : ¬ w5.heap.size = w4.heap.size := (by omega); have k5_0 := fun o => hc5 (w4.heap.size) o (by omega); have f5_0 := fun o => hf5 (w4.heap.size) o (by omega); (try simp (disch := (first | rfl | omega | (simp only [sz_alloc, sz_drew, sz_set]; omega))) only [sz_alloc, sz_drew, sz_set, World.cell?_drew, World.frozen?_drew, World.cell?_alloc_at, World.cell?_alloc_past, World.frozen?_alloc_at, World.frozen?_alloc_past] at k5_0 f5_0)
  clear hc5 hf5
  have r0 : w5.cell? ⟨w4.heap.size, 0, none⟩ = some (.int .i64 ykind) := by rw [k5_0]; rfl
  have r1 : w5.cell? ⟨w4.heap.size, 1, none⟩ = some (.int .i64 yrd) := by rw [k5_0]; rfl
  have r2 : w5.cell? ⟨w4.heap.size, 2, none⟩ = some (.int .i64 yrs1) := by rw [k5_0]; rfl
  have r3 : w5.cell? ⟨w4.heap.size, 3, none⟩ = some (.int .i64 yrs2) := by rw [k5_0]; rfl
  have r4 : w5.cell? ⟨w4.heap.size, 4, none⟩ = some (.int .i64 yrs3) := by rw [k5_0]; rfl
  have r5 : w5.cell? ⟨w4.heap.size, 5, none⟩ = some (.int .i64 yrm) := by rw [k5_0]; rfl
  have r6 : w5.cell? ⟨w4.heap.size, 6, none⟩ = some (.int .i64 ycsr) := by rw [k5_0]; rfl
  have r7 : w5.cell? ⟨w4.heap.size, 7, none⟩ = some (.int .i64 ysize) := by rw [k5_0]; rfl
  have r8 : w5.cell? ⟨w4.heap.size, 8, none⟩ = some (.int .i64 yimm) := by rw [k5_0]; rfl
  have r9 : w5.cell? ⟨w4.heap.size, 9, none⟩ = some (.bool yui) := by rw [k5_0]; rfl
  have r10 : w5.cell? ⟨w4.heap.size, 10, none⟩ = some (.bool yun) := by rw [k5_0]; rfl
  have r11 : w5.cell? ⟨w4.heap.size, 11, none⟩ = some (.bool ywo) := by rw [k5_0]; rfl
  go_wp2_with fail
  have hqy : ∀ v, (Op.equalIn 10000 25 (.agg #[.int .i64 ykind, .int .i64 yrd, .int .i64 yrs1, .int .i64 yrs2, .int .i64 yrs3, .int .i64 yrm, .int .i64 ycsr, .int .i64 ysize, .int .i64 yimm, .bool yui, .bool yun, .bool ywo]) (.agg #[.int .i64 ykind, .int .i64 yrd, .int .i64 yrs1, .int .i64 yrs2, .int .i64 yrs3, .int .i64 yrm, .int .i64 ycsr, .int .i64 ysize, .int .i64 yimm, .bool yui, .bool yun, .bool ywo])).run Try.prog v = .ok true v := fun v => by rw [eq25 ykind yrd yrs1 yrs2 yrs3 yrm ycsr ysize yimm yui yun ywo ykind yrd yrs1 yrs2 yrs3 yrm ycsr ysize yimm yui yun ywo v]; simp
  have b0 : w5.cell? ⟨w4.heap.size, 0, none⟩ = some (.int .i64 ykind) := r0
  have b1 : w5.cell? ⟨w4.heap.size, 1, none⟩ = some (.int .i64 yrd) := r1
  have b2 : w5.cell? ⟨w4.heap.size, 2, none⟩ = some (.int .i64 yrs1) := r2
  have b3 : w5.cell? ⟨w4.heap.size, 3, none⟩ = some (.int .i64 yrs2) := r3
  have b4 : w5.cell? ⟨w4.heap.size, 4, none⟩ = some (.int .i64 yrs3) := r4
  have b5 : w5.cell? ⟨w4.heap.size, 5, none⟩ = some (.int .i64 yrm) := r5
  have b6 : w5.cell? ⟨w4.heap.size, 6, none⟩ = some (.int .i64 ycsr) := r6
  have b7 : w5.cell? ⟨w4.heap.size, 7, none⟩ = some (.int .i64 ysize) := r7
  have b8 : w5.cell? ⟨w4.heap.size, 8, none⟩ = some (.int .i64 yimm) := r8
  have b9 : w5.cell? ⟨w4.heap.size, 9, none⟩ = some (.bool yui) := r9
  have b10 : w5.cell? ⟨w4.heap.size, 10, none⟩ = some (.bool yun) := r10
  have b11 : w5.cell? ⟨w4.heap.size, 11, none⟩ = some (.bool ywo) := r11
  have K0 := cell_regrown b0
  have K1 := cell_regrown b1
  have K2 := cell_regrown b2
  have K3 := cell_regrown b3
  have K4 := cell_regrown b4
  have K5 := cell_regrown b5
  have K6 := cell_regrown b6
  have K7 := cell_regrown b7
  have K8 := cell_regrown b8
  have K9 := cell_regrown b9
  have K10 := cell_regrown b10
  have K11 := cell_regrown b11
  have g25 := guard25
  have qd : ∀ dd os, Calls Try.prog 10 #[.int .u32 c] (grow (redrawn w5 dd) os) fun e w'' => e = .returned (.agg #[.int .i64 ykind, .int .i64 yrd, .int .i64 yrs1, .int .i64 yrs2, .int .i64 yrs3, .int .i64 yrm, .int .i64 ycsr, .int .i64 ysize, .int .i64 yimm, .bool yui, .bool yun, .bool ywo]) ∧ ∃ rg : Regrown, w'' = grow (redrawn w5 rg.d) rg.os := fun dd os => Calls.regrown_of (hy.out _)
  refine wp_region_quiet_below (by kernel_rfl) (by kernel_rfl) ?_
  repeat (go_big_quiet_step (first | (go_at_call 10; exact qd _ _) | fail))
  refine wpQuiet_nil ?_
  intro _ hw'
  obtain ⟨⟨dq, osq⟩, hw''⟩ := hw'
  subst hw''
  have hb6 := below_regrown w5 dq osq
  generalize grow (redrawn w5 dq) osq = w6 at hb6 ⊢
  clear K0 b0 K1 b1 K2 b2 K3 b3 K4 b4 K5 b5 K6 b6 K7 b7 K8 b8 K9 b9 K10 b10 K11 b11 qd
  clear r0 r1 r2 r3 r4 r5 r6 r7 r8 r9 r10 r11
  go_wp2_with fail
  go_ret
  exact retB_mk rfl (by repeat (first | (with_reducible first | exact Below.refl _ _ | assumption | exact Nat.le_refl _ | refine Below.drew ?_ | refine Below.alloc ?_ ?_ _ | refine Below.setCell ?_ ?_ _ | refine le_alloc ?_ | refine le_set ?_ | refine le_drew ?_ | refine below_step (by assumption) ?_ ?_ | refine le_below (by assumption) ?_) | (dsimp only; omega)))

set_option maxRecDepth 100000 in
set_option maxHeartbeats 4000000 in
theorem back_10 (b : Nat) (hb : Hid (b < 4294967296)) (kind rd rs1 rs2 rs3 rm csr size imm : Int) (ui un wo : Bool) (n : Nat) (henc : Hid (∀ v, Calls Try.prog 12 #[.agg #[.int .i64 kind, .int .i64 rd, .int .i64 rs1, .int .i64 rs2, .int .i64 rs3, .int .i64 rm, .int .i64 csr, .int .i64 size, .int .i64 imm, .bool ui, .bool un, .bool wo]] v (RetA n true v))) (hx : Hid (∀ v, Calls Try.prog 10 #[.int .u32 n] v (fun e w' => e = .returned (.agg #[.int .i64 kind, .int .i64 rd, .int .i64 rs1, .int .i64 rs2, .int .i64 rs3, .int .i64 rm, .int .i64 csr, .int .i64 size, .int .i64 imm, .bool ui, .bool un, .bool wo]) ∧ Below v.heap.size v w'))) (hk0 : (kind == 0) = false) (hdec : Hid (∀ v, Calls Try.prog 10 #[.int .u32 b] v (fun e w' => e = .returned (.agg #[.int .i64 0, .int .i64 0, .int .i64 0, .int .i64 0, .int .i64 0, .int .i64 0, .int .i64 0, .int .i64 0, .int .i64 0, .bool false, .bool false, .bool false]) ∧ Below v.heap.size v w'))) (heny : Hid (∀ v, Calls Try.prog 12 #[.agg #[.int .i64 0, .int .i64 0, .int .i64 0, .int .i64 0, .int .i64 0, .int .i64 0, .int .i64 0, .int .i64 0, .int .i64 0, .bool false, .bool false, .bool false]] v (RetA 0 false v))) (w : World) : Calls Try.prog 5 #[.int .u32 b, .agg #[.int .i64 kind, .int .i64 rd, .int .i64 rs1, .int .i64 rs2, .int .i64 rs3, .int .i64 rm, .int .i64 csr, .int .i64 size, .int .i64 imm, .bool ui, .bool un, .bool wo]] w (RetB true w) := by
  go_enter Try.func5, Try.ntmps5
  go_wp2_with fail
  refine (awake_c _).mono ?_; rintro e w1 ⟨rfl, hb1⟩; obtain ⟨hc1, hf1⟩ := bcell hb1; have hz1 := hb1.size; (try simp only [sz_alloc, sz_drew, sz_set] at hz1 hc1 hf1); have l1_0 : w.heap.size < w1.heap.size := (by omega); have n1_0 : ¬ w.heap.size = w1.heap.size := (by omega); have m1_0 : ¬ w1.heap.size = w.heap.size := (by omega); have k1_0 := fun o => hc1 (w.heap.size) o (by omega); have f1_0 := fun o => hf1 (w.heap.size) o (by omega); (try simp (disch := (first | rfl | omega | (simp only [sz_alloc, sz_drew, sz_set]; omega))) only [sz_alloc, sz_drew, sz_set, World.cell?_drew, World.frozen?_drew, World.cell?_alloc_at, World.cell?_alloc_past, World.frozen?_alloc_at, World.frozen?_alloc_past] at k1_0 f1_0)
  clear hc1 hf1
  go_wp2_with fail
  refine (henc.out _).mono ?_; rintro e w2 ⟨rfl, hb2⟩; obtain ⟨hc2, hf2⟩ := bcell hb2; have hz2 := hb2.size; (try simp only [sz_alloc, sz_drew, sz_set] at hz2 hc2 hf2); have l2_0 : w.heap.size < w2.heap.size := (by omega); have n2_0 : ¬ w.heap.size = w2.heap.size := (by omega); have m2_0 : ¬ w2.heap.size = w.heap.size := (by omega); have k2_0 := fun o => hc2 (w.heap.size) o (by omega); have f2_0 := fun o => hf2 (w.heap.size) o (by omega); (try simp (disch := (first | rfl | omega | (simp only [sz_alloc, sz_drew, sz_set]; omega))) only [sz_alloc, sz_drew, sz_set, World.cell?_drew, World.frozen?_drew, World.cell?_alloc_at, World.cell?_alloc_past, World.frozen?_alloc_at, World.frozen?_alloc_past] at k2_0 f2_0)
  clear hc2 hf2
  go_wp2_with fail
  have hqx : ∀ v, (Op.equalIn 10000 25 (.agg #[.int .i64 kind, .int .i64 rd, .int .i64 rs1, .int .i64 rs2, .int .i64 rs3, .int .i64 rm, .int .i64 csr, .int .i64 size, .int .i64 imm, .bool ui, .bool un, .bool wo]) (.agg #[.int .i64 kind, .int .i64 rd, .int .i64 rs1, .int .i64 rs2, .int .i64 rs3, .int .i64 rm, .int .i64 csr, .int .i64 size, .int .i64 imm, .bool ui, .bool un, .bool wo])).run Try.prog v = .ok true v := fun v => by rw [eq25 kind rd rs1 rs2 rs3 rm csr size imm ui un wo kind rd rs1 rs2 rs3 rm csr size imm ui un wo v]; simp
  have b0 : w2.cell? ⟨w.heap.size, 0, none⟩ = some (.int .i64 kind) := by rw [k2_0, k1_0]; rfl
  have b1 : w2.cell? ⟨w.heap.size, 1, none⟩ = some (.int .i64 rd) := by rw [k2_0, k1_0]; rfl
  have b2 : w2.cell? ⟨w.heap.size, 2, none⟩ = some (.int .i64 rs1) := by rw [k2_0, k1_0]; rfl
  have b3 : w2.cell? ⟨w.heap.size, 3, none⟩ = some (.int .i64 rs2) := by rw [k2_0, k1_0]; rfl
  have b4 : w2.cell? ⟨w.heap.size, 4, none⟩ = some (.int .i64 rs3) := by rw [k2_0, k1_0]; rfl
  have b5 : w2.cell? ⟨w.heap.size, 5, none⟩ = some (.int .i64 rm) := by rw [k2_0, k1_0]; rfl
  have b6 : w2.cell? ⟨w.heap.size, 6, none⟩ = some (.int .i64 csr) := by rw [k2_0, k1_0]; rfl
  have b7 : w2.cell? ⟨w.heap.size, 7, none⟩ = some (.int .i64 size) := by rw [k2_0, k1_0]; rfl
  have b8 : w2.cell? ⟨w.heap.size, 8, none⟩ = some (.int .i64 imm) := by rw [k2_0, k1_0]; rfl
  have b9 : w2.cell? ⟨w.heap.size, 9, none⟩ = some (.bool ui) := by rw [k2_0, k1_0]; rfl
  have b10 : w2.cell? ⟨w.heap.size, 10, none⟩ = some (.bool un) := by rw [k2_0, k1_0]; rfl
  have b11 : w2.cell? ⟨w.heap.size, 11, none⟩ = some (.bool wo) := by rw [k2_0, k1_0]; rfl
  have K0 := cell_regrown b0
  have K1 := cell_regrown b1
  have K2 := cell_regrown b2
  have K3 := cell_regrown b3
  have K4 := cell_regrown b4
  have K5 := cell_regrown b5
  have K6 := cell_regrown b6
  have K7 := cell_regrown b7
  have K8 := cell_regrown b8
  have K9 := cell_regrown b9
  have K10 := cell_regrown b10
  have K11 := cell_regrown b11
  have g25 := guard25
  have qd : ∀ dd os, Calls Try.prog 10 #[.int .u32 n] (grow (redrawn w2 dd) os) fun e w'' => e = .returned (.agg #[.int .i64 kind, .int .i64 rd, .int .i64 rs1, .int .i64 rs2, .int .i64 rs3, .int .i64 rm, .int .i64 csr, .int .i64 size, .int .i64 imm, .bool ui, .bool un, .bool wo]) ∧ ∃ rg : Regrown, w'' = grow (redrawn w2 rg.d) rg.os := fun dd os => Calls.regrown_of (hx.out _)
  refine wp_region_quiet_below (by kernel_rfl) (by kernel_rfl) ?_
  repeat (go_big_quiet_step (first | (go_at_call 10; exact qd _ _) | fail))
  refine wpQuiet_nil ?_
  intro _ hw'
  obtain ⟨⟨dq, osq⟩, hw''⟩ := hw'
  subst hw''
  have hb3 := below_regrown w2 dq osq
  generalize grow (redrawn w2 dq) osq = w3 at hb3 ⊢
  clear K0 b0 K1 b1 K2 b2 K3 b3 K4 b4 K5 b5 K6 b6 K7 b7 K8 b8 K9 b9 K10 b10 K11 b11 qd
  go_wp2_with fail
  refine (hdec.out _).mono ?_; rintro e w4 ⟨rfl, hb4⟩
  go_wp2_with fail
  refine (heny.out _).mono ?_; rintro e w5 ⟨rfl, hb5⟩; obtain ⟨hc5, hf5⟩ := bcell hb5; have hz5 := hb5.size; (try simp only [sz_alloc, sz_drew, sz_set] at hz5 hc5 hf5); have l5_0 : w4.heap.size < w5.heap.size := (by omega); have n5_0 : ¬ w4.heap.size = w5.heap.size := (by omega); have m5_0 : ¬ w5.heap.size = w4.heap.size := (by omega); have k5_0 := fun o => hc5 (w4.heap.size) o (by omega); have f5_0 := fun o => hf5 (w4.heap.size) o (by omega); (try simp (disch := (first | rfl | omega | (simp only [sz_alloc, sz_drew, sz_set]; omega))) only [sz_alloc, sz_drew, sz_set, World.cell?_drew, World.frozen?_drew, World.cell?_alloc_at, World.cell?_alloc_past, World.frozen?_alloc_at, World.frozen?_alloc_past] at k5_0 f5_0)
  clear hc5 hf5
  have r0 : w5.cell? ⟨w4.heap.size, 0, none⟩ = some (.int .i64 0) := by rw [k5_0]; rfl
  have r1 : w5.cell? ⟨w4.heap.size, 1, none⟩ = some (.int .i64 0) := by rw [k5_0]; rfl
  have r2 : w5.cell? ⟨w4.heap.size, 2, none⟩ = some (.int .i64 0) := by rw [k5_0]; rfl
  have r3 : w5.cell? ⟨w4.heap.size, 3, none⟩ = some (.int .i64 0) := by rw [k5_0]; rfl
  have r4 : w5.cell? ⟨w4.heap.size, 4, none⟩ = some (.int .i64 0) := by rw [k5_0]; rfl
  have r5 : w5.cell? ⟨w4.heap.size, 5, none⟩ = some (.int .i64 0) := by rw [k5_0]; rfl
  have r6 : w5.cell? ⟨w4.heap.size, 6, none⟩ = some (.int .i64 0) := by rw [k5_0]; rfl
  have r7 : w5.cell? ⟨w4.heap.size, 7, none⟩ = some (.int .i64 0) := by rw [k5_0]; rfl
  have r8 : w5.cell? ⟨w4.heap.size, 8, none⟩ = some (.int .i64 0) := by rw [k5_0]; rfl
  have r9 : w5.cell? ⟨w4.heap.size, 9, none⟩ = some (.bool false) := by rw [k5_0]; rfl
  have r10 : w5.cell? ⟨w4.heap.size, 10, none⟩ = some (.bool false) := by rw [k5_0]; rfl
  have r11 : w5.cell? ⟨w4.heap.size, 11, none⟩ = some (.bool false) := by rw [k5_0]; rfl
  have g25 := guard25
  have hqz := eqv_2
  go_wp2_with fail
  go_ret
  exact retB_mk rfl (by repeat (first | (with_reducible first | exact Below.refl _ _ | assumption | exact Nat.le_refl _ | refine Below.drew ?_ | refine Below.alloc ?_ ?_ _ | refine Below.setCell ?_ ?_ _ | refine le_alloc ?_ | refine le_set ?_ | refine le_drew ?_ | refine below_step (by assumption) ?_ ?_ | refine le_below (by assumption) ?_) | (dsimp only; omega)))

set_option maxRecDepth 100000 in
set_option maxHeartbeats 4000000 in
theorem back_01 (b : Nat) (hb : Hid (b < 4294967296)) (kind rd rs1 rs2 rs3 rm csr size imm : Int) (ui un wo : Bool) (henc : Hid (∀ v, Calls Try.prog 12 #[.agg #[.int .i64 kind, .int .i64 rd, .int .i64 rs1, .int .i64 rs2, .int .i64 rs3, .int .i64 rm, .int .i64 csr, .int .i64 size, .int .i64 imm, .bool ui, .bool un, .bool wo]] v (RetA 0 false v))) (ykind yrd yrs1 yrs2 yrs3 yrm ycsr ysize yimm : Int) (yui yun ywo : Bool) (hdec : Hid (∀ v, Calls Try.prog 10 #[.int .u32 b] v (fun e w' => e = .returned (.agg #[.int .i64 ykind, .int .i64 yrd, .int .i64 yrs1, .int .i64 yrs2, .int .i64 yrs3, .int .i64 yrm, .int .i64 ycsr, .int .i64 ysize, .int .i64 yimm, .bool yui, .bool yun, .bool ywo]) ∧ Below v.heap.size v w'))) (c : Nat) (heny : Hid (∀ v, Calls Try.prog 12 #[.agg #[.int .i64 ykind, .int .i64 yrd, .int .i64 yrs1, .int .i64 yrs2, .int .i64 yrs3, .int .i64 yrm, .int .i64 ycsr, .int .i64 ysize, .int .i64 yimm, .bool yui, .bool yun, .bool ywo]] v (RetA c true v))) (hy : Hid (∀ v, Calls Try.prog 10 #[.int .u32 c] v (fun e w' => e = .returned (.agg #[.int .i64 ykind, .int .i64 yrd, .int .i64 yrs1, .int .i64 yrs2, .int .i64 yrs3, .int .i64 yrm, .int .i64 ycsr, .int .i64 ysize, .int .i64 yimm, .bool yui, .bool yun, .bool ywo]) ∧ Below v.heap.size v w'))) (hyk : (ykind == 0) = false) (hsub : (bits .andNot .u32 (c : Int) (b : Int) == 0) = true) (w : World) : Calls Try.prog 5 #[.int .u32 b, .agg #[.int .i64 kind, .int .i64 rd, .int .i64 rs1, .int .i64 rs2, .int .i64 rs3, .int .i64 rm, .int .i64 csr, .int .i64 size, .int .i64 imm, .bool ui, .bool un, .bool wo]] w (RetB true w) := by
  go_enter Try.func5, Try.ntmps5
  go_wp2_with fail
  refine (awake_c _).mono ?_; rintro e w1 ⟨rfl, hb1⟩; obtain ⟨hc1, hf1⟩ := bcell hb1; have hz1 := hb1.size; (try simp only [sz_alloc, sz_drew, sz_set] at hz1 hc1 hf1); have l1_0 : w.heap.size < w1.heap.size := (by omega); have n1_0 : ¬ w.heap.size = w1.heap.size := (by omega); have m1_0 : ¬ w1.heap.size = w.heap.size := (by omega); have k1_0 := fun o => hc1 (w.heap.size) o (by omega); have f1_0 := fun o => hf1 (w.heap.size) o (by omega); (try simp (disch := (first | rfl | omega | (simp only [sz_alloc, sz_drew, sz_set]; omega))) only [sz_alloc, sz_drew, sz_set, World.cell?_drew, World.frozen?_drew, World.cell?_alloc_at, World.cell?_alloc_past, World.frozen?_alloc_at, World.frozen?_alloc_past] at k1_0 f1_0)
  clear hc1 hf1
  go_wp2_with fail
  refine (henc.out _).mono ?_; rintro e w2 ⟨rfl, hb2⟩; obtain ⟨hc2, hf2⟩ := bcell hb2; have hz2 := hb2.size; (try simp only [sz_alloc, sz_drew, sz_set] at hz2 hc2 hf2); have l2_0 : w.heap.size < w2.heap.size := (by omega); have n2_0 : ¬ w.heap.size = w2.heap.size := (by omega); have m2_0 : ¬ w2.heap.size = w.heap.size := (by omega); have k2_0 := fun o => hc2 (w.heap.size) o (by omega); have f2_0 := fun o => hf2 (w.heap.size) o (by omega); (try simp (disch := (first | rfl | omega | (simp only [sz_alloc, sz_drew, sz_set]; omega))) only [sz_alloc, sz_drew, sz_set, World.cell?_drew, World.frozen?_drew, World.cell?_alloc_at, World.cell?_alloc_past, World.frozen?_alloc_at, World.frozen?_alloc_past] at k2_0 f2_0)
  clear hc2 hf2
  go_wp2_with fail
  have b0 : w2.cell? ⟨w.heap.size, 0, none⟩ = some (.int .i64 kind) := by rw [k2_0, k1_0]; rfl
  have b1 : w2.cell? ⟨w.heap.size, 1, none⟩ = some (.int .i64 rd) := by rw [k2_0, k1_0]; rfl
  have b2 : w2.cell? ⟨w.heap.size, 2, none⟩ = some (.int .i64 rs1) := by rw [k2_0, k1_0]; rfl
  have b3 : w2.cell? ⟨w.heap.size, 3, none⟩ = some (.int .i64 rs2) := by rw [k2_0, k1_0]; rfl
  have b4 : w2.cell? ⟨w.heap.size, 4, none⟩ = some (.int .i64 rs3) := by rw [k2_0, k1_0]; rfl
  have b5 : w2.cell? ⟨w.heap.size, 5, none⟩ = some (.int .i64 rm) := by rw [k2_0, k1_0]; rfl
  have b6 : w2.cell? ⟨w.heap.size, 6, none⟩ = some (.int .i64 csr) := by rw [k2_0, k1_0]; rfl
  have b7 : w2.cell? ⟨w.heap.size, 7, none⟩ = some (.int .i64 size) := by rw [k2_0, k1_0]; rfl
  have b8 : w2.cell? ⟨w.heap.size, 8, none⟩ = some (.int .i64 imm) := by rw [k2_0, k1_0]; rfl
  have b9 : w2.cell? ⟨w.heap.size, 9, none⟩ = some (.bool ui) := by rw [k2_0, k1_0]; rfl
  have b10 : w2.cell? ⟨w.heap.size, 10, none⟩ = some (.bool un) := by rw [k2_0, k1_0]; rfl
  have b11 : w2.cell? ⟨w.heap.size, 11, none⟩ = some (.bool wo) := by rw [k2_0, k1_0]; rfl
  have K0 := cell_regrown b0
  have K1 := cell_regrown b1
  have K2 := cell_regrown b2
  have K3 := cell_regrown b3
  have K4 := cell_regrown b4
  have K5 := cell_regrown b5
  have K6 := cell_regrown b6
  have K7 := cell_regrown b7
  have K8 := cell_regrown b8
  have K9 := cell_regrown b9
  have K10 := cell_regrown b10
  have K11 := cell_regrown b11
  have g25 := guard25
  refine wp_region_quiet_below (by kernel_rfl) (by kernel_rfl) ?_
  repeat (go_big_quiet_step (first | fail | fail))
  refine wpQuiet_nil ?_
  intro _ hw'
  obtain ⟨⟨dq, osq⟩, hw''⟩ := hw'
  subst hw''
  have hb3 := below_regrown w2 dq osq
  generalize grow (redrawn w2 dq) osq = w3 at hb3 ⊢
  clear K0 b0 K1 b1 K2 b2 K3 b3 K4 b4 K5 b5 K6 b6 K7 b7 K8 b8 K9 b9 K10 b10 K11 b11
  go_wp2_with fail
  refine (hdec.out _).mono ?_; rintro e w4 ⟨rfl, hb4⟩
  go_wp2_with fail
  refine (heny.out _).mono ?_; rintro e w5 ⟨rfl, hb5⟩; obtain ⟨hc5, hf5⟩ := bcell hb5; have hz5 := hb5.size; (try simp only [sz_alloc, sz_drew, sz_set] at hz5 hc5 hf5); have l5_0 : w4.heap.size < w5.heap.size := (by omega); have n5_0 : ¬ w4.heap.size = w5.heap.size := (by omega); have m5_0 : ¬ w5.heap.size = w4.heap.size := (by omega); have k5_0 := fun o => hc5 (w4.heap.size) o (by omega); have f5_0 := fun o => hf5 (w4.heap.size) o (by omega); (try simp (disch := (first | rfl | omega | (simp only [sz_alloc, sz_drew, sz_set]; omega))) only [sz_alloc, sz_drew, sz_set, World.cell?_drew, World.frozen?_drew, World.cell?_alloc_at, World.cell?_alloc_past, World.frozen?_alloc_at, World.frozen?_alloc_past] at k5_0 f5_0)
  clear hc5 hf5
  have r0 : w5.cell? ⟨w4.heap.size, 0, none⟩ = some (.int .i64 ykind) := by rw [k5_0]; rfl
  have r1 : w5.cell? ⟨w4.heap.size, 1, none⟩ = some (.int .i64 yrd) := by rw [k5_0]; rfl
  have r2 : w5.cell? ⟨w4.heap.size, 2, none⟩ = some (.int .i64 yrs1) := by rw [k5_0]; rfl
  have r3 : w5.cell? ⟨w4.heap.size, 3, none⟩ = some (.int .i64 yrs2) := by rw [k5_0]; rfl
  have r4 : w5.cell? ⟨w4.heap.size, 4, none⟩ = some (.int .i64 yrs3) := by rw [k5_0]; rfl
  have r5 : w5.cell? ⟨w4.heap.size, 5, none⟩ = some (.int .i64 yrm) := by rw [k5_0]; rfl
  have r6 : w5.cell? ⟨w4.heap.size, 6, none⟩ = some (.int .i64 ycsr) := by rw [k5_0]; rfl
  have r7 : w5.cell? ⟨w4.heap.size, 7, none⟩ = some (.int .i64 ysize) := by rw [k5_0]; rfl
  have r8 : w5.cell? ⟨w4.heap.size, 8, none⟩ = some (.int .i64 yimm) := by rw [k5_0]; rfl
  have r9 : w5.cell? ⟨w4.heap.size, 9, none⟩ = some (.bool yui) := by rw [k5_0]; rfl
  have r10 : w5.cell? ⟨w4.heap.size, 10, none⟩ = some (.bool yun) := by rw [k5_0]; rfl
  have r11 : w5.cell? ⟨w4.heap.size, 11, none⟩ = some (.bool ywo) := by rw [k5_0]; rfl
  go_wp2_with fail
  have hqy : ∀ v, (Op.equalIn 10000 25 (.agg #[.int .i64 ykind, .int .i64 yrd, .int .i64 yrs1, .int .i64 yrs2, .int .i64 yrs3, .int .i64 yrm, .int .i64 ycsr, .int .i64 ysize, .int .i64 yimm, .bool yui, .bool yun, .bool ywo]) (.agg #[.int .i64 ykind, .int .i64 yrd, .int .i64 yrs1, .int .i64 yrs2, .int .i64 yrs3, .int .i64 yrm, .int .i64 ycsr, .int .i64 ysize, .int .i64 yimm, .bool yui, .bool yun, .bool ywo])).run Try.prog v = .ok true v := fun v => by rw [eq25 ykind yrd yrs1 yrs2 yrs3 yrm ycsr ysize yimm yui yun ywo ykind yrd yrs1 yrs2 yrs3 yrm ycsr ysize yimm yui yun ywo v]; simp
  have b0 : w5.cell? ⟨w4.heap.size, 0, none⟩ = some (.int .i64 ykind) := r0
  have b1 : w5.cell? ⟨w4.heap.size, 1, none⟩ = some (.int .i64 yrd) := r1
  have b2 : w5.cell? ⟨w4.heap.size, 2, none⟩ = some (.int .i64 yrs1) := r2
  have b3 : w5.cell? ⟨w4.heap.size, 3, none⟩ = some (.int .i64 yrs2) := r3
  have b4 : w5.cell? ⟨w4.heap.size, 4, none⟩ = some (.int .i64 yrs3) := r4
  have b5 : w5.cell? ⟨w4.heap.size, 5, none⟩ = some (.int .i64 yrm) := r5
  have b6 : w5.cell? ⟨w4.heap.size, 6, none⟩ = some (.int .i64 ycsr) := r6
  have b7 : w5.cell? ⟨w4.heap.size, 7, none⟩ = some (.int .i64 ysize) := r7
  have b8 : w5.cell? ⟨w4.heap.size, 8, none⟩ = some (.int .i64 yimm) := r8
  have b9 : w5.cell? ⟨w4.heap.size, 9, none⟩ = some (.bool yui) := r9
  have b10 : w5.cell? ⟨w4.heap.size, 10, none⟩ = some (.bool yun) := r10
  have b11 : w5.cell? ⟨w4.heap.size, 11, none⟩ = some (.bool ywo) := r11
  have K0 := cell_regrown b0
  have K1 := cell_regrown b1
  have K2 := cell_regrown b2
  have K3 := cell_regrown b3
  have K4 := cell_regrown b4
  have K5 := cell_regrown b5
  have K6 := cell_regrown b6
  have K7 := cell_regrown b7
  have K8 := cell_regrown b8
  have K9 := cell_regrown b9
  have K10 := cell_regrown b10
  have K11 := cell_regrown b11
  have g25 := guard25
  have qd : ∀ dd os, Calls Try.prog 10 #[.int .u32 c] (grow (redrawn w5 dd) os) fun e w'' => e = .returned (.agg #[.int .i64 ykind, .int .i64 yrd, .int .i64 yrs1, .int .i64 yrs2, .int .i64 yrs3, .int .i64 yrm, .int .i64 ycsr, .int .i64 ysize, .int .i64 yimm, .bool yui, .bool yun, .bool ywo]) ∧ ∃ rg : Regrown, w'' = grow (redrawn w5 rg.d) rg.os := fun dd os => Calls.regrown_of (hy.out _)
  refine wp_region_quiet_below (by kernel_rfl) (by kernel_rfl) ?_
  repeat (go_big_quiet_step (first | (go_at_call 10; exact qd _ _) | fail))
  refine wpQuiet_nil ?_
  intro _ hw'
  obtain ⟨⟨dq, osq⟩, hw''⟩ := hw'
  subst hw''
  have hb6 := below_regrown w5 dq osq
  generalize grow (redrawn w5 dq) osq = w6 at hb6 ⊢
  clear K0 b0 K1 b1 K2 b2 K3 b3 K4 b4 K5 b5 K6 b6 K7 b7 K8 b8 K9 b9 K10 b10 K11 b11 qd
  clear r0 r1 r2 r3 r4 r5 r6 r7 r8 r9 r10 r11
  go_wp2_with fail
  go_ret
  exact retB_mk rfl (by repeat (first | (with_reducible first | exact Below.refl _ _ | assumption | exact Nat.le_refl _ | refine Below.drew ?_ | refine Below.alloc ?_ ?_ _ | refine Below.setCell ?_ ?_ _ | refine le_alloc ?_ | refine le_set ?_ | refine le_drew ?_ | refine below_step (by assumption) ?_ ?_ | refine le_below (by assumption) ?_) | (dsimp only; omega)))

set_option maxRecDepth 100000 in
set_option maxHeartbeats 4000000 in
theorem back_00 (b : Nat) (hb : Hid (b < 4294967296)) (kind rd rs1 rs2 rs3 rm csr size imm : Int) (ui un wo : Bool) (henc : Hid (∀ v, Calls Try.prog 12 #[.agg #[.int .i64 kind, .int .i64 rd, .int .i64 rs1, .int .i64 rs2, .int .i64 rs3, .int .i64 rm, .int .i64 csr, .int .i64 size, .int .i64 imm, .bool ui, .bool un, .bool wo]] v (RetA 0 false v))) (hdec : Hid (∀ v, Calls Try.prog 10 #[.int .u32 b] v (fun e w' => e = .returned (.agg #[.int .i64 0, .int .i64 0, .int .i64 0, .int .i64 0, .int .i64 0, .int .i64 0, .int .i64 0, .int .i64 0, .int .i64 0, .bool false, .bool false, .bool false]) ∧ Below v.heap.size v w'))) (heny : Hid (∀ v, Calls Try.prog 12 #[.agg #[.int .i64 0, .int .i64 0, .int .i64 0, .int .i64 0, .int .i64 0, .int .i64 0, .int .i64 0, .int .i64 0, .int .i64 0, .bool false, .bool false, .bool false]] v (RetA 0 false v))) (w : World) : Calls Try.prog 5 #[.int .u32 b, .agg #[.int .i64 kind, .int .i64 rd, .int .i64 rs1, .int .i64 rs2, .int .i64 rs3, .int .i64 rm, .int .i64 csr, .int .i64 size, .int .i64 imm, .bool ui, .bool un, .bool wo]] w (RetB true w) := by
  go_enter Try.func5, Try.ntmps5
  go_wp2_with fail
  refine (awake_c _).mono ?_; rintro e w1 ⟨rfl, hb1⟩; obtain ⟨hc1, hf1⟩ := bcell hb1; have hz1 := hb1.size; (try simp only [sz_alloc, sz_drew, sz_set] at hz1 hc1 hf1); have l1_0 : w.heap.size < w1.heap.size := (by omega); have n1_0 : ¬ w.heap.size = w1.heap.size := (by omega); have m1_0 : ¬ w1.heap.size = w.heap.size := (by omega); have k1_0 := fun o => hc1 (w.heap.size) o (by omega); have f1_0 := fun o => hf1 (w.heap.size) o (by omega); (try simp (disch := (first | rfl | omega | (simp only [sz_alloc, sz_drew, sz_set]; omega))) only [sz_alloc, sz_drew, sz_set, World.cell?_drew, World.frozen?_drew, World.cell?_alloc_at, World.cell?_alloc_past, World.frozen?_alloc_at, World.frozen?_alloc_past] at k1_0 f1_0)
  clear hc1 hf1
  go_wp2_with fail
  refine (henc.out _).mono ?_; rintro e w2 ⟨rfl, hb2⟩; obtain ⟨hc2, hf2⟩ := bcell hb2; have hz2 := hb2.size; (try simp only [sz_alloc, sz_drew, sz_set] at hz2 hc2 hf2); have l2_0 : w.heap.size < w2.heap.size := (by omega); have n2_0 : ¬ w.heap.size = w2.heap.size := (by omega); have m2_0 : ¬ w2.heap.size = w.heap.size := (by omega); have k2_0 := fun o => hc2 (w.heap.size) o (by omega); have f2_0 := fun o => hf2 (w.heap.size) o (by omega); (try simp (disch := (first | rfl | omega | (simp only [sz_alloc, sz_drew, sz_set]; omega))) only [sz_alloc, sz_drew, sz_set, World.cell?_drew, World.frozen?_drew, World.cell?_alloc_at, World.cell?_alloc_past, World.frozen?_alloc_at, World.frozen?_alloc_past] at k2_0 f2_0)
  clear hc2 hf2
  go_wp2_with fail
  have b0 : w2.cell? ⟨w.heap.size, 0, none⟩ = some (.int .i64 kind) := by rw [k2_0, k1_0]; rfl
  have b1 : w2.cell? ⟨w.heap.size, 1, none⟩ = some (.int .i64 rd) := by rw [k2_0, k1_0]; rfl
  have b2 : w2.cell? ⟨w.heap.size, 2, none⟩ = some (.int .i64 rs1) := by rw [k2_0, k1_0]; rfl
  have b3 : w2.cell? ⟨w.heap.size, 3, none⟩ = some (.int .i64 rs2) := by rw [k2_0, k1_0]; rfl
  have b4 : w2.cell? ⟨w.heap.size, 4, none⟩ = some (.int .i64 rs3) := by rw [k2_0, k1_0]; rfl
  have b5 : w2.cell? ⟨w.heap.size, 5, none⟩ = some (.int .i64 rm) := by rw [k2_0, k1_0]; rfl
  have b6 : w2.cell? ⟨w.heap.size, 6, none⟩ = some (.int .i64 csr) := by rw [k2_0, k1_0]; rfl
  have b7 : w2.cell? ⟨w.heap.size, 7, none⟩ = some (.int .i64 size) := by rw [k2_0, k1_0]; rfl
  have b8 : w2.cell? ⟨w.heap.size, 8, none⟩ = some (.int .i64 imm) := by rw [k2_0, k1_0]; rfl
  have b9 : w2.cell? ⟨w.heap.size, 9, none⟩ = some (.bool ui) := by rw [k2_0, k1_0]; rfl
  have b10 : w2.cell? ⟨w.heap.size, 10, none⟩ = some (.bool un) := by rw [k2_0, k1_0]; rfl
  have b11 : w2.cell? ⟨w.heap.size, 11, none⟩ = some (.bool wo) := by rw [k2_0, k1_0]; rfl
  have K0 := cell_regrown b0
  have K1 := cell_regrown b1
  have K2 := cell_regrown b2
  have K3 := cell_regrown b3
  have K4 := cell_regrown b4
  have K5 := cell_regrown b5
  have K6 := cell_regrown b6
  have K7 := cell_regrown b7
  have K8 := cell_regrown b8
  have K9 := cell_regrown b9
  have K10 := cell_regrown b10
  have K11 := cell_regrown b11
  have g25 := guard25
  refine wp_region_quiet_below (by kernel_rfl) (by kernel_rfl) ?_
  repeat (go_big_quiet_step (first | fail | fail))
  refine wpQuiet_nil ?_
  intro _ hw'
  obtain ⟨⟨dq, osq⟩, hw''⟩ := hw'
  subst hw''
  have hb3 := below_regrown w2 dq osq
  generalize grow (redrawn w2 dq) osq = w3 at hb3 ⊢
  clear K0 b0 K1 b1 K2 b2 K3 b3 K4 b4 K5 b5 K6 b6 K7 b7 K8 b8 K9 b9 K10 b10 K11 b11
  go_wp2_with fail
  refine (hdec.out _).mono ?_; rintro e w4 ⟨rfl, hb4⟩
  go_wp2_with fail
  refine (heny.out _).mono ?_; rintro e w5 ⟨rfl, hb5⟩; obtain ⟨hc5, hf5⟩ := bcell hb5; have hz5 := hb5.size; (try simp only [sz_alloc, sz_drew, sz_set] at hz5 hc5 hf5); have l5_0 : w4.heap.size < w5.heap.size := (by omega); have n5_0 : ¬ w4.heap.size = w5.heap.size := (by omega); have m5_0 : ¬ w5.heap.size = w4.heap.size := (by omega); have k5_0 := fun o => hc5 (w4.heap.size) o (by omega); have f5_0 := fun o => hf5 (w4.heap.size) o (by omega); (try simp (disch := (first | rfl | omega | (simp only [sz_alloc, sz_drew, sz_set]; omega))) only [sz_alloc, sz_drew, sz_set, World.cell?_drew, World.frozen?_drew, World.cell?_alloc_at, World.cell?_alloc_past, World.frozen?_alloc_at, World.frozen?_alloc_past] at k5_0 f5_0)
  clear hc5 hf5
  have r0 : w5.cell? ⟨w4.heap.size, 0, none⟩ = some (.int .i64 0) := by rw [k5_0]; rfl
  have r1 : w5.cell? ⟨w4.heap.size, 1, none⟩ = some (.int .i64 0) := by rw [k5_0]; rfl
  have r2 : w5.cell? ⟨w4.heap.size, 2, none⟩ = some (.int .i64 0) := by rw [k5_0]; rfl
  have r3 : w5.cell? ⟨w4.heap.size, 3, none⟩ = some (.int .i64 0) := by rw [k5_0]; rfl
  have r4 : w5.cell? ⟨w4.heap.size, 4, none⟩ = some (.int .i64 0) := by rw [k5_0]; rfl
  have r5 : w5.cell? ⟨w4.heap.size, 5, none⟩ = some (.int .i64 0) := by rw [k5_0]; rfl
  have r6 : w5.cell? ⟨w4.heap.size, 6, none⟩ = some (.int .i64 0) := by rw [k5_0]; rfl
  have r7 : w5.cell? ⟨w4.heap.size, 7, none⟩ = some (.int .i64 0) := by rw [k5_0]; rfl
  have r8 : w5.cell? ⟨w4.heap.size, 8, none⟩ = some (.int .i64 0) := by rw [k5_0]; rfl
  have r9 : w5.cell? ⟨w4.heap.size, 9, none⟩ = some (.bool false) := by rw [k5_0]; rfl
  have r10 : w5.cell? ⟨w4.heap.size, 10, none⟩ = some (.bool false) := by rw [k5_0]; rfl
  have r11 : w5.cell? ⟨w4.heap.size, 11, none⟩ = some (.bool false) := by rw [k5_0]; rfl
  have g25 := guard25
  have hqz := eqv_2
  go_wp2_with fail
  go_ret
  exact retB_mk rfl (by repeat (first | (with_reducible first | exact Below.refl _ _ | assumption | exact Nat.le_refl _ | refine Below.drew ?_ | refine Below.alloc ?_ ?_ _ | refine Below.setCell ?_ ?_ _ | refine le_alloc ?_ | refine le_set ?_ | refine le_drew ?_ | refine below_step (by assumption) ?_ ?_ | refine le_below (by assumption) ?_) | (dsimp only; omega)))

end Go.Proofs.Ytmpkhflngpncnaa
