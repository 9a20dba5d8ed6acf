/- The contracts of gather and scatter, from immediate 7 on. -/
import Derived.Test.YtcfeeookjgdkmaaDoorB4
namespace Go.Proofs.YtcfeeookjgdkmaaDoor
open Go.ChangeShapes Go.WideShapes Go.ChangeAt Go.RowKit
set_option linter.unusedVariables false
set_option linter.unusedSimpArgs false

set_option maxRecDepth 100000 in
set_option maxHeartbeats 2000000 in
theorem gather_7 (h : Nat) (hh : Hid (h < 65536)) (w : World) (hG : Hid (G w)) : Calls Tryd.prog 39 #[.agg #[.int .u16 8188, .int .u64 12410482536981, .bool true], .int .u16 h] w (RetU (immF 7 h) w) := by
  have l0 : bits .and .u16 8188 8187 = 8184 := by decide
  have l1 : bits .and .u16 8184 8183 = 8176 := by decide
  have l2 : bits .and .u16 8176 8175 = 8160 := by decide
  have l3 : bits .and .u16 8160 8159 = 8128 := by decide
  have l4 : bits .and .u16 8128 8127 = 8064 := by decide
  have l5 : bits .and .u16 8064 8063 = 7936 := by decide
  have l6 : bits .and .u16 7936 7935 = 7680 := by decide
  have l7 : bits .and .u16 7680 7679 = 7168 := by decide
  have l8 : bits .and .u16 7168 7167 = 6144 := by decide
  have l9 : bits .and .u16 6144 6143 = 4096 := by decide
  have l10 : bits .and .u16 4096 4095 = 0 := by decide
  have t0 : bits .and .u64 12410482536981 15 = 5 := by decide
  have t1 : bits .and .u64 775655158561 15 = 1 := by decide
  have t2 : bits .and .u64 48478447410 15 = 2 := by decide
  have t3 : bits .and .u64 3029902963 15 = 3 := by decide
  have t4 : bits .and .u64 189368935 15 = 7 := by decide
  have t5 : bits .and .u64 11835558 15 = 6 := by decide
  have t6 : bits .and .u64 739722 15 = 10 := by decide
  have t7 : bits .and .u64 46232 15 = 8 := by decide
  have t8 : bits .and .u64 2889 15 = 9 := by decide
  have t9 : bits .and .u64 180 15 = 4 := by decide
  have t10 : bits .and .u64 11 15 = 11 := by decide
  have d2 : bits .and .u16 ((h : Int) / 4) 1 = ((h / 4 % 2 : Nat) : Int) := by have e : ((h : Int) / 4) = ((h / 4 : Nat) : Int) := (by simp); rw [e]; exact u16_low (h / 4) 1 (by have := hh.out; omega) (by decide)
  have d3 : bits .and .u16 ((h : Int) / 8) 1 = ((h / 8 % 2 : Nat) : Int) := by have e : ((h : Int) / 8) = ((h / 8 : Nat) : Int) := (by simp); rw [e]; exact u16_low (h / 8) 1 (by have := hh.out; omega) (by decide)
  have d4 : bits .and .u16 ((h : Int) / 16) 1 = ((h / 16 % 2 : Nat) : Int) := by have e : ((h : Int) / 16) = ((h / 16 : Nat) : Int) := (by simp); rw [e]; exact u16_low (h / 16) 1 (by have := hh.out; omega) (by decide)
  have d5 : bits .and .u16 ((h : Int) / 32) 1 = ((h / 32 % 2 : Nat) : Int) := by have e : ((h : Int) / 32) = ((h / 32 : Nat) : Int) := (by simp); rw [e]; exact u16_low (h / 32) 1 (by have := hh.out; omega) (by decide)
  have d6 : bits .and .u16 ((h : Int) / 64) 1 = ((h / 64 % 2 : Nat) : Int) := by have e : ((h : Int) / 64) = ((h / 64 : Nat) : Int) := (by simp); rw [e]; exact u16_low (h / 64) 1 (by have := hh.out; omega) (by decide)
  have d7 : bits .and .u16 ((h : Int) / 128) 1 = ((h / 128 % 2 : Nat) : Int) := by have e : ((h : Int) / 128) = ((h / 128 : Nat) : Int) := (by simp); rw [e]; exact u16_low (h / 128) 1 (by have := hh.out; omega) (by decide)
  have d8 : bits .and .u16 ((h : Int) / 256) 1 = ((h / 256 % 2 : Nat) : Int) := by have e : ((h : Int) / 256) = ((h / 256 : Nat) : Int) := (by simp); rw [e]; exact u16_low (h / 256) 1 (by have := hh.out; omega) (by decide)
  have d9 : bits .and .u16 ((h : Int) / 512) 1 = ((h / 512 % 2 : Nat) : Int) := by have e : ((h : Int) / 512) = ((h / 512 : Nat) : Int) := (by simp); rw [e]; exact u16_low (h / 512) 1 (by have := hh.out; omega) (by decide)
  have d10 : bits .and .u16 ((h : Int) / 1024) 1 = ((h / 1024 % 2 : Nat) : Int) := by have e : ((h : Int) / 1024) = ((h / 1024 : Nat) : Int) := (by simp); rw [e]; exact u16_low (h / 1024) 1 (by have := hh.out; omega) (by decide)
  have d11 : bits .and .u16 ((h : Int) / 2048) 1 = ((h / 2048 % 2 : Nat) : Int) := by have e : ((h : Int) / 2048) = ((h / 2048 : Nat) : Int) := (by simp); rw [e]; exact u16_low (h / 2048) 1 (by have := hh.out; omega) (by decide)
  have d12 : bits .and .u16 ((h : Int) / 4096) 1 = ((h / 4096 % 2 : Nat) : Int) := by have e : ((h : Int) / 4096) = ((h / 4096 : Nat) : Int) := (by simp); rw [e]; exact u16_low (h / 4096) 1 (by have := hh.out; omega) (by decide)
  go_enter Tryd.func39, Tryd.ntmps39
  go_wp2_with fail
  refine wp_loop_rounds 12 ?_
  rw [rounds_succ]
  go_wp2_with fail
  refine (tz16_c 8188 2 (by show _ ∧ _ ∧ _ ∧ _; decide) _ (Lib.hid (g_alloc hG.out _))).mono ?_; rintro e v0 ⟨rfl, rfl⟩
  go_wp2_with fail
  rw [rounds_succ]
  go_wp2_with fail
  refine (tz16_c 8184 3 (by show _ ∧ _ ∧ _ ∧ _; decide) _ (Lib.hid (g_alloc hG.out _))).mono ?_; rintro e v1 ⟨rfl, rfl⟩
  go_wp2_with fail
  rw [rounds_succ]
  go_wp2_with fail
  refine (tz16_c 8176 4 (by show _ ∧ _ ∧ _ ∧ _; decide) _ (Lib.hid (g_alloc hG.out _))).mono ?_; rintro e v2 ⟨rfl, rfl⟩
  go_wp2_with fail
  rw [rounds_succ]
  go_wp2_with fail
  refine (tz16_c 8160 5 (by show _ ∧ _ ∧ _ ∧ _; decide) _ (Lib.hid (g_alloc hG.out _))).mono ?_; rintro e v3 ⟨rfl, rfl⟩
  go_wp2_with fail
  rw [rounds_succ]
  go_wp2_with fail
  refine (tz16_c 8128 6 (by show _ ∧ _ ∧ _ ∧ _; decide) _ (Lib.hid (g_alloc hG.out _))).mono ?_; rintro e v4 ⟨rfl, rfl⟩
  go_wp2_with fail
  rw [rounds_succ]
  go_wp2_with fail
  refine (tz16_c 8064 7 (by show _ ∧ _ ∧ _ ∧ _; decide) _ (Lib.hid (g_alloc hG.out _))).mono ?_; rintro e v5 ⟨rfl, rfl⟩
  go_wp2_with fail
  rw [rounds_succ]
  go_wp2_with fail
  refine (tz16_c 7936 8 (by show _ ∧ _ ∧ _ ∧ _; decide) _ (Lib.hid (g_alloc hG.out _))).mono ?_; rintro e v6 ⟨rfl, rfl⟩
  go_wp2_with fail
  rw [rounds_succ]
  go_wp2_with fail
  refine (tz16_c 7680 9 (by show _ ∧ _ ∧ _ ∧ _; decide) _ (Lib.hid (g_alloc hG.out _))).mono ?_; rintro e v7 ⟨rfl, rfl⟩
  go_wp2_with fail
  rw [rounds_succ]
  go_wp2_with fail
  refine (tz16_c 7168 10 (by show _ ∧ _ ∧ _ ∧ _; decide) _ (Lib.hid (g_alloc hG.out _))).mono ?_; rintro e v8 ⟨rfl, rfl⟩
  go_wp2_with fail
  rw [rounds_succ]
  go_wp2_with fail
  refine (tz16_c 6144 11 (by show _ ∧ _ ∧ _ ∧ _; decide) _ (Lib.hid (g_alloc hG.out _))).mono ?_; rintro e v9 ⟨rfl, rfl⟩
  go_wp2_with fail
  rw [rounds_succ]
  go_wp2_with fail
  refine (tz16_c 4096 12 (by show _ ∧ _ ∧ _ ∧ _; decide) _ (Lib.hid (g_alloc hG.out _))).mono ?_; rintro e v10 ⟨rfl, rfl⟩
  go_wp2_with fail
  rw [rounds_succ]
  go_wp2_with fail
  go_ret
  have hh' := hh.out
  have hb : ga7 h < 4096 := by
    unfold ga7
    repeat' (first | with_reducible refine Nat.or_lt_two_pow (n := 12) ?_ ?_ | omega)
  refine retU_mk (b := immF 7 h) ?_ (by repeat (first | (with_reducible first | exact Below.refl _ _ | assumption | exact Nat.le_refl _ | refine Below.drew ?_ | refine Below.alloc ?_ ?_ _ | refine Below.setCell ?_ ?_ _ | refine le_alloc ?_ | refine le_set ?_ | refine le_drew ?_ | refine below_step (by assumption) ?_ ?_ | refine le_below (by assumption) ?_) | (dsimp only; omega)))
  rw [immF_7, im7, ← wid_11 _ hb]
  refine congrArg (fun z : Int => wrap32 (z * 1048576 % 4294967296) / 1048576 % 4294967296) ?_
  refine IsU.left ?_
  unfold ga7
  repeat' (first | with_reducible refine isU_or ?_ ?_ | exact ⟨by omega, by omega⟩)
set_option maxRecDepth 100000 in
set_option maxHeartbeats 2000000 in
theorem scatter_7 (n : Nat) (hn : Hid (n < 4294967296)) (w : World) (hG : Hid (G w)) : Calls Tryd.prog 42 #[.agg #[.int .u16 8188, .int .u64 12410482536981, .bool true], .int .u32 n] w (RetH (scaF 7 n) w) := by
  have l0 : bits .and .u16 8188 8187 = 8184 := by decide
  have l1 : bits .and .u16 8184 8183 = 8176 := by decide
  have l2 : bits .and .u16 8176 8175 = 8160 := by decide
  have l3 : bits .and .u16 8160 8159 = 8128 := by decide
  have l4 : bits .and .u16 8128 8127 = 8064 := by decide
  have l5 : bits .and .u16 8064 8063 = 7936 := by decide
  have l6 : bits .and .u16 7936 7935 = 7680 := by decide
  have l7 : bits .and .u16 7680 7679 = 7168 := by decide
  have l8 : bits .and .u16 7168 7167 = 6144 := by decide
  have l9 : bits .and .u16 6144 6143 = 4096 := by decide
  have l10 : bits .and .u16 4096 4095 = 0 := by decide
  have t0 : bits .and .u64 12410482536981 15 = 5 := by decide
  have t1 : bits .and .u64 775655158561 15 = 1 := by decide
  have t2 : bits .and .u64 48478447410 15 = 2 := by decide
  have t3 : bits .and .u64 3029902963 15 = 3 := by decide
  have t4 : bits .and .u64 189368935 15 = 7 := by decide
  have t5 : bits .and .u64 11835558 15 = 6 := by decide
  have t6 : bits .and .u64 739722 15 = 10 := by decide
  have t7 : bits .and .u64 46232 15 = 8 := by decide
  have t8 : bits .and .u64 2889 15 = 9 := by decide
  have t9 : bits .and .u64 180 15 = 4 := by decide
  have t10 : bits .and .u64 11 15 = 11 := by decide
  have d5 : bits .and .u32 ((n : Int) / 32) 1 = ((n / 32 % 2 : Nat) : Int) := by have e : ((n : Int) / 32) = ((n / 32 : Nat) : Int) := (by simp); rw [e]; exact u32_low (n / 32) 1 (by have := hn.out; omega) (by decide)
  have d1 : bits .and .u32 ((n : Int) / 2) 1 = ((n / 2 % 2 : Nat) : Int) := by have e : ((n : Int) / 2) = ((n / 2 : Nat) : Int) := (by simp); rw [e]; exact u32_low (n / 2) 1 (by have := hn.out; omega) (by decide)
  have d2 : bits .and .u32 ((n : Int) / 4) 1 = ((n / 4 % 2 : Nat) : Int) := by have e : ((n : Int) / 4) = ((n / 4 : Nat) : Int) := (by simp); rw [e]; exact u32_low (n / 4) 1 (by have := hn.out; omega) (by decide)
  have d3 : bits .and .u32 ((n : Int) / 8) 1 = ((n / 8 % 2 : Nat) : Int) := by have e : ((n : Int) / 8) = ((n / 8 : Nat) : Int) := (by simp); rw [e]; exact u32_low (n / 8) 1 (by have := hn.out; omega) (by decide)
  have d7 : bits .and .u32 ((n : Int) / 128) 1 = ((n / 128 % 2 : Nat) : Int) := by have e : ((n : Int) / 128) = ((n / 128 : Nat) : Int) := (by simp); rw [e]; exact u32_low (n / 128) 1 (by have := hn.out; omega) (by decide)
  have d6 : bits .and .u32 ((n : Int) / 64) 1 = ((n / 64 % 2 : Nat) : Int) := by have e : ((n : Int) / 64) = ((n / 64 : Nat) : Int) := (by simp); rw [e]; exact u32_low (n / 64) 1 (by have := hn.out; omega) (by decide)
  have d10 : bits .and .u32 ((n : Int) / 1024) 1 = ((n / 1024 % 2 : Nat) : Int) := by have e : ((n : Int) / 1024) = ((n / 1024 : Nat) : Int) := (by simp); rw [e]; exact u32_low (n / 1024) 1 (by have := hn.out; omega) (by decide)
  have d8 : bits .and .u32 ((n : Int) / 256) 1 = ((n / 256 % 2 : Nat) : Int) := by have e : ((n : Int) / 256) = ((n / 256 : Nat) : Int) := (by simp); rw [e]; exact u32_low (n / 256) 1 (by have := hn.out; omega) (by decide)
  have d9 : bits .and .u32 ((n : Int) / 512) 1 = ((n / 512 % 2 : Nat) : Int) := by have e : ((n : Int) / 512) = ((n / 512 : Nat) : Int) := (by simp); rw [e]; exact u32_low (n / 512) 1 (by have := hn.out; omega) (by decide)
  have d4 : bits .and .u32 ((n : Int) / 16) 1 = ((n / 16 % 2 : Nat) : Int) := by have e : ((n : Int) / 16) = ((n / 16 : Nat) : Int) := (by simp); rw [e]; exact u32_low (n / 16) 1 (by have := hn.out; omega) (by decide)
  have d11 : bits .and .u32 ((n : Int) / 2048) 1 = ((n / 2048 % 2 : Nat) : Int) := by have e : ((n : Int) / 2048) = ((n / 2048 : Nat) : Int) := (by simp); rw [e]; exact u32_low (n / 2048) 1 (by have := hn.out; omega) (by decide)
  go_enter Tryd.func42, Tryd.ntmps42
  go_wp2_with fail
  refine wp_loop_rounds 12 ?_
  rw [rounds_succ]
  go_wp2_with fail
  refine (tz16_c 8188 2 (by show _ ∧ _ ∧ _ ∧ _; decide) _ (Lib.hid (g_alloc hG.out _))).mono ?_; rintro e v0 ⟨rfl, rfl⟩
  go_wp2_with fail
  rw [rounds_succ]
  go_wp2_with fail
  refine (tz16_c 8184 3 (by show _ ∧ _ ∧ _ ∧ _; decide) _ (Lib.hid (g_alloc hG.out _))).mono ?_; rintro e v1 ⟨rfl, rfl⟩
  go_wp2_with fail
  rw [rounds_succ]
  go_wp2_with fail
  refine (tz16_c 8176 4 (by show _ ∧ _ ∧ _ ∧ _; decide) _ (Lib.hid (g_alloc hG.out _))).mono ?_; rintro e v2 ⟨rfl, rfl⟩
  go_wp2_with fail
  rw [rounds_succ]
  go_wp2_with fail
  refine (tz16_c 8160 5 (by show _ ∧ _ ∧ _ ∧ _; decide) _ (Lib.hid (g_alloc hG.out _))).mono ?_; rintro e v3 ⟨rfl, rfl⟩
  go_wp2_with fail
  rw [rounds_succ]
  go_wp2_with fail
  refine (tz16_c 8128 6 (by show _ ∧ _ ∧ _ ∧ _; decide) _ (Lib.hid (g_alloc hG.out _))).mono ?_; rintro e v4 ⟨rfl, rfl⟩
  go_wp2_with fail
  rw [rounds_succ]
  go_wp2_with fail
  refine (tz16_c 8064 7 (by show _ ∧ _ ∧ _ ∧ _; decide) _ (Lib.hid (g_alloc hG.out _))).mono ?_; rintro e v5 ⟨rfl, rfl⟩
  go_wp2_with fail
  rw [rounds_succ]
  go_wp2_with fail
  refine (tz16_c 7936 8 (by show _ ∧ _ ∧ _ ∧ _; decide) _ (Lib.hid (g_alloc hG.out _))).mono ?_; rintro e v6 ⟨rfl, rfl⟩
  go_wp2_with fail
  rw [rounds_succ]
  go_wp2_with fail
  refine (tz16_c 7680 9 (by show _ ∧ _ ∧ _ ∧ _; decide) _ (Lib.hid (g_alloc hG.out _))).mono ?_; rintro e v7 ⟨rfl, rfl⟩
  go_wp2_with fail
  rw [rounds_succ]
  go_wp2_with fail
  refine (tz16_c 7168 10 (by show _ ∧ _ ∧ _ ∧ _; decide) _ (Lib.hid (g_alloc hG.out _))).mono ?_; rintro e v8 ⟨rfl, rfl⟩
  go_wp2_with fail
  rw [rounds_succ]
  go_wp2_with fail
  refine (tz16_c 6144 11 (by show _ ∧ _ ∧ _ ∧ _; decide) _ (Lib.hid (g_alloc hG.out _))).mono ?_; rintro e v9 ⟨rfl, rfl⟩
  go_wp2_with fail
  rw [rounds_succ]
  go_wp2_with fail
  refine (tz16_c 4096 12 (by show _ ∧ _ ∧ _ ∧ _; decide) _ (Lib.hid (g_alloc hG.out _))).mono ?_; rintro e v10 ⟨rfl, rfl⟩
  go_wp2_with fail
  rw [rounds_succ]
  go_wp2_with fail
  go_ret
  have hn' := hn.out
  refine retH_mk (b := scaF 7 n) ?_ (by repeat (first | (with_reducible first | exact Below.refl _ _ | assumption | exact Nat.le_refl _ | refine Below.drew ?_ | refine Below.alloc ?_ ?_ _ | refine Below.setCell ?_ ?_ _ | refine le_alloc ?_ | refine le_set ?_ | refine le_drew ?_ | refine below_step (by assumption) ?_ ?_ | refine le_below (by assumption) ?_) | (dsimp only; omega)))
  rw [scaF_7]
  refine IsH.left ?_
  unfold sc7
  repeat' (first | with_reducible refine isH_or ?_ ?_ | exact ⟨by omega, by omega⟩)
set_option maxRecDepth 100000 in
set_option maxHeartbeats 2000000 in
theorem gather_8 (h : Nat) (hh : Hid (h < 65536)) (w : World) (hG : Hid (G w)) : Calls Tryd.prog 39 #[.agg #[.int .u16 7292, .int .u64 2218222101, .bool true], .int .u16 h] w (RetU (immF 8 h) w) := by
  have l0 : bits .and .u16 7292 7291 = 7288 := by decide
  have l1 : bits .and .u16 7288 7287 = 7280 := by decide
  have l2 : bits .and .u16 7280 7279 = 7264 := by decide
  have l3 : bits .and .u16 7264 7263 = 7232 := by decide
  have l4 : bits .and .u16 7232 7231 = 7168 := by decide
  have l5 : bits .and .u16 7168 7167 = 6144 := by decide
  have l6 : bits .and .u16 6144 6143 = 4096 := by decide
  have l7 : bits .and .u16 4096 4095 = 0 := by decide
  have t0 : bits .and .u64 2218222101 15 = 5 := by decide
  have t1 : bits .and .u64 138638881 15 = 1 := by decide
  have t2 : bits .and .u64 8664930 15 = 2 := by decide
  have t3 : bits .and .u64 541558 15 = 6 := by decide
  have t4 : bits .and .u64 33847 15 = 7 := by decide
  have t5 : bits .and .u64 2115 15 = 3 := by decide
  have t6 : bits .and .u64 132 15 = 4 := by decide
  have t7 : bits .and .u64 8 15 = 8 := by decide
  have d2 : bits .and .u16 ((h : Int) / 4) 1 = ((h / 4 % 2 : Nat) : Int) := by have e : ((h : Int) / 4) = ((h / 4 : Nat) : Int) := (by simp); rw [e]; exact u16_low (h / 4) 1 (by have := hh.out; omega) (by decide)
  have d3 : bits .and .u16 ((h : Int) / 8) 1 = ((h / 8 % 2 : Nat) : Int) := by have e : ((h : Int) / 8) = ((h / 8 : Nat) : Int) := (by simp); rw [e]; exact u16_low (h / 8) 1 (by have := hh.out; omega) (by decide)
  have d4 : bits .and .u16 ((h : Int) / 16) 1 = ((h / 16 % 2 : Nat) : Int) := by have e : ((h : Int) / 16) = ((h / 16 : Nat) : Int) := (by simp); rw [e]; exact u16_low (h / 16) 1 (by have := hh.out; omega) (by decide)
  have d5 : bits .and .u16 ((h : Int) / 32) 1 = ((h / 32 % 2 : Nat) : Int) := by have e : ((h : Int) / 32) = ((h / 32 : Nat) : Int) := (by simp); rw [e]; exact u16_low (h / 32) 1 (by have := hh.out; omega) (by decide)
  have d6 : bits .and .u16 ((h : Int) / 64) 1 = ((h / 64 % 2 : Nat) : Int) := by have e : ((h : Int) / 64) = ((h / 64 : Nat) : Int) := (by simp); rw [e]; exact u16_low (h / 64) 1 (by have := hh.out; omega) (by decide)
  have d10 : bits .and .u16 ((h : Int) / 1024) 1 = ((h / 1024 % 2 : Nat) : Int) := by have e : ((h : Int) / 1024) = ((h / 1024 : Nat) : Int) := (by simp); rw [e]; exact u16_low (h / 1024) 1 (by have := hh.out; omega) (by decide)
  have d11 : bits .and .u16 ((h : Int) / 2048) 1 = ((h / 2048 % 2 : Nat) : Int) := by have e : ((h : Int) / 2048) = ((h / 2048 : Nat) : Int) := (by simp); rw [e]; exact u16_low (h / 2048) 1 (by have := hh.out; omega) (by decide)
  have d12 : bits .and .u16 ((h : Int) / 4096) 1 = ((h / 4096 % 2 : Nat) : Int) := by have e : ((h : Int) / 4096) = ((h / 4096 : Nat) : Int) := (by simp); rw [e]; exact u16_low (h / 4096) 1 (by have := hh.out; omega) (by decide)
  go_enter Tryd.func39, Tryd.ntmps39
  go_wp2_with fail
  refine wp_loop_rounds 9 ?_
  rw [rounds_succ]
  go_wp2_with fail
  refine (tz16_c 7292 2 (by show _ ∧ _ ∧ _ ∧ _; decide) _ (Lib.hid (g_alloc hG.out _))).mono ?_; rintro e v0 ⟨rfl, rfl⟩
  go_wp2_with fail
  rw [rounds_succ]
  go_wp2_with fail
  refine (tz16_c 7288 3 (by show _ ∧ _ ∧ _ ∧ _; decide) _ (Lib.hid (g_alloc hG.out _))).mono ?_; rintro e v1 ⟨rfl, rfl⟩
  go_wp2_with fail
  rw [rounds_succ]
  go_wp2_with fail
  refine (tz16_c 7280 4 (by show _ ∧ _ ∧ _ ∧ _; decide) _ (Lib.hid (g_alloc hG.out _))).mono ?_; rintro e v2 ⟨rfl, rfl⟩
  go_wp2_with fail
  rw [rounds_succ]
  go_wp2_with fail
  refine (tz16_c 7264 5 (by show _ ∧ _ ∧ _ ∧ _; decide) _ (Lib.hid (g_alloc hG.out _))).mono ?_; rintro e v3 ⟨rfl, rfl⟩
  go_wp2_with fail
  rw [rounds_succ]
  go_wp2_with fail
  refine (tz16_c 7232 6 (by show _ ∧ _ ∧ _ ∧ _; decide) _ (Lib.hid (g_alloc hG.out _))).mono ?_; rintro e v4 ⟨rfl, rfl⟩
  go_wp2_with fail
  rw [rounds_succ]
  go_wp2_with fail
  refine (tz16_c 7168 10 (by show _ ∧ _ ∧ _ ∧ _; decide) _ (Lib.hid (g_alloc hG.out _))).mono ?_; rintro e v5 ⟨rfl, rfl⟩
  go_wp2_with fail
  rw [rounds_succ]
  go_wp2_with fail
  refine (tz16_c 6144 11 (by show _ ∧ _ ∧ _ ∧ _; decide) _ (Lib.hid (g_alloc hG.out _))).mono ?_; rintro e v6 ⟨rfl, rfl⟩
  go_wp2_with fail
  rw [rounds_succ]
  go_wp2_with fail
  refine (tz16_c 4096 12 (by show _ ∧ _ ∧ _ ∧ _; decide) _ (Lib.hid (g_alloc hG.out _))).mono ?_; rintro e v7 ⟨rfl, rfl⟩
  go_wp2_with fail
  rw [rounds_succ]
  go_wp2_with fail
  go_ret
  have hh' := hh.out
  have hb : ga8 h < 512 := by
    unfold ga8
    repeat' (first | with_reducible refine Nat.or_lt_two_pow (n := 9) ?_ ?_ | omega)
  refine retU_mk (b := immF 8 h) ?_ (by repeat (first | (with_reducible first | exact Below.refl _ _ | assumption | exact Nat.le_refl _ | refine Below.drew ?_ | refine Below.alloc ?_ ?_ _ | refine Below.setCell ?_ ?_ _ | refine le_alloc ?_ | refine le_set ?_ | refine le_drew ?_ | refine below_step (by assumption) ?_ ?_ | refine le_below (by assumption) ?_) | (dsimp only; omega)))
  rw [immF_8, im8, ← wid_8 _ hb]
  refine congrArg (fun z : Int => wrap32 (z * 8388608 % 4294967296) / 8388608 % 4294967296) ?_
  refine IsU.left ?_
  unfold ga8
  repeat' (first | with_reducible refine isU_or ?_ ?_ | exact ⟨by omega, by omega⟩)
set_option maxRecDepth 100000 in
set_option maxHeartbeats 2000000 in
theorem scatter_8 (n : Nat) (hn : Hid (n < 4294967296)) (w : World) (hG : Hid (G w)) : Calls Tryd.prog 42 #[.agg #[.int .u16 7292, .int .u64 2218222101, .bool true], .int .u32 n] w (RetH (scaF 8 n) w) := by
  have l0 : bits .and .u16 7292 7291 = 7288 := by decide
  have l1 : bits .and .u16 7288 7287 = 7280 := by decide
  have l2 : bits .and .u16 7280 7279 = 7264 := by decide
  have l3 : bits .and .u16 7264 7263 = 7232 := by decide
  have l4 : bits .and .u16 7232 7231 = 7168 := by decide
  have l5 : bits .and .u16 7168 7167 = 6144 := by decide
  have l6 : bits .and .u16 6144 6143 = 4096 := by decide
  have l7 : bits .and .u16 4096 4095 = 0 := by decide
  have t0 : bits .and .u64 2218222101 15 = 5 := by decide
  have t1 : bits .and .u64 138638881 15 = 1 := by decide
  have t2 : bits .and .u64 8664930 15 = 2 := by decide
  have t3 : bits .and .u64 541558 15 = 6 := by decide
  have t4 : bits .and .u64 33847 15 = 7 := by decide
  have t5 : bits .and .u64 2115 15 = 3 := by decide
  have t6 : bits .and .u64 132 15 = 4 := by decide
  have t7 : bits .and .u64 8 15 = 8 := by decide
  have d5 : bits .and .u32 ((n : Int) / 32) 1 = ((n / 32 % 2 : Nat) : Int) := by have e : ((n : Int) / 32) = ((n / 32 : Nat) : Int) := (by simp); rw [e]; exact u32_low (n / 32) 1 (by have := hn.out; omega) (by decide)
  have d1 : bits .and .u32 ((n : Int) / 2) 1 = ((n / 2 % 2 : Nat) : Int) := by have e : ((n : Int) / 2) = ((n / 2 : Nat) : Int) := (by simp); rw [e]; exact u32_low (n / 2) 1 (by have := hn.out; omega) (by decide)
  have d2 : bits .and .u32 ((n : Int) / 4) 1 = ((n / 4 % 2 : Nat) : Int) := by have e : ((n : Int) / 4) = ((n / 4 : Nat) : Int) := (by simp); rw [e]; exact u32_low (n / 4) 1 (by have := hn.out; omega) (by decide)
  have d6 : bits .and .u32 ((n : Int) / 64) 1 = ((n / 64 % 2 : Nat) : Int) := by have e : ((n : Int) / 64) = ((n / 64 : Nat) : Int) := (by simp); rw [e]; exact u32_low (n / 64) 1 (by have := hn.out; omega) (by decide)
  have d7 : bits .and .u32 ((n : Int) / 128) 1 = ((n / 128 % 2 : Nat) : Int) := by have e : ((n : Int) / 128) = ((n / 128 : Nat) : Int) := (by simp); rw [e]; exact u32_low (n / 128) 1 (by have := hn.out; omega) (by decide)
  have d3 : bits .and .u32 ((n : Int) / 8) 1 = ((n / 8 % 2 : Nat) : Int) := by have e : ((n : Int) / 8) = ((n / 8 : Nat) : Int) := (by simp); rw [e]; exact u32_low (n / 8) 1 (by have := hn.out; omega) (by decide)
  have d4 : bits .and .u32 ((n : Int) / 16) 1 = ((n / 16 % 2 : Nat) : Int) := by have e : ((n : Int) / 16) = ((n / 16 : Nat) : Int) := (by simp); rw [e]; exact u32_low (n / 16) 1 (by have := hn.out; omega) (by decide)
  have d8 : bits .and .u32 ((n : Int) / 256) 1 = ((n / 256 % 2 : Nat) : Int) := by have e : ((n : Int) / 256) = ((n / 256 : Nat) : Int) := (by simp); rw [e]; exact u32_low (n / 256) 1 (by have := hn.out; omega) (by decide)
  go_enter Tryd.func42, Tryd.ntmps42
  go_wp2_with fail
  refine wp_loop_rounds 9 ?_
  rw [rounds_succ]
  go_wp2_with fail
  refine (tz16_c 7292 2 (by show _ ∧ _ ∧ _ ∧ _; decide) _ (Lib.hid (g_alloc hG.out _))).mono ?_; rintro e v0 ⟨rfl, rfl⟩
  go_wp2_with fail
  rw [rounds_succ]
  go_wp2_with fail
  refine (tz16_c 7288 3 (by show _ ∧ _ ∧ _ ∧ _; decide) _ (Lib.hid (g_alloc hG.out _))).mono ?_; rintro e v1 ⟨rfl, rfl⟩
  go_wp2_with fail
  rw [rounds_succ]
  go_wp2_with fail
  refine (tz16_c 7280 4 (by show _ ∧ _ ∧ _ ∧ _; decide) _ (Lib.hid (g_alloc hG.out _))).mono ?_; rintro e v2 ⟨rfl, rfl⟩
  go_wp2_with fail
  rw [rounds_succ]
  go_wp2_with fail
  refine (tz16_c 7264 5 (by show _ ∧ _ ∧ _ ∧ _; decide) _ (Lib.hid (g_alloc hG.out _))).mono ?_; rintro e v3 ⟨rfl, rfl⟩
  go_wp2_with fail
  rw [rounds_succ]
  go_wp2_with fail
  refine (tz16_c 7232 6 (by show _ ∧ _ ∧ _ ∧ _; decide) _ (Lib.hid (g_alloc hG.out _))).mono ?_; rintro e v4 ⟨rfl, rfl⟩
  go_wp2_with fail
  rw [rounds_succ]
  go_wp2_with fail
  refine (tz16_c 7168 10 (by show _ ∧ _ ∧ _ ∧ _; decide) _ (Lib.hid (g_alloc hG.out _))).mono ?_; rintro e v5 ⟨rfl, rfl⟩
  go_wp2_with fail
  rw [rounds_succ]
  go_wp2_with fail
  refine (tz16_c 6144 11 (by show _ ∧ _ ∧ _ ∧ _; decide) _ (Lib.hid (g_alloc hG.out _))).mono ?_; rintro e v6 ⟨rfl, rfl⟩
  go_wp2_with fail
  rw [rounds_succ]
  go_wp2_with fail
  refine (tz16_c 4096 12 (by show _ ∧ _ ∧ _ ∧ _; decide) _ (Lib.hid (g_alloc hG.out _))).mono ?_; rintro e v7 ⟨rfl, rfl⟩
  go_wp2_with fail
  rw [rounds_succ]
  go_wp2_with fail
  go_ret
  have hn' := hn.out
  refine retH_mk (b := scaF 8 n) ?_ (by repeat (first | (with_reducible first | exact Below.refl _ _ | assumption | exact Nat.le_refl _ | refine Below.drew ?_ | refine Below.alloc ?_ ?_ _ | refine Below.setCell ?_ ?_ _ | refine le_alloc ?_ | refine le_set ?_ | refine le_drew ?_ | refine below_step (by assumption) ?_ ?_ | refine le_below (by assumption) ?_) | (dsimp only; omega)))
  rw [scaF_8]
  refine IsH.left ?_
  unfold sc8
  repeat' (first | with_reducible refine isH_or ?_ ?_ | exact ⟨by omega, by omega⟩)
set_option maxRecDepth 100000 in
set_option maxHeartbeats 2000000 in
theorem gather_9 (h : Nat) (hh : Hid (h < 65536)) (w : World) (hG : Hid (G w)) : Calls Tryd.prog 39 #[.agg #[.int .u16 4220, .int .u64 5519478, .bool false], .int .u16 h] w (RetU (immF 9 h) w) := by
  have l0 : bits .and .u16 4220 4219 = 4216 := by decide
  have l1 : bits .and .u16 4216 4215 = 4208 := by decide
  have l2 : bits .and .u16 4208 4207 = 4192 := by decide
  have l3 : bits .and .u16 4192 4191 = 4160 := by decide
  have l4 : bits .and .u16 4160 4159 = 4096 := by decide
  have l5 : bits .and .u16 4096 4095 = 0 := by decide
  have t0 : bits .and .u64 5519478 15 = 6 := by decide
  have t1 : bits .and .u64 344967 15 = 7 := by decide
  have t2 : bits .and .u64 21560 15 = 8 := by decide
  have t3 : bits .and .u64 1347 15 = 3 := by decide
  have t4 : bits .and .u64 84 15 = 4 := by decide
  have t5 : bits .and .u64 5 15 = 5 := by decide
  have d2 : bits .and .u16 ((h : Int) / 4) 1 = ((h / 4 % 2 : Nat) : Int) := by have e : ((h : Int) / 4) = ((h / 4 : Nat) : Int) := (by simp); rw [e]; exact u16_low (h / 4) 1 (by have := hh.out; omega) (by decide)
  have d3 : bits .and .u16 ((h : Int) / 8) 1 = ((h / 8 % 2 : Nat) : Int) := by have e : ((h : Int) / 8) = ((h / 8 : Nat) : Int) := (by simp); rw [e]; exact u16_low (h / 8) 1 (by have := hh.out; omega) (by decide)
  have d4 : bits .and .u16 ((h : Int) / 16) 1 = ((h / 16 % 2 : Nat) : Int) := by have e : ((h : Int) / 16) = ((h / 16 : Nat) : Int) := (by simp); rw [e]; exact u16_low (h / 16) 1 (by have := hh.out; omega) (by decide)
  have d5 : bits .and .u16 ((h : Int) / 32) 1 = ((h / 32 % 2 : Nat) : Int) := by have e : ((h : Int) / 32) = ((h / 32 : Nat) : Int) := (by simp); rw [e]; exact u16_low (h / 32) 1 (by have := hh.out; omega) (by decide)
  have d6 : bits .and .u16 ((h : Int) / 64) 1 = ((h / 64 % 2 : Nat) : Int) := by have e : ((h : Int) / 64) = ((h / 64 : Nat) : Int) := (by simp); rw [e]; exact u16_low (h / 64) 1 (by have := hh.out; omega) (by decide)
  have d12 : bits .and .u16 ((h : Int) / 4096) 1 = ((h / 4096 % 2 : Nat) : Int) := by have e : ((h : Int) / 4096) = ((h / 4096 : Nat) : Int) := (by simp); rw [e]; exact u16_low (h / 4096) 1 (by have := hh.out; omega) (by decide)
  go_enter Tryd.func39, Tryd.ntmps39
  go_wp2_with fail
  refine wp_loop_rounds 7 ?_
  rw [rounds_succ]
  go_wp2_with fail
  refine (tz16_c 4220 2 (by show _ ∧ _ ∧ _ ∧ _; decide) _ (Lib.hid (g_alloc hG.out _))).mono ?_; rintro e v0 ⟨rfl, rfl⟩
  go_wp2_with fail
  rw [rounds_succ]
  go_wp2_with fail
  refine (tz16_c 4216 3 (by show _ ∧ _ ∧ _ ∧ _; decide) _ (Lib.hid (g_alloc hG.out _))).mono ?_; rintro e v1 ⟨rfl, rfl⟩
  go_wp2_with fail
  rw [rounds_succ]
  go_wp2_with fail
  refine (tz16_c 4208 4 (by show _ ∧ _ ∧ _ ∧ _; decide) _ (Lib.hid (g_alloc hG.out _))).mono ?_; rintro e v2 ⟨rfl, rfl⟩
  go_wp2_with fail
  rw [rounds_succ]
  go_wp2_with fail
  refine (tz16_c 4192 5 (by show _ ∧ _ ∧ _ ∧ _; decide) _ (Lib.hid (g_alloc hG.out _))).mono ?_; rintro e v3 ⟨rfl, rfl⟩
  go_wp2_with fail
  rw [rounds_succ]
  go_wp2_with fail
  refine (tz16_c 4160 6 (by show _ ∧ _ ∧ _ ∧ _; decide) _ (Lib.hid (g_alloc hG.out _))).mono ?_; rintro e v4 ⟨rfl, rfl⟩
  go_wp2_with fail
  rw [rounds_succ]
  go_wp2_with fail
  refine (tz16_c 4096 12 (by show _ ∧ _ ∧ _ ∧ _; decide) _ (Lib.hid (g_alloc hG.out _))).mono ?_; rintro e v5 ⟨rfl, rfl⟩
  go_wp2_with fail
  rw [rounds_succ]
  go_wp2_with fail
  go_ret
  have hh' := hh.out
  refine retU_mk (b := immF 9 h) ?_ (by repeat (first | (with_reducible first | exact Below.refl _ _ | assumption | exact Nat.le_refl _ | refine Below.drew ?_ | refine Below.alloc ?_ ?_ _ | refine Below.setCell ?_ ?_ _ | refine le_alloc ?_ | refine le_set ?_ | refine le_drew ?_ | refine below_step (by assumption) ?_ ?_ | refine le_below (by assumption) ?_) | (dsimp only; omega)))
  rw [immF_9]
  refine IsU.left ?_
  unfold ga9
  repeat' (first | with_reducible refine isU_or ?_ ?_ | exact ⟨by omega, by omega⟩)
set_option maxRecDepth 100000 in
set_option maxHeartbeats 2000000 in
theorem scatter_9 (n : Nat) (hn : Hid (n < 4294967296)) (w : World) (hG : Hid (G w)) : Calls Tryd.prog 42 #[.agg #[.int .u16 4220, .int .u64 5519478, .bool false], .int .u32 n] w (RetH (scaF 9 n) w) := by
  have l0 : bits .and .u16 4220 4219 = 4216 := by decide
  have l1 : bits .and .u16 4216 4215 = 4208 := by decide
  have l2 : bits .and .u16 4208 4207 = 4192 := by decide
  have l3 : bits .and .u16 4192 4191 = 4160 := by decide
  have l4 : bits .and .u16 4160 4159 = 4096 := by decide
  have l5 : bits .and .u16 4096 4095 = 0 := by decide
  have t0 : bits .and .u64 5519478 15 = 6 := by decide
  have t1 : bits .and .u64 344967 15 = 7 := by decide
  have t2 : bits .and .u64 21560 15 = 8 := by decide
  have t3 : bits .and .u64 1347 15 = 3 := by decide
  have t4 : bits .and .u64 84 15 = 4 := by decide
  have t5 : bits .and .u64 5 15 = 5 := by decide
  have d6 : bits .and .u32 ((n : Int) / 64) 1 = ((n / 64 % 2 : Nat) : Int) := by have e : ((n : Int) / 64) = ((n / 64 : Nat) : Int) := (by simp); rw [e]; exact u32_low (n / 64) 1 (by have := hn.out; omega) (by decide)
  have d7 : bits .and .u32 ((n : Int) / 128) 1 = ((n / 128 % 2 : Nat) : Int) := by have e : ((n : Int) / 128) = ((n / 128 : Nat) : Int) := (by simp); rw [e]; exact u32_low (n / 128) 1 (by have := hn.out; omega) (by decide)
  have d8 : bits .and .u32 ((n : Int) / 256) 1 = ((n / 256 % 2 : Nat) : Int) := by have e : ((n : Int) / 256) = ((n / 256 : Nat) : Int) := (by simp); rw [e]; exact u32_low (n / 256) 1 (by have := hn.out; omega) (by decide)
  have d3 : bits .and .u32 ((n : Int) / 8) 1 = ((n / 8 % 2 : Nat) : Int) := by have e : ((n : Int) / 8) = ((n / 8 : Nat) : Int) := (by simp); rw [e]; exact u32_low (n / 8) 1 (by have := hn.out; omega) (by decide)
  have d4 : bits .and .u32 ((n : Int) / 16) 1 = ((n / 16 % 2 : Nat) : Int) := by have e : ((n : Int) / 16) = ((n / 16 : Nat) : Int) := (by simp); rw [e]; exact u32_low (n / 16) 1 (by have := hn.out; omega) (by decide)
  have d5 : bits .and .u32 ((n : Int) / 32) 1 = ((n / 32 % 2 : Nat) : Int) := by have e : ((n : Int) / 32) = ((n / 32 : Nat) : Int) := (by simp); rw [e]; exact u32_low (n / 32) 1 (by have := hn.out; omega) (by decide)
  go_enter Tryd.func42, Tryd.ntmps42
  go_wp2_with fail
  refine wp_loop_rounds 7 ?_
  rw [rounds_succ]
  go_wp2_with fail
  refine (tz16_c 4220 2 (by show _ ∧ _ ∧ _ ∧ _; decide) _ (Lib.hid (g_alloc hG.out _))).mono ?_; rintro e v0 ⟨rfl, rfl⟩
  go_wp2_with fail
  rw [rounds_succ]
  go_wp2_with fail
  refine (tz16_c 4216 3 (by show _ ∧ _ ∧ _ ∧ _; decide) _ (Lib.hid (g_alloc hG.out _))).mono ?_; rintro e v1 ⟨rfl, rfl⟩
  go_wp2_with fail
  rw [rounds_succ]
  go_wp2_with fail
  refine (tz16_c 4208 4 (by show _ ∧ _ ∧ _ ∧ _; decide) _ (Lib.hid (g_alloc hG.out _))).mono ?_; rintro e v2 ⟨rfl, rfl⟩
  go_wp2_with fail
  rw [rounds_succ]
  go_wp2_with fail
  refine (tz16_c 4192 5 (by show _ ∧ _ ∧ _ ∧ _; decide) _ (Lib.hid (g_alloc hG.out _))).mono ?_; rintro e v3 ⟨rfl, rfl⟩
  go_wp2_with fail
  rw [rounds_succ]
  go_wp2_with fail
  refine (tz16_c 4160 6 (by show _ ∧ _ ∧ _ ∧ _; decide) _ (Lib.hid (g_alloc hG.out _))).mono ?_; rintro e v4 ⟨rfl, rfl⟩
  go_wp2_with fail
  rw [rounds_succ]
  go_wp2_with fail
  refine (tz16_c 4096 12 (by show _ ∧ _ ∧ _ ∧ _; decide) _ (Lib.hid (g_alloc hG.out _))).mono ?_; rintro e v5 ⟨rfl, rfl⟩
  go_wp2_with fail
  rw [rounds_succ]
  go_wp2_with fail
  go_ret
  have hn' := hn.out
  refine retH_mk (b := scaF 9 n) ?_ (by repeat (first | (with_reducible first | exact Below.refl _ _ | assumption | exact Nat.le_refl _ | refine Below.drew ?_ | refine Below.alloc ?_ ?_ _ | refine Below.setCell ?_ ?_ _ | refine le_alloc ?_ | refine le_set ?_ | refine le_drew ?_ | refine below_step (by assumption) ?_ ?_ | refine le_below (by assumption) ?_) | (dsimp only; omega)))
  rw [scaF_9]
  refine IsH.left ?_
  unfold sc9
  repeat' (first | with_reducible refine isH_or ?_ ?_ | exact ⟨by omega, by omega⟩)
end Go.Proofs.YtcfeeookjgdkmaaDoor
