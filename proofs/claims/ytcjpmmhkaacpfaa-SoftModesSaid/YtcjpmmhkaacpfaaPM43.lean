/- SoftModes: the walk at one size and one operation. -/
import Derived.Test.YtcjpmmhkaacpfaaH2
namespace Go.Proofs.Ytcjpmmhkaacpfaa
open Go.ChangeShapes Go.WideShapes Go.ChangeAt Go.RowKit Go.Sort
set_option linter.unusedVariables false
set_option linter.unusedSimpArgs false
set_option maxRecDepth 100000 in
set_option maxHeartbeats 8000000 in
theorem modes_4_3 (a0 a1 : Int) (a b c : Nat) (hs : bits .and .i64 a0 1 = 0) (hm : Hid (modeV a1 = 3)) (ha : Hid (a < 18446744073709551616)) (hb : Hid (b < 18446744073709551616)) (hc : Hid (c < 18446744073709551616)) (w : World) :
    Calls Try.prog 8 #[.int .i64 a0, .int .i64 a1, .int .u64 a, .int .u64 b, .int .u64 c] w (RetB true w) := by
  go_enter Try.func8, Try.ntmps8
  go_wp2_with fail
  refine (awake_c _).mono ?_; rintro e w1 ⟨rfl, hb1⟩
  go_wp2_with fail
  refine (size_4 a0 hs _).mono ?_; rintro e w2 ⟨rfl, hb2⟩
  have hzz : w.heap.size ≤ w2.heap.size := Nat.le_trans hb1.size hb2.size
  go_wp2_with fail
  have MO := Lib.hid (modes_sqrt false a)
  generalize hF : (fun rm => sqrtF false rm (readN false a)) = F at MO
  have HF : Hid (∀ rm, sqrtF false rm (readN false a) = F rm) := fun rm => congrFun hF rm
  clear hF
  go_loopw [14] (fun i wr => ∃ k : Nat, k ≤ 5 ∧ i = .int .i64 k ∧ Hid (Rows2 wr w2.heap.size (w2.heap.size + 1) k F) ∧ Below w.heap.size w wr ∧ w2.heap.size + 1 < wr.heap.size) (fun i _ => 5 - (intOf i).toNat)
  case atStart => exact ⟨0, by omega, rfl, rows_start _ _ _ _, (by repeat (first | (with_reducible first | exact Below.refl _ _ | assumption | exact Nat.le_refl _ | refine Below.drew ?_ | refine Below.alloc ?_ ?_ _ | refine Below.setCell ?_ ?_ _ | refine le_alloc ?_ | refine le_set ?_ | refine le_drew ?_ | refine below_step (by assumption) ?_ ?_ | refine le_below (by assumption) ?_) | (dsimp only; omega))), by simp only [sz_alloc]; omega⟩
  case round =>
    obtain ⟨k, hk, rfl, hR, hbw, hz⟩ := hrel
    by_cases hlt : k < 5
    · have hk5 : (k : Int) < 5 := by omega
      go_wp2_with fail
      refine (mode_v a1 _).mono ?_; rintro e w3 ⟨rfl, hb3⟩
      rw [hm.out]
      have hR3 : Hid (Rows2 w3 w2.heap.size (w2.heap.size + 1) k F) := rows_below hR.out hb3 (by omega) hz
      have hz3 := hb3.size
      go_wp2_with fail
      refine (Sqrt_c 4 false rfl k (by omega) (by omega) a ha _).mono ?_; rintro e w4 ⟨rfl, hb4⟩
      have hR4 : Hid (Rows2 w4 w2.heap.size (w2.heap.size + 1) k F) := rows_below hR3.out hb4 (by omega) (by omega)
      have hz4 := hb4.size
      rw [HF.out]
      generalize hr : F (k : Int) = r
      have HR := Lib.hid hr; clear hr
      obtain ⟨z1, c1⟩ : ∃ z, w4.cell? ⟨w2.heap.size, k, none⟩ = some (.int .u64 z) := ⟨_, (hR4.out.1 k hlt).1⟩
      obtain ⟨z2, c2⟩ : ∃ z, w4.cell? ⟨w2.heap.size + 1, k, none⟩ = some (.int .i64 z) := ⟨_, (hR4.out.1 k hlt).2⟩
      have d1 := hR4.out.2.1
      have d2 := hR4.out.2.2
      go_wp2_with fail
      go_roundw
      case rel => exact ⟨k + 1, by omega, by go_num, rows_step hR4.out hlt (by omega) _ _ (by rw [HR.out]) (by rw [HR.out]), (by repeat (first | (with_reducible first | exact Below.refl _ _ | assumption | exact Nat.le_refl _ | refine Below.drew ?_ | refine Below.alloc ?_ ?_ _ | refine Below.setCell ?_ ?_ _ | refine le_alloc ?_ | refine le_set ?_ | refine le_drew ?_ | refine below_step (by assumption) ?_ ?_ | refine le_below (by assumption) ?_) | (dsimp only; omega))), by simp only [sz_set]; omega⟩
      case measure => simp [intOf]; omega
    · obtain rfl : k = 5 := by omega
      clear hlt hk
      rcases MO.out with hA | hB | hC
      · obtain ⟨fl, hA⟩ := hA
        have HQ : Hid (∀ j, F j = (quietB false, fl)) := hA
        clear hA
        have R0 : wr.cell? ⟨w2.heap.size, 0, none⟩ = some (.int .u64 2143289344) := ((hR.out.1 0 (by omega)).1).trans (by show some (Value.int .u64 ((F 0).1 : Nat)) = _; rw [HQ.out 0]; rfl)
        have R1 : wr.cell? ⟨w2.heap.size, 1, none⟩ = some (.int .u64 2143289344) := ((hR.out.1 1 (by omega)).1).trans (by show some (Value.int .u64 ((F 1).1 : Nat)) = _; rw [HQ.out 1]; rfl)
        have R2 : wr.cell? ⟨w2.heap.size, 2, none⟩ = some (.int .u64 2143289344) := ((hR.out.1 2 (by omega)).1).trans (by show some (Value.int .u64 ((F 2).1 : Nat)) = _; rw [HQ.out 2]; rfl)
        have R3 : wr.cell? ⟨w2.heap.size, 3, none⟩ = some (.int .u64 2143289344) := ((hR.out.1 3 (by omega)).1).trans (by show some (Value.int .u64 ((F 3).1 : Nat)) = _; rw [HQ.out 3]; rfl)
        have R4 : wr.cell? ⟨w2.heap.size, 4, none⟩ = some (.int .u64 2143289344) := ((hR.out.1 4 (by omega)).1).trans (by show some (Value.int .u64 ((F 4).1 : Nat)) = _; rw [HQ.out 4]; rfl)
        go_wp2_with fail
        refine (nan_4 2143289344 (by show _ < _; decide) _).mono ?_; rintro e w5 ⟨rfl, hb5⟩
        rw [show nanB false 2143289344 = true by decide]
        have hR5 : Hid (Rows2 w5 w2.heap.size (w2.heap.size + 1) 5 F) := rows_below hR.out hb5 (by omega) hz
        clear R0 R1 R2 R3 R4
        have R0 : w5.cell? ⟨w2.heap.size, 0, none⟩ = some (.int .u64 2143289344) := ((hR5.out.1 0 (by omega)).1).trans (by show some (Value.int .u64 ((F 0).1 : Nat)) = _; rw [HQ.out 0]; rfl)
        have S0 : w5.cell? ⟨w2.heap.size + 1, 0, none⟩ = some (.int .i64 fl) := ((hR5.out.1 0 (by omega)).2).trans (by show some (Value.int .i64 (F 0).2) = _; rw [HQ.out 0])
        have R1 : w5.cell? ⟨w2.heap.size, 1, none⟩ = some (.int .u64 2143289344) := ((hR5.out.1 1 (by omega)).1).trans (by show some (Value.int .u64 ((F 1).1 : Nat)) = _; rw [HQ.out 1]; rfl)
        have S1 : w5.cell? ⟨w2.heap.size + 1, 1, none⟩ = some (.int .i64 fl) := ((hR5.out.1 1 (by omega)).2).trans (by show some (Value.int .i64 (F 1).2) = _; rw [HQ.out 1])
        have R2 : w5.cell? ⟨w2.heap.size, 2, none⟩ = some (.int .u64 2143289344) := ((hR5.out.1 2 (by omega)).1).trans (by show some (Value.int .u64 ((F 2).1 : Nat)) = _; rw [HQ.out 2]; rfl)
        have S2 : w5.cell? ⟨w2.heap.size + 1, 2, none⟩ = some (.int .i64 fl) := ((hR5.out.1 2 (by omega)).2).trans (by show some (Value.int .i64 (F 2).2) = _; rw [HQ.out 2])
        have R3 : w5.cell? ⟨w2.heap.size, 3, none⟩ = some (.int .u64 2143289344) := ((hR5.out.1 3 (by omega)).1).trans (by show some (Value.int .u64 ((F 3).1 : Nat)) = _; rw [HQ.out 3]; rfl)
        have S3 : w5.cell? ⟨w2.heap.size + 1, 3, none⟩ = some (.int .i64 fl) := ((hR5.out.1 3 (by omega)).2).trans (by show some (Value.int .i64 (F 3).2) = _; rw [HQ.out 3])
        have R4 : w5.cell? ⟨w2.heap.size, 4, none⟩ = some (.int .u64 2143289344) := ((hR5.out.1 4 (by omega)).1).trans (by show some (Value.int .u64 ((F 4).1 : Nat)) = _; rw [HQ.out 4]; rfl)
        have S4 : w5.cell? ⟨w2.heap.size + 1, 4, none⟩ = some (.int .i64 fl) := ((hR5.out.1 4 (by omega)).2).trans (by show some (Value.int .i64 (F 4).2) = _; rw [HQ.out 4])
        go_wp2_with fail
        go_ret
        exact retB_mk (by simp) (by repeat (first | (with_reducible first | exact Below.refl _ _ | assumption | exact Nat.le_refl _ | refine Below.drew ?_ | refine Below.alloc ?_ ?_ _ | refine Below.setCell ?_ ?_ _ | refine le_alloc ?_ | refine le_set ?_ | refine le_drew ?_ | refine below_step (by assumption) ?_ ?_ | refine le_below (by assumption) ?_) | (dsimp only; omega)))
      · obtain ⟨v, hv⟩ := hB
        have HV := Lib.hid hv; clear hv
        have FI : Hid (∀ j, (F j).1 < 18446744073709551616) := fun j => (HV.out j).1.1
        have NA : Hid (∀ j, nanB false (F j).1 = false) := fun j => (HV.out j).1.2
        have PA : Hid (∀ j, bits .and .i64 (F j).2 1 = 0) := fun j => par_even (HV.out j).2.2
        have R0 : wr.cell? ⟨w2.heap.size, 0, none⟩ = some (.int .u64 ((F 0).1 : Nat)) := (hR.out.1 0 (by omega)).1
        go_wp2_with fail
        refine (nan_4 (F 0).1 (FI.out 0) _).mono ?_; rintro e w5 ⟨rfl, hb5⟩
        rw [NA.out 0]
        clear R0
        have hR5 : Hid (Rows2 w5 w2.heap.size (w2.heap.size + 1) 5 F) := rows_below hR.out hb5 (by omega) hz
        have hz5 := hb5.size
        have hbw5 : Below w.heap.size w w5 := below_step hb5 hbw (by omega)
        go_wp2_with fail
        go_loopw [16] (fun i wr => ∃ k : Nat, k ≤ 5 ∧ i = .int .i64 k ∧ Hid (Rows2 wr w2.heap.size (w2.heap.size + 1) 5 F) ∧ Hid (RowK wr w5.heap.size k (fun j => keyI false (F j).1)) ∧ Below w.heap.size w wr ∧ w5.heap.size < wr.heap.size) (fun i _ => 5 - (intOf i).toNat)
        case atStart => exact ⟨0, by omega, rfl, rows_below hR5.out ((Below.refl _ _).alloc (Nat.le_refl _) _) (by omega) (by omega), rowk_start _ _ _, (by repeat (first | (with_reducible first | exact Below.refl _ _ | assumption | exact Nat.le_refl _ | refine Below.drew ?_ | refine Below.alloc ?_ ?_ _ | refine Below.setCell ?_ ?_ _ | refine le_alloc ?_ | refine le_set ?_ | refine le_drew ?_ | refine below_step (by assumption) ?_ ?_ | refine le_below (by assumption) ?_) | (dsimp only; omega))), by simp only [sz_alloc]; omega⟩
        case round =>
          obtain ⟨k, hk, rfl, hR2, hK, hb6, hz6⟩ := hrel
          by_cases hlt : k < 5
          · have hk5 : (k : Int) < 5 := by omega
            have c0 : wr.cell? ⟨w2.heap.size + 1, k, none⟩ = some (.int .i64 (F (k : Int)).2) := by have h := (hR2.out.1 k hlt).2; rw [if_pos hlt] at h; exact h
            have c1 : wr.cell? ⟨w2.heap.size + 1, 0, none⟩ = some (.int .i64 (F 0).2) := (hR2.out.1 0 (by omega)).2
            have c2 : wr.cell? ⟨w2.heap.size, k, none⟩ = some (.int .u64 ((F (k : Int)).1 : Nat)) := by have h := (hR2.out.1 k hlt).1; rw [if_pos hlt] at h; exact h
            have P1 := PA.out (k : Int)
            have P0 := PA.out 0
            have FK : Hid ((F (k : Int)).1 < 18446744073709551616) := FI.out k
            have NK : Hid (nanB false (F (k : Int)).1 = false) := NA.out k
            generalize hr : F (k : Int) = r at c0 c2 P1 FK NK
            generalize hr0 : F 0 = r0 at c1 P0
            have HR := Lib.hid hr; clear hr hr0
            have qn : ∀ dd os, Calls Try.prog 30 #[.int .i64 4, .int .u64 (r.1 : Nat)] (grow (redrawn wr dd) os) fun e w'' => e = .returned (.bool false) ∧ ∃ p : Regrown, w'' = grow (redrawn wr p.d) p.os := fun dd os => q_bool NK.out (nan_4 r.1 FK _)
            go_wp2_with fail
            have K0 := cell_regrown c0
            have K1 := cell_regrown c1
            have K2 := cell_regrown c2
            refine wp_region_quiet_below (by kernel_rfl) (by kernel_rfl) ?_
            repeat (go_big_quiet_step ((go_at_call 30; exact qn _ _)))
            refine wpQuiet_nil ?_
            intro _ hw'
            obtain ⟨⟨dq, osq⟩, hw''⟩ := hw'
            subst hw''
            have hb7 := below_regrown wr dq osq
            generalize grow (redrawn wr dq) osq = w7 at hb7 ⊢
            clear K0 K1 K2 c0 c1 c2 qn P1 P0
            have hz7 := hb7.size
            have hR7 : Hid (Rows2 w7 w2.heap.size (w2.heap.size + 1) 5 F) := rows_below hR2.out hb7 (by omega) (by omega)
            have hK7 : Hid (RowK w7 w5.heap.size k (fun j => keyI false (F j).1)) := rowk_below hK.out hb7 (by omega)
            have c3 : w7.cell? ⟨w2.heap.size, k, none⟩ = some (.int .u64 (r.1 : Nat)) := by have h := (hR7.out.1 k hlt).1; rw [if_pos hlt, HR.out] at h; exact h
            go_wp2_with fail
            refine (key_4 r.1 FK _).mono ?_; rintro e w8 ⟨rfl, hb8⟩
            have hz8 := hb8.size
            have hR8 : Hid (Rows2 w8 w2.heap.size (w2.heap.size + 1) 5 F) := rows_below hR7.out hb8 (by omega) (by omega)
            have hK8 : Hid (RowK w8 w5.heap.size k (fun j => keyI false (F j).1)) := rowk_below hK7.out hb8 (by omega)
            clear c3
            obtain ⟨z, c4⟩ : ∃ z, w8.cell? ⟨w5.heap.size, k, none⟩ = some (.int .i64 z) := ⟨_, hK8.out.1 k hlt⟩
            have d4 := hK8.out.2
            generalize hy : keyI false r.1 = y
            have HY := Lib.hid hy; clear hy
            go_wp2_with fail
            go_roundw
            case rel => exact ⟨k + 1, by omega, by go_num, rows_far hR8.out (by omega) (by omega), rowk_step hK8.out hlt _ (by show y = keyI false (F (k : Int)).1; rw [HR.out, HY.out]), (by repeat (first | (with_reducible first | exact Below.refl _ _ | assumption | exact Nat.le_refl _ | refine Below.drew ?_ | refine Below.alloc ?_ ?_ _ | refine Below.setCell ?_ ?_ _ | refine le_alloc ?_ | refine le_set ?_ | refine le_drew ?_ | refine below_step (by assumption) ?_ ?_ | refine le_below (by assumption) ?_) | (dsimp only; omega))), by simp only [sz_set]; omega⟩
            case measure => simp [intOf]; omega
          · obtain rfl : k = 5 := by omega
            clear hlt hk
            have P0 := PA.out 0
            have S0 : wr.cell? ⟨w2.heap.size + 1, 0, none⟩ = some (.int .i64 (F 0).2) := (hR2.out.1 0 (by omega)).2
            have G0 : wr.cell? ⟨w5.heap.size, 0, none⟩ = some (.int .i64 v) := (hK.out.1 0 (by omega)).trans (by show some (Value.int .i64 (keyI false (F 0).1)) = _; rw [(HV.out 0).2.1])
            have G1 : wr.cell? ⟨w5.heap.size, 1, none⟩ = some (.int .i64 v) := (hK.out.1 1 (by omega)).trans (by show some (Value.int .i64 (keyI false (F 1).1)) = _; rw [(HV.out 1).2.1])
            have G2 : wr.cell? ⟨w5.heap.size, 2, none⟩ = some (.int .i64 v) := (hK.out.1 2 (by omega)).trans (by show some (Value.int .i64 (keyI false (F 2).1)) = _; rw [(HV.out 2).2.1])
            have G3 : wr.cell? ⟨w5.heap.size, 3, none⟩ = some (.int .i64 v) := (hK.out.1 3 (by omega)).trans (by show some (Value.int .i64 (keyI false (F 3).1)) = _; rw [(HV.out 3).2.1])
            have G4 : wr.cell? ⟨w5.heap.size, 4, none⟩ = some (.int .i64 v) := (hK.out.1 4 (by omega)).trans (by show some (Value.int .i64 (keyI false (F 4).1)) = _; rw [(HV.out 4).2.1])
            generalize F 0 = r0 at S0 P0
            go_wp2_with fail
            go_ret
            exact retB_mk (by simp) (by repeat (first | (with_reducible first | exact Below.refl _ _ | assumption | exact Nat.le_refl _ | refine Below.drew ?_ | refine Below.alloc ?_ ?_ _ | refine Below.setCell ?_ ?_ _ | refine le_alloc ?_ | refine le_set ?_ | refine le_drew ?_ | refine below_step (by assumption) ?_ ?_ | refine le_below (by assumption) ?_) | (dsimp only; omega)))
      · obtain ⟨v, hv⟩ := hC
        have HV := Lib.hid hv; clear hv
        have FI : Hid (∀ j, (F j).1 < 18446744073709551616) := fun j => (HV.out j).1.1
        have NA : Hid (∀ j, nanB false (F j).1 = false) := fun j => (HV.out j).1.2
        have PA : Hid (∀ j, bits .and .i64 (F j).2 1 = 1) := fun j => par_odd (HV.out j).2.1
        have R0 : wr.cell? ⟨w2.heap.size, 0, none⟩ = some (.int .u64 ((F 0).1 : Nat)) := (hR.out.1 0 (by omega)).1
        go_wp2_with fail
        refine (nan_4 (F 0).1 (FI.out 0) _).mono ?_; rintro e w5 ⟨rfl, hb5⟩
        rw [NA.out 0]
        clear R0
        have hR5 : Hid (Rows2 w5 w2.heap.size (w2.heap.size + 1) 5 F) := rows_below hR.out hb5 (by omega) hz
        have hz5 := hb5.size
        have hbw5 : Below w.heap.size w w5 := below_step hb5 hbw (by omega)
        go_wp2_with fail
        go_loopw [16] (fun i wr => ∃ k : Nat, k ≤ 5 ∧ i = .int .i64 k ∧ Hid (Rows2 wr w2.heap.size (w2.heap.size + 1) 5 F) ∧ Hid (RowK wr w5.heap.size k (fun j => keyI false (F j).1)) ∧ Below w.heap.size w wr ∧ w5.heap.size < wr.heap.size) (fun i _ => 5 - (intOf i).toNat)
        case atStart => exact ⟨0, by omega, rfl, rows_below hR5.out ((Below.refl _ _).alloc (Nat.le_refl _) _) (by omega) (by omega), rowk_start _ _ _, (by repeat (first | (with_reducible first | exact Below.refl _ _ | assumption | exact Nat.le_refl _ | refine Below.drew ?_ | refine Below.alloc ?_ ?_ _ | refine Below.setCell ?_ ?_ _ | refine le_alloc ?_ | refine le_set ?_ | refine le_drew ?_ | refine below_step (by assumption) ?_ ?_ | refine le_below (by assumption) ?_) | (dsimp only; omega))), by simp only [sz_alloc]; omega⟩
        case round =>
          obtain ⟨k, hk, rfl, hR2, hK, hb6, hz6⟩ := hrel
          by_cases hlt : k < 5
          · have hk5 : (k : Int) < 5 := by omega
            have c0 : wr.cell? ⟨w2.heap.size + 1, k, none⟩ = some (.int .i64 (F (k : Int)).2) := by have h := (hR2.out.1 k hlt).2; rw [if_pos hlt] at h; exact h
            have c1 : wr.cell? ⟨w2.heap.size + 1, 0, none⟩ = some (.int .i64 (F 0).2) := (hR2.out.1 0 (by omega)).2
            have c2 : wr.cell? ⟨w2.heap.size, k, none⟩ = some (.int .u64 ((F (k : Int)).1 : Nat)) := by have h := (hR2.out.1 k hlt).1; rw [if_pos hlt] at h; exact h
            have P1 := PA.out (k : Int)
            have P0 := PA.out 0
            have FK : Hid ((F (k : Int)).1 < 18446744073709551616) := FI.out k
            have NK : Hid (nanB false (F (k : Int)).1 = false) := NA.out k
            generalize hr : F (k : Int) = r at c0 c2 P1 FK NK
            generalize hr0 : F 0 = r0 at c1 P0
            have HR := Lib.hid hr; clear hr hr0
            have qn : ∀ dd os, Calls Try.prog 30 #[.int .i64 4, .int .u64 (r.1 : Nat)] (grow (redrawn wr dd) os) fun e w'' => e = .returned (.bool false) ∧ ∃ p : Regrown, w'' = grow (redrawn wr p.d) p.os := fun dd os => q_bool NK.out (nan_4 r.1 FK _)
            go_wp2_with fail
            have K0 := cell_regrown c0
            have K1 := cell_regrown c1
            have K2 := cell_regrown c2
            refine wp_region_quiet_below (by kernel_rfl) (by kernel_rfl) ?_
            repeat (go_big_quiet_step ((go_at_call 30; exact qn _ _)))
            refine wpQuiet_nil ?_
            intro _ hw'
            obtain ⟨⟨dq, osq⟩, hw''⟩ := hw'
            subst hw''
            have hb7 := below_regrown wr dq osq
            generalize grow (redrawn wr dq) osq = w7 at hb7 ⊢
            clear K0 K1 K2 c0 c1 c2 qn P1 P0
            have hz7 := hb7.size
            have hR7 : Hid (Rows2 w7 w2.heap.size (w2.heap.size + 1) 5 F) := rows_below hR2.out hb7 (by omega) (by omega)
            have hK7 : Hid (RowK w7 w5.heap.size k (fun j => keyI false (F j).1)) := rowk_below hK.out hb7 (by omega)
            have c3 : w7.cell? ⟨w2.heap.size, k, none⟩ = some (.int .u64 (r.1 : Nat)) := by have h := (hR7.out.1 k hlt).1; rw [if_pos hlt, HR.out] at h; exact h
            go_wp2_with fail
            refine (key_4 r.1 FK _).mono ?_; rintro e w8 ⟨rfl, hb8⟩
            have hz8 := hb8.size
            have hR8 : Hid (Rows2 w8 w2.heap.size (w2.heap.size + 1) 5 F) := rows_below hR7.out hb8 (by omega) (by omega)
            have hK8 : Hid (RowK w8 w5.heap.size k (fun j => keyI false (F j).1)) := rowk_below hK7.out hb8 (by omega)
            clear c3
            obtain ⟨z, c4⟩ : ∃ z, w8.cell? ⟨w5.heap.size, k, none⟩ = some (.int .i64 z) := ⟨_, hK8.out.1 k hlt⟩
            have d4 := hK8.out.2
            generalize hy : keyI false r.1 = y
            have HY := Lib.hid hy; clear hy
            go_wp2_with fail
            go_roundw
            case rel => exact ⟨k + 1, by omega, by go_num, rows_far hR8.out (by omega) (by omega), rowk_step hK8.out hlt _ (by show y = keyI false (F (k : Int)).1; rw [HR.out, HY.out]), (by repeat (first | (with_reducible first | exact Below.refl _ _ | assumption | exact Nat.le_refl _ | refine Below.drew ?_ | refine Below.alloc ?_ ?_ _ | refine Below.setCell ?_ ?_ _ | refine le_alloc ?_ | refine le_set ?_ | refine le_drew ?_ | refine below_step (by assumption) ?_ ?_ | refine le_below (by assumption) ?_) | (dsimp only; omega))), by simp only [sz_set]; omega⟩
            case measure => simp [intOf]; omega
          · obtain rfl : k = 5 := by omega
            clear hlt hk
            have P0 := PA.out 0
            have S0 : wr.cell? ⟨w2.heap.size + 1, 0, none⟩ = some (.int .i64 (F 0).2) := (hR2.out.1 0 (by omega)).2
            obtain ⟨q0, q0'⟩ : ∃ x, keyI false (F 0).1 = x ∧ (x = v ∨ x = v + 1) := ⟨_, rfl, (HV.out 0).2.2.1⟩
            obtain ⟨q4, q4'⟩ : ∃ x, keyI false (F 4).1 = x ∧ (x = v ∨ x = v + 1) := ⟨_, rfl, (HV.out 4).2.2.1⟩
            obtain ⟨q1, q1'⟩ : ∃ x, keyI false (F 1).1 = x ∧ x = if 0 ≤ v then v else v + 1 := ⟨_, rfl, (HV.out 1).2.2.2.1 rfl⟩
            have G0 : wr.cell? ⟨w5.heap.size, 0, none⟩ = some (.int .i64 q0) := (hK.out.1 0 (by omega)).trans (by show some (Value.int .i64 (keyI false (F 0).1)) = _; rw [q0'.1])
            have G1 : wr.cell? ⟨w5.heap.size, 1, none⟩ = some (.int .i64 q1) := (hK.out.1 1 (by omega)).trans (by show some (Value.int .i64 (keyI false (F 1).1)) = _; rw [q1'.1])
            have G2 : wr.cell? ⟨w5.heap.size, 2, none⟩ = some (.int .i64 v) := (hK.out.1 2 (by omega)).trans (by show some (Value.int .i64 (keyI false (F 2).1)) = _; rw [(HV.out 2).2.2.2.2.1 rfl])
            have G3 : wr.cell? ⟨w5.heap.size, 3, none⟩ = some (.int .i64 (v + 1)) := (hK.out.1 3 (by omega)).trans (by show some (Value.int .i64 (keyI false (F 3).1)) = _; rw [(HV.out 3).2.2.2.2.2 rfl])
            have G4 : wr.cell? ⟨w5.heap.size, 4, none⟩ = some (.int .i64 q4) := (hK.out.1 4 (by omega)).trans (by show some (Value.int .i64 (keyI false (F 4).1)) = _; rw [q4'.1])
            have v1 : -9223372036854775807 ≤ v := by have h := keyI_bd false (F 2).1; rw [(HV.out 2).2.2.2.2.1 rfl] at h; exact h.1
            have v2 : v + 1 ≤ 9223372036854775807 := by have h := keyI_bd false (F 3).1; rw [(HV.out 3).2.2.2.2.2 rfl] at h; exact h.2
            have o0 := q0'.2
            have o4 := q4'.2
            have o1 := q1'.2
            clear q0' q4' q1'
            generalize F 0 = r0 at S0 P0
            by_cases hv0 : 0 ≤ v
            · rw [if_pos hv0] at o1
              subst o1
              rcases o0 with rfl | rfl <;> rcases o4 with rfl | rfl
              all_goals
                go_wp2_with fail
                go_ret
                exact retB_mk (by simp) (by repeat (first | (with_reducible first | exact Below.refl _ _ | assumption | exact Nat.le_refl _ | refine Below.drew ?_ | refine Below.alloc ?_ ?_ _ | refine Below.setCell ?_ ?_ _ | refine le_alloc ?_ | refine le_set ?_ | refine le_drew ?_ | refine below_step (by assumption) ?_ ?_ | refine le_below (by assumption) ?_) | (dsimp only; omega)))
            · rw [if_neg hv0] at o1
              subst o1
              rcases o0 with rfl | rfl <;> rcases o4 with rfl | rfl
              all_goals
                go_wp2_with fail
                go_ret
                exact retB_mk (by simp) (by repeat (first | (with_reducible first | exact Below.refl _ _ | assumption | exact Nat.le_refl _ | refine Below.drew ?_ | refine Below.alloc ?_ ?_ _ | refine Below.setCell ?_ ?_ _ | refine le_alloc ?_ | refine le_set ?_ | refine le_drew ?_ | refine below_step (by assumption) ?_ ?_ | refine le_below (by assumption) ?_) | (dsimp only; omega)))
end Go.Proofs.Ytcjpmmhkaacpfaa
