/- The reference's whole. -/
import Derived.Test.YtlohpakcikkdmaaR14
namespace Go.Proofs.Ytlohpakcikkdmaa
open Go.ChangeShapes Go.WideShapes Go.ChangeAt Go.RowKit
set_option linter.unusedVariables false
set_option linter.unusedSimpArgs false
set_option maxRecDepth 100000 in
set_option maxHeartbeats 16000000 in
theorem whole_c (w : World) : Calls Try.prog 27 #[] w (RetO (wh8 4) w) := by
  go_enter Try.func27, Try.ntmps27
  go_wp2_with fail
  refine (op_c 55 1 ⟨#[100, 85]⟩ _).mono ?_; rintro e w1 ⟨rfl, hb1⟩
  go_wp2_with fail
  refine (op_c 23 2 ⟨#[100, 85]⟩ _).mono ?_; rintro e w2 ⟨rfl, hb2⟩
  go_wp2_with fail
  refine (op_c 111 3 ⟨#[100, 74]⟩ _).mono ?_; rintro e w3 ⟨rfl, hb3⟩
  go_wp2_with fail
  refine (op3_c 103 0 (by decide) (by decide) 4 ⟨#[100, 49, 73]⟩ _).mono ?_; rintro e w4 ⟨rfl, hb4⟩
  have hz1 := hb1.size; have hz2 := hb2.size; have hz3 := hb3.size; have hz4 := hb4.size
  go_wp2_with fail
  have hO : Hid (OwnT (w4.alloc (Obj.cells (cellsQs wh0).toArray 50)) w.heap.size (.slice (some ⟨w4.heap.size, 0, none⟩) 4 4) (wh1 0)) := own_built w4 w.heap.size 4 _ (wh1 0) (by omega) rfl (by decide) rfl
  obtain ⟨B, hB⟩ : ∃ B, B = w4.heap.size + 1 := ⟨_, rfl⟩
  have hBl : w.heap.size ≤ B := by omega
  go_loopw [1, 3] (fun l i wr => ∃ k : Nat, k ≤ 6 ∧ i = .int .i64 k ∧ Hid (OwnT wr w.heap.size l (wh1 k)) ∧ Hid (Apart l (w4.heap.size + 1) (w4.heap.size + 1 + 1)) ∧ Hid (NumsAt wr (w4.heap.size + 1) .u32 [0, 1, 4, 5, 6, 7]) ∧ Below w.heap.size w wr ∧ w4.heap.size + 1 + 1 ≤ wr.heap.size) (fun _ i _ => 6 - (intOf i).toNat)
  case atStart =>
    refine ⟨0, by omega, rfl, own_alloc hO.out _, ?_, ?_, (by repeat (first | (with_reducible first | exact Below.refl _ _ | assumption | exact Nat.le_refl _ | refine Below.drew ?_ | refine Below.alloc ?_ ?_ _ | refine Below.setCell ?_ ?_ _ | refine le_alloc ?_ | refine le_set ?_ | refine le_drew ?_ | refine below_step (by assumption) ?_ ?_ | refine le_below (by assumption) ?_) | (dsimp only; omega))), by simp only [sz_alloc]; omega⟩
    · intro k hk; have : k = w4.heap.size := by simpa [Value.ownBlock] using hk.symm
      omega
    · intro o ho
      have : o = 0 ∨ o = 1 ∨ o = 2 ∨ o = 3 ∨ o = 4 ∨ o = 5 := by simp at ho; omega
      rcases this with rfl | rfl | rfl | rfl | rfl | rfl <;> (go_simp)
  case round =>
    obtain ⟨k, hk, rfl, hL, hA, hN, hbw, hz⟩ := hrel
    by_cases hlt : k < 6
    · have hlt' : (k : Int) < 6 := by omega
      have n1 : wr.cell? ⟨w4.heap.size + 1, k, none⟩ = some (.int .u32 (brF k : Nat)) := by
        rw [hN.out k hlt]
        have : k = 0 ∨ k = 1 ∨ k = 2 ∨ k = 3 ∨ k = 4 ∨ k = 5 := by omega
        rcases this with rfl | rfl | rfl | rfl | rfl | rfl <;> rfl
      have CA : Hid (∀ v, Calls Try.prog 37 #[.int .u32 99, .int .u32 (brF k : Nat), .int .i64 (5 + (k : Int)), .string ⟨#[49, 50, 66]⟩] v (RetQ 28799 (b3 99 (brF k) : Nat) (5 + k) ⟨#[49, 50, 66]⟩ 0 false false v)) := fun v => op3_c 99 (brF k) (by decide) (by have := brF_lt k hlt; omega) (5 + k) ⟨#[49, 50, 66]⟩ v
      clear hB hBl
      go_wp2_with fail
      refine (CA.out _).mono ?_; rintro e w5 ⟨rfl, hb5⟩
      have hz5 := hb5.size; have hz0 := hbw.size
      have hL5 := Lib.hid (own_below hL.out hb5)
      go_wp2_with (at_builtin; refine append_q rfl (.tmp 23) (.tmp 31) rfl w.heap.size u1 (wh1 k) (by simp [Act.eval, Act.put]) (own_alloc hL5.out _) (wh1_len k hk) w5.heap.size (.slice (some ⟨w5.heap.size, 0, none⟩) 1 1) [op3W 99 (brF k) (5 + k) ⟨#[49, 50, 66]⟩ 0 false false] (by simp [Act.eval, Act.put]) (own_built w5 w5.heap.size 1 _ _ (Nat.le_refl _) rfl (by decide) rfl) ⟨by simp, by simp⟩ (by rw [sz_alloc]; omega) ?_; intro v' w' q1 q2 q3)
      obtain ⟨r1, r2, r3, r4⟩ := round_q hbw hL.out hA.out hz q2 q3 (hb5.alloc hz5 _)
      have A1 := Lib.hid (r4 _ _ _ (Nat.le_refl _) (by omega) hN.out)
      have Q1 : Hid (OwnT w' w.heap.size v' (wh1 (k + 1))) := q1
      clear q1 q2 q3 r4
      go_wp2_with fail
      go_roundw
      case rel => exact ⟨k + 1, by omega, by go_num, Q1, r3, A1, r1, by omega⟩
      case measure => simp [intOf]; omega
    · obtain rfl : k = 6 := by omega
      have hlt' : ¬ (((6 : Nat) : Int) < 6) := by omega
      go_wp2_with fail
      have HL : Hid (OwnT wr w.heap.size u1 (wh2 0)) := hL.out
      have HW := hbw
      clear hL hA hN hz hO hlt' hbw
      rename_i wp
      go_loopw [1, 4] (fun l i wr => ∃ k : Nat, k ≤ 4 ∧ i = .int .i64 k ∧ Hid (OwnT wr w.heap.size l (wh2 k)) ∧ Below w.heap.size w wr) (fun _ i _ => 4 - (intOf i).toNat)
      case atStart => exact ⟨0, by omega, rfl, HL, HW⟩
      case round =>
        clear HL HW
        obtain ⟨k, hk, rfl, hL, hbw⟩ := hrel
        have hkc : k = 0 ∨ k = 1 ∨ k = 2 ∨ k = 3 ∨ k = 4 := by omega
        clear hk
        rcases hkc with rfl | rfl | rfl | rfl | rfl
        · skip
          go_wp2_with fail
          have C11 := Lib.hid (fun v => op3_c 3 0 (by decide) (by decide) 11 ⟨#[100, 49, 73]⟩ v)
          have C12 := Lib.hid (fun v => sized_c 28799 (b3 3 0 : Nat) 11 ⟨#[100, 49, 73]⟩ 0 false false 1 v)
          have C13 := Lib.hid (fun v => op3_c 35 0 (by decide) (by decide) 12 ⟨#[49, 50, 83]⟩ v)
          have C14 := Lib.hid (fun v => sized_c 28799 (b3 35 0 : Nat) 12 ⟨#[49, 50, 83]⟩ 0 false false 1 v)
          go_region_law (first | (refine step_go rfl 37 _ Try.func37 (by kernel_rfl) _ rfl _ _ rfl _ ?_ _ (fun w' => Below _ _ w') (C11.out _) ?_; (focus (first | (simp [Act.eval, Act.put]; done) | (simp [Act.eval, Act.put]; decide))); intro w11 hb11) | (refine step_go rfl 38 _ Try.func38 (by kernel_rfl) _ rfl _ _ rfl _ ?_ _ (fun w' => Below _ _ w') (C12.out _) ?_; (focus (first | (simp [Act.eval, Act.put]; done) | (simp [Act.eval, Act.put]; decide))); intro w12 hb12) | (refine step_go rfl 37 _ Try.func37 (by kernel_rfl) _ rfl _ _ rfl _ ?_ _ (fun w' => Below _ _ w') (C13.out _) ?_; (focus (first | (simp [Act.eval, Act.put]; done) | (simp [Act.eval, Act.put]; decide))); intro w13 hb13) | (refine step_go rfl 38 _ Try.func38 (by kernel_rfl) _ rfl _ _ rfl _ ?_ _ (fun w' => Below _ _ w') (C14.out _) ?_; (focus (first | (simp [Act.eval, Act.put]; done) | (simp [Act.eval, Act.put]; decide))); intro w14 hb14) | (refine step_append_q rfl (.tmp 37) (.tmp 50) rfl w.heap.size u1 (wh2 0) (by simp [Act.eval, Act.put]) (own_below hL.out (by repeat (first | (with_reducible first | exact Below.refl _ _ | assumption | exact Nat.le_refl _ | refine Below.drew ?_ | refine Below.alloc ?_ ?_ _ | refine Below.setCell ?_ ?_ _ | refine le_alloc ?_ | refine le_set ?_ | refine le_drew ?_ | refine below_step (by assumption) ?_ ?_ | refine le_below (by assumption) ?_) | (dsimp only; omega)))) (wh2_len 0 (by decide)) w14.heap.size (.slice (some ⟨w14.heap.size, 0, none⟩) 2 2) [op3W 3 0 11 ⟨#[100, 49, 73]⟩ 1 false false, op3W 35 0 12 ⟨#[49, 50, 83]⟩ 1 false false] (by simp [Act.eval, Act.put]) (own_built w14 w14.heap.size 2 _ _ (Nat.le_refl _) rfl (by decide) rfl) ⟨by simp, by simp⟩ (by repeat (first | (with_reducible first | exact Below.refl _ _ | assumption | exact Nat.le_refl _ | refine Below.drew ?_ | refine Below.alloc ?_ ?_ _ | refine Below.setCell ?_ ?_ _ | refine le_alloc ?_ | refine le_set ?_ | refine le_drew ?_ | refine below_step (by assumption) ?_ ?_ | refine le_below (by assumption) ?_) | (dsimp only; omega))) ?_; intro v15 x15 q1 q2 q3))
          have r1_15 := grow_q hbw (by repeat (first | (with_reducible first | exact Below.refl _ _ | assumption | exact Nat.le_refl _ | refine Below.drew ?_ | refine Below.alloc ?_ ?_ _ | refine Below.setCell ?_ ?_ _ | refine le_alloc ?_ | refine le_set ?_ | refine le_drew ?_ | refine below_step (by assumption) ?_ ?_ | refine le_below (by assumption) ?_) | (dsimp only; omega))) hL.out q2
          have Q15 : Hid (OwnT x15 w.heap.size v15 (wh2 1)) := q1
          clear q1 q2 q3
          go_wp2_with fail
          go_roundw
          case rel => first | exact ⟨1, by omega, by first | rfl | go_num, Q15, r1_15⟩ | ((repeat apply Exists.intro); exact ⟨⟨1, by omega, by first | rfl | go_num, Q15, r1_15⟩, rfl⟩)
          case measure => simp [intOf]
        · skip
          go_wp2_with fail
          have C16 := Lib.hid (fun v => op3_c 3 1 (by decide) (by decide) 11 ⟨#[100, 49, 73]⟩ v)
          have C17 := Lib.hid (fun v => sized_c 28799 (b3 3 1 : Nat) 11 ⟨#[100, 49, 73]⟩ 0 false false 2 v)
          have C18 := Lib.hid (fun v => op3_c 35 1 (by decide) (by decide) 12 ⟨#[49, 50, 83]⟩ v)
          have C19 := Lib.hid (fun v => sized_c 28799 (b3 35 1 : Nat) 12 ⟨#[49, 50, 83]⟩ 0 false false 2 v)
          go_region_law (first | (refine step_go rfl 37 _ Try.func37 (by kernel_rfl) _ rfl _ _ rfl _ ?_ _ (fun w' => Below _ _ w') (C16.out _) ?_; (focus (first | (simp [Act.eval, Act.put]; done) | (simp [Act.eval, Act.put]; decide))); intro w16 hb16) | (refine step_go rfl 38 _ Try.func38 (by kernel_rfl) _ rfl _ _ rfl _ ?_ _ (fun w' => Below _ _ w') (C17.out _) ?_; (focus (first | (simp [Act.eval, Act.put]; done) | (simp [Act.eval, Act.put]; decide))); intro w17 hb17) | (refine step_go rfl 37 _ Try.func37 (by kernel_rfl) _ rfl _ _ rfl _ ?_ _ (fun w' => Below _ _ w') (C18.out _) ?_; (focus (first | (simp [Act.eval, Act.put]; done) | (simp [Act.eval, Act.put]; decide))); intro w18 hb18) | (refine step_go rfl 38 _ Try.func38 (by kernel_rfl) _ rfl _ _ rfl _ ?_ _ (fun w' => Below _ _ w') (C19.out _) ?_; (focus (first | (simp [Act.eval, Act.put]; done) | (simp [Act.eval, Act.put]; decide))); intro w19 hb19) | (refine step_append_q rfl (.tmp 37) (.tmp 50) rfl w.heap.size u1 (wh2 1) (by simp [Act.eval, Act.put]) (own_below hL.out (by repeat (first | (with_reducible first | exact Below.refl _ _ | assumption | exact Nat.le_refl _ | refine Below.drew ?_ | refine Below.alloc ?_ ?_ _ | refine Below.setCell ?_ ?_ _ | refine le_alloc ?_ | refine le_set ?_ | refine le_drew ?_ | refine below_step (by assumption) ?_ ?_ | refine le_below (by assumption) ?_) | (dsimp only; omega)))) (wh2_len 1 (by decide)) w19.heap.size (.slice (some ⟨w19.heap.size, 0, none⟩) 2 2) [op3W 3 1 11 ⟨#[100, 49, 73]⟩ 2 false false, op3W 35 1 12 ⟨#[49, 50, 83]⟩ 2 false false] (by simp [Act.eval, Act.put]) (own_built w19 w19.heap.size 2 _ _ (Nat.le_refl _) rfl (by decide) rfl) ⟨by simp, by simp⟩ (by repeat (first | (with_reducible first | exact Below.refl _ _ | assumption | exact Nat.le_refl _ | refine Below.drew ?_ | refine Below.alloc ?_ ?_ _ | refine Below.setCell ?_ ?_ _ | refine le_alloc ?_ | refine le_set ?_ | refine le_drew ?_ | refine below_step (by assumption) ?_ ?_ | refine le_below (by assumption) ?_) | (dsimp only; omega))) ?_; intro v20 x20 q1 q2 q3))
          have r1_20 := grow_q hbw (by repeat (first | (with_reducible first | exact Below.refl _ _ | assumption | exact Nat.le_refl _ | refine Below.drew ?_ | refine Below.alloc ?_ ?_ _ | refine Below.setCell ?_ ?_ _ | refine le_alloc ?_ | refine le_set ?_ | refine le_drew ?_ | refine below_step (by assumption) ?_ ?_ | refine le_below (by assumption) ?_) | (dsimp only; omega))) hL.out q2
          have Q20 : Hid (OwnT x20 w.heap.size v20 (wh2 2)) := q1
          clear q1 q2 q3
          go_wp2_with fail
          go_roundw
          case rel => first | exact ⟨2, by omega, by first | rfl | go_num, Q20, r1_20⟩ | ((repeat apply Exists.intro); exact ⟨⟨2, by omega, by first | rfl | go_num, Q20, r1_20⟩, rfl⟩)
          case measure => simp [intOf]
        · skip
          go_wp2_with fail
          have C21 := Lib.hid (fun v => op3_c 3 2 (by decide) (by decide) 11 ⟨#[100, 49, 73]⟩ v)
          have C22 := Lib.hid (fun v => sized_c 28799 (b3 3 2 : Nat) 11 ⟨#[100, 49, 73]⟩ 0 false false 4 v)
          have C23 := Lib.hid (fun v => op3_c 35 2 (by decide) (by decide) 12 ⟨#[49, 50, 83]⟩ v)
          have C24 := Lib.hid (fun v => sized_c 28799 (b3 35 2 : Nat) 12 ⟨#[49, 50, 83]⟩ 0 false false 4 v)
          go_region_law (first | (refine step_go rfl 37 _ Try.func37 (by kernel_rfl) _ rfl _ _ rfl _ ?_ _ (fun w' => Below _ _ w') (C21.out _) ?_; (focus (first | (simp [Act.eval, Act.put]; done) | (simp [Act.eval, Act.put]; decide))); intro w21 hb21) | (refine step_go rfl 38 _ Try.func38 (by kernel_rfl) _ rfl _ _ rfl _ ?_ _ (fun w' => Below _ _ w') (C22.out _) ?_; (focus (first | (simp [Act.eval, Act.put]; done) | (simp [Act.eval, Act.put]; decide))); intro w22 hb22) | (refine step_go rfl 37 _ Try.func37 (by kernel_rfl) _ rfl _ _ rfl _ ?_ _ (fun w' => Below _ _ w') (C23.out _) ?_; (focus (first | (simp [Act.eval, Act.put]; done) | (simp [Act.eval, Act.put]; decide))); intro w23 hb23) | (refine step_go rfl 38 _ Try.func38 (by kernel_rfl) _ rfl _ _ rfl _ ?_ _ (fun w' => Below _ _ w') (C24.out _) ?_; (focus (first | (simp [Act.eval, Act.put]; done) | (simp [Act.eval, Act.put]; decide))); intro w24 hb24) | (refine step_append_q rfl (.tmp 37) (.tmp 50) rfl w.heap.size u1 (wh2 2) (by simp [Act.eval, Act.put]) (own_below hL.out (by repeat (first | (with_reducible first | exact Below.refl _ _ | assumption | exact Nat.le_refl _ | refine Below.drew ?_ | refine Below.alloc ?_ ?_ _ | refine Below.setCell ?_ ?_ _ | refine le_alloc ?_ | refine le_set ?_ | refine le_drew ?_ | refine below_step (by assumption) ?_ ?_ | refine le_below (by assumption) ?_) | (dsimp only; omega)))) (wh2_len 2 (by decide)) w24.heap.size (.slice (some ⟨w24.heap.size, 0, none⟩) 2 2) [op3W 3 2 11 ⟨#[100, 49, 73]⟩ 4 false false, op3W 35 2 12 ⟨#[49, 50, 83]⟩ 4 false false] (by simp [Act.eval, Act.put]) (own_built w24 w24.heap.size 2 _ _ (Nat.le_refl _) rfl (by decide) rfl) ⟨by simp, by simp⟩ (by repeat (first | (with_reducible first | exact Below.refl _ _ | assumption | exact Nat.le_refl _ | refine Below.drew ?_ | refine Below.alloc ?_ ?_ _ | refine Below.setCell ?_ ?_ _ | refine le_alloc ?_ | refine le_set ?_ | refine le_drew ?_ | refine below_step (by assumption) ?_ ?_ | refine le_below (by assumption) ?_) | (dsimp only; omega))) ?_; intro v25 x25 q1 q2 q3))
          have r1_25 := grow_q hbw (by repeat (first | (with_reducible first | exact Below.refl _ _ | assumption | exact Nat.le_refl _ | refine Below.drew ?_ | refine Below.alloc ?_ ?_ _ | refine Below.setCell ?_ ?_ _ | refine le_alloc ?_ | refine le_set ?_ | refine le_drew ?_ | refine below_step (by assumption) ?_ ?_ | refine le_below (by assumption) ?_) | (dsimp only; omega))) hL.out q2
          have Q25 : Hid (OwnT x25 w.heap.size v25 (wh2 3)) := q1
          clear q1 q2 q3
          go_wp2_with fail
          go_roundw
          case rel => first | exact ⟨3, by omega, by first | rfl | go_num, Q25, r1_25⟩ | ((repeat apply Exists.intro); exact ⟨⟨3, by omega, by first | rfl | go_num, Q25, r1_25⟩, rfl⟩)
          case measure => simp [intOf]
        · skip
          go_wp2_with fail
          have C26 := Lib.hid (fun v => op3_c 3 3 (by decide) (by decide) 11 ⟨#[100, 49, 73]⟩ v)
          have C27 := Lib.hid (fun v => sized_c 28799 (b3 3 3 : Nat) 11 ⟨#[100, 49, 73]⟩ 0 false false 8 v)
          have C28 := Lib.hid (fun v => op3_c 35 3 (by decide) (by decide) 12 ⟨#[49, 50, 83]⟩ v)
          have C29 := Lib.hid (fun v => sized_c 28799 (b3 35 3 : Nat) 12 ⟨#[49, 50, 83]⟩ 0 false false 8 v)
          go_region_law (first | (refine step_go rfl 37 _ Try.func37 (by kernel_rfl) _ rfl _ _ rfl _ ?_ _ (fun w' => Below _ _ w') (C26.out _) ?_; (focus (first | (simp [Act.eval, Act.put]; done) | (simp [Act.eval, Act.put]; decide))); intro w26 hb26) | (refine step_go rfl 38 _ Try.func38 (by kernel_rfl) _ rfl _ _ rfl _ ?_ _ (fun w' => Below _ _ w') (C27.out _) ?_; (focus (first | (simp [Act.eval, Act.put]; done) | (simp [Act.eval, Act.put]; decide))); intro w27 hb27) | (refine step_go rfl 37 _ Try.func37 (by kernel_rfl) _ rfl _ _ rfl _ ?_ _ (fun w' => Below _ _ w') (C28.out _) ?_; (focus (first | (simp [Act.eval, Act.put]; done) | (simp [Act.eval, Act.put]; decide))); intro w28 hb28) | (refine step_go rfl 38 _ Try.func38 (by kernel_rfl) _ rfl _ _ rfl _ ?_ _ (fun w' => Below _ _ w') (C29.out _) ?_; (focus (first | (simp [Act.eval, Act.put]; done) | (simp [Act.eval, Act.put]; decide))); intro w29 hb29) | (refine step_append_q rfl (.tmp 37) (.tmp 50) rfl w.heap.size u1 (wh2 3) (by simp [Act.eval, Act.put]) (own_below hL.out (by repeat (first | (with_reducible first | exact Below.refl _ _ | assumption | exact Nat.le_refl _ | refine Below.drew ?_ | refine Below.alloc ?_ ?_ _ | refine Below.setCell ?_ ?_ _ | refine le_alloc ?_ | refine le_set ?_ | refine le_drew ?_ | refine below_step (by assumption) ?_ ?_ | refine le_below (by assumption) ?_) | (dsimp only; omega)))) (wh2_len 3 (by decide)) w29.heap.size (.slice (some ⟨w29.heap.size, 0, none⟩) 2 2) [op3W 3 3 11 ⟨#[100, 49, 73]⟩ 8 false false, op3W 35 3 12 ⟨#[49, 50, 83]⟩ 8 false false] (by simp [Act.eval, Act.put]) (own_built w29 w29.heap.size 2 _ _ (Nat.le_refl _) rfl (by decide) rfl) ⟨by simp, by simp⟩ (by repeat (first | (with_reducible first | exact Below.refl _ _ | assumption | exact Nat.le_refl _ | refine Below.drew ?_ | refine Below.alloc ?_ ?_ _ | refine Below.setCell ?_ ?_ _ | refine le_alloc ?_ | refine le_set ?_ | refine le_drew ?_ | refine below_step (by assumption) ?_ ?_ | refine le_below (by assumption) ?_) | (dsimp only; omega))) ?_; intro v30 x30 q1 q2 q3))
          have r1_30 := grow_q hbw (by repeat (first | (with_reducible first | exact Below.refl _ _ | assumption | exact Nat.le_refl _ | refine Below.drew ?_ | refine Below.alloc ?_ ?_ _ | refine Below.setCell ?_ ?_ _ | refine le_alloc ?_ | refine le_set ?_ | refine le_drew ?_ | refine below_step (by assumption) ?_ ?_ | refine le_below (by assumption) ?_) | (dsimp only; omega))) hL.out q2
          have Q30 : Hid (OwnT x30 w.heap.size v30 (wh2 4)) := q1
          clear q1 q2 q3
          go_wp2_with fail
          go_roundw
          case rel => first | exact ⟨4, by omega, by first | rfl | go_num, Q30, r1_30⟩ | ((repeat apply Exists.intro); exact ⟨⟨4, by omega, by first | rfl | go_num, Q30, r1_30⟩, rfl⟩)
          case measure => simp [intOf]
        · skip
          
          go_wp2_with fail
          have HL31 : Hid (OwnT wr w.heap.size u1 (wh3 0)) := hL.out
          have HW31 := hbw
          clear hL hbw
          rename_i wp31
          go_loopw [1, 5] (fun l i wr => ∃ k : Nat, k ≤ 3 ∧ i = .int .i64 k ∧ Hid (OwnT wr w.heap.size l (wh3 k)) ∧ Below w.heap.size w wr) (fun _ i _ => 3 - (intOf i).toNat)
          case atStart => exact ⟨0, by omega, rfl, HL31, HW31⟩
          case round =>
            clear HL31 HW31
            obtain ⟨k, hk, rfl, hL, hbw⟩ := hrel
            have hkc : k = 0 ∨ k = 1 ∨ k = 2 ∨ k = 3 := by omega
            clear hk
            rcases hkc with rfl | rfl | rfl | rfl
            · skip
              go_wp2_with fail
              have C32 := Lib.hid (fun v => op3_c 3 4 (by decide) (by decide) 11 ⟨#[100, 49, 73]⟩ v)
              have C33 := Lib.hid (fun v => sized_c 28799 (b3 3 4 : Nat) 11 ⟨#[100, 49, 73]⟩ 0 false false 1 v)
              have C34 := Lib.hid (fun v => worded_c 28799 (b3 3 4 : Nat) 11 ⟨#[100, 49, 73]⟩ 1 false false false true v)
              go_region_law (first | (refine step_go rfl 37 _ Try.func37 (by kernel_rfl) _ rfl _ _ rfl _ ?_ _ (fun w' => Below _ _ w') (C32.out _) ?_; (focus (first | (simp [Act.eval, Act.put]; done) | (simp [Act.eval, Act.put]; decide))); intro w32 hb32) | (refine step_go rfl 38 _ Try.func38 (by kernel_rfl) _ rfl _ _ rfl _ ?_ _ (fun w' => Below _ _ w') (C33.out _) ?_; (focus (first | (simp [Act.eval, Act.put]; done) | (simp [Act.eval, Act.put]; decide))); intro w33 hb33) | (refine step_go rfl 39 _ Try.func39 (by kernel_rfl) _ rfl _ _ rfl _ ?_ _ (fun w' => Below _ _ w') (C34.out _) ?_; (focus (first | (simp [Act.eval, Act.put]; done) | (simp [Act.eval, Act.put]; decide))); intro w34 hb34) | (refine step_append_q rfl (.tmp 56) (.tmp 65) rfl w.heap.size u1 (wh3 0) (by simp [Act.eval, Act.put]) (own_below hL.out (by repeat (first | (with_reducible first | exact Below.refl _ _ | assumption | exact Nat.le_refl _ | refine Below.drew ?_ | refine Below.alloc ?_ ?_ _ | refine Below.setCell ?_ ?_ _ | refine le_alloc ?_ | refine le_set ?_ | refine le_drew ?_ | refine below_step (by assumption) ?_ ?_ | refine le_below (by assumption) ?_) | (dsimp only; omega)))) (wh3_len 0 (by decide)) w34.heap.size (.slice (some ⟨w34.heap.size, 0, none⟩) 1 1) [op3W 3 4 11 ⟨#[100, 49, 73]⟩ 1 false true] (by simp [Act.eval, Act.put]) (own_built w34 w34.heap.size 1 _ _ (Nat.le_refl _) rfl (by decide) rfl) ⟨by simp, by simp⟩ (by repeat (first | (with_reducible first | exact Below.refl _ _ | assumption | exact Nat.le_refl _ | refine Below.drew ?_ | refine Below.alloc ?_ ?_ _ | refine Below.setCell ?_ ?_ _ | refine le_alloc ?_ | refine le_set ?_ | refine le_drew ?_ | refine below_step (by assumption) ?_ ?_ | refine le_below (by assumption) ?_) | (dsimp only; omega))) ?_; intro v35 x35 q1 q2 q3))
              have r1_35 := grow_q hbw (by repeat (first | (with_reducible first | exact Below.refl _ _ | assumption | exact Nat.le_refl _ | refine Below.drew ?_ | refine Below.alloc ?_ ?_ _ | refine Below.setCell ?_ ?_ _ | refine le_alloc ?_ | refine le_set ?_ | refine le_drew ?_ | refine below_step (by assumption) ?_ ?_ | refine le_below (by assumption) ?_) | (dsimp only; omega))) hL.out q2
              have Q35 : Hid (OwnT x35 w.heap.size v35 (wh3 1)) := q1
              clear q1 q2 q3
              go_wp2_with fail
              go_roundw
              case rel => first | exact ⟨1, by omega, by first | rfl | go_num, Q35, r1_35⟩ | ((repeat apply Exists.intro); exact ⟨⟨1, by omega, by first | rfl | go_num, Q35, r1_35⟩, rfl⟩)
              case measure => simp [intOf]
            · skip
              go_wp2_with fail
              have C36 := Lib.hid (fun v => op3_c 3 5 (by decide) (by decide) 11 ⟨#[100, 49, 73]⟩ v)
              have C37 := Lib.hid (fun v => sized_c 28799 (b3 3 5 : Nat) 11 ⟨#[100, 49, 73]⟩ 0 false false 2 v)
              have C38 := Lib.hid (fun v => worded_c 28799 (b3 3 5 : Nat) 11 ⟨#[100, 49, 73]⟩ 2 false false false true v)
              go_region_law (first | (refine step_go rfl 37 _ Try.func37 (by kernel_rfl) _ rfl _ _ rfl _ ?_ _ (fun w' => Below _ _ w') (C36.out _) ?_; (focus (first | (simp [Act.eval, Act.put]; done) | (simp [Act.eval, Act.put]; decide))); intro w36 hb36) | (refine step_go rfl 38 _ Try.func38 (by kernel_rfl) _ rfl _ _ rfl _ ?_ _ (fun w' => Below _ _ w') (C37.out _) ?_; (focus (first | (simp [Act.eval, Act.put]; done) | (simp [Act.eval, Act.put]; decide))); intro w37 hb37) | (refine step_go rfl 39 _ Try.func39 (by kernel_rfl) _ rfl _ _ rfl _ ?_ _ (fun w' => Below _ _ w') (C38.out _) ?_; (focus (first | (simp [Act.eval, Act.put]; done) | (simp [Act.eval, Act.put]; decide))); intro w38 hb38) | (refine step_append_q rfl (.tmp 56) (.tmp 65) rfl w.heap.size u1 (wh3 1) (by simp [Act.eval, Act.put]) (own_below hL.out (by repeat (first | (with_reducible first | exact Below.refl _ _ | assumption | exact Nat.le_refl _ | refine Below.drew ?_ | refine Below.alloc ?_ ?_ _ | refine Below.setCell ?_ ?_ _ | refine le_alloc ?_ | refine le_set ?_ | refine le_drew ?_ | refine below_step (by assumption) ?_ ?_ | refine le_below (by assumption) ?_) | (dsimp only; omega)))) (wh3_len 1 (by decide)) w38.heap.size (.slice (some ⟨w38.heap.size, 0, none⟩) 1 1) [op3W 3 5 11 ⟨#[100, 49, 73]⟩ 2 false true] (by simp [Act.eval, Act.put]) (own_built w38 w38.heap.size 1 _ _ (Nat.le_refl _) rfl (by decide) rfl) ⟨by simp, by simp⟩ (by repeat (first | (with_reducible first | exact Below.refl _ _ | assumption | exact Nat.le_refl _ | refine Below.drew ?_ | refine Below.alloc ?_ ?_ _ | refine Below.setCell ?_ ?_ _ | refine le_alloc ?_ | refine le_set ?_ | refine le_drew ?_ | refine below_step (by assumption) ?_ ?_ | refine le_below (by assumption) ?_) | (dsimp only; omega))) ?_; intro v39 x39 q1 q2 q3))
              have r1_39 := grow_q hbw (by repeat (first | (with_reducible first | exact Below.refl _ _ | assumption | exact Nat.le_refl _ | refine Below.drew ?_ | refine Below.alloc ?_ ?_ _ | refine Below.setCell ?_ ?_ _ | refine le_alloc ?_ | refine le_set ?_ | refine le_drew ?_ | refine below_step (by assumption) ?_ ?_ | refine le_below (by assumption) ?_) | (dsimp only; omega))) hL.out q2
              have Q39 : Hid (OwnT x39 w.heap.size v39 (wh3 2)) := q1
              clear q1 q2 q3
              go_wp2_with fail
              go_roundw
              case rel => first | exact ⟨2, by omega, by first | rfl | go_num, Q39, r1_39⟩ | ((repeat apply Exists.intro); exact ⟨⟨2, by omega, by first | rfl | go_num, Q39, r1_39⟩, rfl⟩)
              case measure => simp [intOf]
            · skip
              go_wp2_with fail
              have C40 := Lib.hid (fun v => op3_c 3 6 (by decide) (by decide) 11 ⟨#[100, 49, 73]⟩ v)
              have C41 := Lib.hid (fun v => sized_c 28799 (b3 3 6 : Nat) 11 ⟨#[100, 49, 73]⟩ 0 false false 4 v)
              have C42 := Lib.hid (fun v => worded_c 28799 (b3 3 6 : Nat) 11 ⟨#[100, 49, 73]⟩ 4 false false false true v)
              go_region_law (first | (refine step_go rfl 37 _ Try.func37 (by kernel_rfl) _ rfl _ _ rfl _ ?_ _ (fun w' => Below _ _ w') (C40.out _) ?_; (focus (first | (simp [Act.eval, Act.put]; done) | (simp [Act.eval, Act.put]; decide))); intro w40 hb40) | (refine step_go rfl 38 _ Try.func38 (by kernel_rfl) _ rfl _ _ rfl _ ?_ _ (fun w' => Below _ _ w') (C41.out _) ?_; (focus (first | (simp [Act.eval, Act.put]; done) | (simp [Act.eval, Act.put]; decide))); intro w41 hb41) | (refine step_go rfl 39 _ Try.func39 (by kernel_rfl) _ rfl _ _ rfl _ ?_ _ (fun w' => Below _ _ w') (C42.out _) ?_; (focus (first | (simp [Act.eval, Act.put]; done) | (simp [Act.eval, Act.put]; decide))); intro w42 hb42) | (refine step_append_q rfl (.tmp 56) (.tmp 65) rfl w.heap.size u1 (wh3 2) (by simp [Act.eval, Act.put]) (own_below hL.out (by repeat (first | (with_reducible first | exact Below.refl _ _ | assumption | exact Nat.le_refl _ | refine Below.drew ?_ | refine Below.alloc ?_ ?_ _ | refine Below.setCell ?_ ?_ _ | refine le_alloc ?_ | refine le_set ?_ | refine le_drew ?_ | refine below_step (by assumption) ?_ ?_ | refine le_below (by assumption) ?_) | (dsimp only; omega)))) (wh3_len 2 (by decide)) w42.heap.size (.slice (some ⟨w42.heap.size, 0, none⟩) 1 1) [op3W 3 6 11 ⟨#[100, 49, 73]⟩ 4 false true] (by simp [Act.eval, Act.put]) (own_built w42 w42.heap.size 1 _ _ (Nat.le_refl _) rfl (by decide) rfl) ⟨by simp, by simp⟩ (by repeat (first | (with_reducible first | exact Below.refl _ _ | assumption | exact Nat.le_refl _ | refine Below.drew ?_ | refine Below.alloc ?_ ?_ _ | refine Below.setCell ?_ ?_ _ | refine le_alloc ?_ | refine le_set ?_ | refine le_drew ?_ | refine below_step (by assumption) ?_ ?_ | refine le_below (by assumption) ?_) | (dsimp only; omega))) ?_; intro v43 x43 q1 q2 q3))
              have r1_43 := grow_q hbw (by repeat (first | (with_reducible first | exact Below.refl _ _ | assumption | exact Nat.le_refl _ | refine Below.drew ?_ | refine Below.alloc ?_ ?_ _ | refine Below.setCell ?_ ?_ _ | refine le_alloc ?_ | refine le_set ?_ | refine le_drew ?_ | refine below_step (by assumption) ?_ ?_ | refine le_below (by assumption) ?_) | (dsimp only; omega))) hL.out q2
              have Q43 : Hid (OwnT x43 w.heap.size v43 (wh3 3)) := q1
              clear q1 q2 q3
              go_wp2_with fail
              go_roundw
              case rel => first | exact ⟨3, by omega, by first | rfl | go_num, Q43, r1_43⟩ | ((repeat apply Exists.intro); exact ⟨⟨3, by omega, by first | rfl | go_num, Q43, r1_43⟩, rfl⟩)
              case measure => simp [intOf]
            · skip
              
              go_wp2_with fail
              obtain ⟨bk, hbk⟩ : ∃ b, b = wr.heap.size := ⟨_, rfl⟩
              have HL4 : Hid (OwnT (wr.alloc (Obj.cells #[.int .i64 13, .int .i64 15, .int .i64 16, .int .i64 17, .int .i64 18, .int .i64 19, .int .i64 21, .int .i64 22] 3)) w.heap.size u1 (wh4 0)) := own_alloc hL.out _
              have HA4 : Hid (Apart u1 bk (bk + 1)) := fun k hk => by have := (own_lt hL.out k hk).2; omega
              have HN4 : Hid (NumsAt (wr.alloc (Obj.cells #[.int .i64 13, .int .i64 15, .int .i64 16, .int .i64 17, .int .i64 18, .int .i64 19, .int .i64 21, .int .i64 22] 3)) bk .i64 [13, 15, 16, 17, 18, 19, 21, 22]) := by
                intro o ho
                rw [hbk, World.cell?_alloc_at _ _ _ _ rfl]
                have : o = 0 ∨ o = 1 ∨ o = 2 ∨ o = 3 ∨ o = 4 ∨ o = 5 ∨ o = 6 ∨ o = 7 := by simp at ho; omega
                rcases this with rfl | rfl | rfl | rfl | rfl | rfl | rfl | rfl <;> rfl
              have HW4 : Below w.heap.size w (wr.alloc (Obj.cells #[.int .i64 13, .int .i64 15, .int .i64 16, .int .i64 17, .int .i64 18, .int .i64 19, .int .i64 21, .int .i64 22] 3)) := hbw.alloc hbw.size _
              have HZ4 : bk + 1 ≤ (wr.alloc (Obj.cells #[.int .i64 13, .int .i64 15, .int .i64 16, .int .i64 17, .int .i64 18, .int .i64 19, .int .i64 21, .int .i64 22] 3)).heap.size := by rw [sz_alloc]; omega
              rw [← hbk]
              clear hbk hL hbw
              rename_i wp4
              go_loopw [1, 7] (fun l i wr => ∃ k : Nat, k ≤ 8 ∧ i = .int .i64 k ∧ Hid (OwnT wr w.heap.size l (wh4 k)) ∧ Hid (Apart l (bk) (bk + 1)) ∧ Hid (NumsAt wr (bk) .i64 [13, 15, 16, 17, 18, 19, 21, 22]) ∧ bk + 1 ≤ wr.heap.size ∧ Below w.heap.size w wr) (fun _ i _ => 8 - (intOf i).toNat)
              case atStart => exact ⟨0, by omega, rfl, HL4, HA4, HN4, HZ4, HW4⟩
              case round =>
                clear HL4 HW4 HA4 HN4 HZ4
                obtain ⟨k, hk, rfl, hL, hA, hN0, hz, hbw⟩ := hrel
                have hkc : k = 0 ∨ k = 1 ∨ k = 2 ∨ k = 3 ∨ k = 4 ∨ k = 5 ∨ k = 6 ∨ k = 7 ∨ k = 8 := by omega
                clear hk
                rcases hkc with rfl | rfl | rfl | rfl | rfl | rfl | rfl | rfl | rfl
                · skip
                  have n1 : wr.cell? ⟨bk, 0, none⟩ = some (.int .i64 13) := hN0.out 0 (by decide)
                  go_wp2_with fail
                  refine (op3_c 19 0 (by decide) (by decide) 13 ⟨#[100, 49, 73, 61]⟩ _).mono ?_; rintro e w44 ⟨rfl, hb44⟩
                  go_wp2_with (at_builtin; refine append_q rfl (.tmp 78) (.tmp 86) rfl w.heap.size u1 (wh4 0) (by simp [Act.eval, Act.put]) (own_below hL.out (by repeat (first | (with_reducible first | exact Below.refl _ _ | assumption | exact Nat.le_refl _ | refine Below.drew ?_ | refine Below.alloc ?_ ?_ _ | refine Below.setCell ?_ ?_ _ | refine le_alloc ?_ | refine le_set ?_ | refine le_drew ?_ | refine below_step (by assumption) ?_ ?_ | refine le_below (by assumption) ?_) | (dsimp only; omega)))) (Nat.le_trans (wh4_len 0 (by decide)) (by decide)) w44.heap.size (.slice (some ⟨w44.heap.size, 0, none⟩) 1 1) [op3W 19 0 13 ⟨#[100, 49, 73, 61]⟩ 0 false false] (by simp [Act.eval, Act.put]) (own_built w44 w44.heap.size 1 _ _ (Nat.le_refl _) rfl (by decide) rfl) ⟨by simp, by simp⟩ (by repeat (first | (with_reducible first | exact Below.refl _ _ | assumption | exact Nat.le_refl _ | refine Below.drew ?_ | refine Below.alloc ?_ ?_ _ | refine Below.setCell ?_ ?_ _ | refine le_alloc ?_ | refine le_set ?_ | refine le_drew ?_ | refine below_step (by assumption) ?_ ?_ | refine le_below (by assumption) ?_) | (dsimp only; omega))) ?_; intro v45 x45 q1 q2 q3; have n2 : x45.cell? ⟨bk, 0, none⟩ = some (.int .i64 13) := (round_q hbw hL.out hA.out hz q2 q3 (by repeat (first | (with_reducible first | exact Below.refl _ _ | assumption | exact Nat.le_refl _ | refine Below.drew ?_ | refine Below.alloc ?_ ?_ _ | refine Below.setCell ?_ ?_ _ | refine le_alloc ?_ | refine le_set ?_ | refine le_drew ?_ | refine below_step (by assumption) ?_ ?_ | refine le_below (by assumption) ?_) | (dsimp only; omega)))).2.2.2 bk .i64 [13, 15, 16, 17, 18, 19, 21, 22] (by omega) (by omega) hN0.out 0 (by decide))
                  obtain ⟨r1_45, r2_45, r3_45, r4_45⟩ := round_q hbw hL.out hA.out hz q2 q3 (by repeat (first | (with_reducible first | exact Below.refl _ _ | assumption | exact Nat.le_refl _ | refine Below.drew ?_ | refine Below.alloc ?_ ?_ _ | refine Below.setCell ?_ ?_ _ | refine le_alloc ?_ | refine le_set ?_ | refine le_drew ?_ | refine below_step (by assumption) ?_ ?_ | refine le_below (by assumption) ?_) | (dsimp only; omega)))
                  have N45_0 := Lib.hid (r4_45 _ _ _ (by omega) (by omega) hN0.out)
                  have hA_45 := Lib.hid r3_45
                  have hz_45 := Nat.le_trans hz r2_45
                  clear r3_45 r4_45
                  have Q45 : Hid (OwnT x45 w.heap.size v45 (wh4 0 ++ [op3W 19 0 13 ⟨#[100, 49, 73, 61]⟩ 0 false false])) := q1
                  clear q1 q2 q3
                  go_wp2_with fail
                  refine (op7_c 51 0 0 (by decide) (by decide) (by decide) 13 ⟨#[100, 49, 50]⟩ _).mono ?_; rintro e w46 ⟨rfl, hb46⟩
                  go_wp2_with fail
                  refine (op7_c 51 0 1 (by decide) (by decide) (by decide) 23 ⟨#[100, 49, 50]⟩ _).mono ?_; rintro e w47 ⟨rfl, hb47⟩
                  go_wp2_with (at_builtin; refine append_q rfl (.tmp 88) (.tmp 101) rfl w.heap.size v45 (wh4 0 ++ [op3W 19 0 13 ⟨#[100, 49, 73, 61]⟩ 0 false false]) (by simp [Act.eval, Act.put]) (own_below Q45.out (by repeat (first | (with_reducible first | exact Below.refl _ _ | assumption | exact Nat.le_refl _ | refine Below.drew ?_ | refine Below.alloc ?_ ?_ _ | refine Below.setCell ?_ ?_ _ | refine le_alloc ?_ | refine le_set ?_ | refine le_drew ?_ | refine below_step (by assumption) ?_ ?_ | refine le_below (by assumption) ?_) | (dsimp only; omega)))) (by rw [List.length_append]; have := wh4_len 0 (by decide); show _ + 1 ≤ 500; omega) w47.heap.size (.slice (some ⟨w47.heap.size, 0, none⟩) 2 2) [op7W 51 0 0 13 ⟨#[100, 49, 50]⟩ 0 false false, op7W 51 0 1 23 ⟨#[100, 49, 50]⟩ 0 false false] (by simp [Act.eval, Act.put]) (own_built w47 w47.heap.size 2 _ _ (Nat.le_refl _) rfl (by decide) rfl) ⟨by simp, by simp⟩ (by repeat (first | (with_reducible first | exact Below.refl _ _ | assumption | exact Nat.le_refl _ | refine Below.drew ?_ | refine Below.alloc ?_ ?_ _ | refine Below.setCell ?_ ?_ _ | refine le_alloc ?_ | refine le_set ?_ | refine le_drew ?_ | refine below_step (by assumption) ?_ ?_ | refine le_below (by assumption) ?_) | (dsimp only; omega))) ?_; intro v48 x48 q1 q2 q3)
                  obtain ⟨r1_48, r2_48, r3_48, r4_48⟩ := round_q r1_45 Q45.out hA_45.out hz_45 q2 q3 (by repeat (first | (with_reducible first | exact Below.refl _ _ | assumption | exact Nat.le_refl _ | refine Below.drew ?_ | refine Below.alloc ?_ ?_ _ | refine Below.setCell ?_ ?_ _ | refine le_alloc ?_ | refine le_set ?_ | refine le_drew ?_ | refine below_step (by assumption) ?_ ?_ | refine le_below (by assumption) ?_) | (dsimp only; omega)))
                  have N48_0 := Lib.hid (r4_48 _ _ _ (by omega) (by omega) N45_0.out)
                  have hA_48 := Lib.hid r3_48
                  have hz_48 := Nat.le_trans hz_45 r2_48
                  clear r3_48 r4_48
                  have Q48 : Hid (OwnT x48 w.heap.size v48 (wh4 1)) := q1
                  clear q1 q2 q3
                  go_wp2_with fail
                  go_roundw
                  case rel => first | exact ⟨1, by omega, by first | rfl | go_num, Q48, hA_48, N48_0, hz_48, r1_48⟩ | ((repeat apply Exists.intro); exact ⟨⟨1, by omega, by first | rfl | go_num, Q48, hA_48, N48_0, hz_48, r1_48⟩, rfl⟩)
                  case measure => simp [intOf]
                · skip
                  have n1 : wr.cell? ⟨bk, 1, none⟩ = some (.int .i64 15) := hN0.out 1 (by decide)
                  go_wp2_with fail
                  refine (op7_c 51 1 0 (by decide) (by decide) (by decide) 15 ⟨#[100, 49, 50]⟩ _).mono ?_; rintro e w49 ⟨rfl, hb49⟩
                  go_wp2_with fail
                  refine (op7_c 51 1 1 (by decide) (by decide) (by decide) 24 ⟨#[100, 49, 50]⟩ _).mono ?_; rintro e w50 ⟨rfl, hb50⟩
                  go_wp2_with (at_builtin; refine append_q rfl (.tmp 88) (.tmp 101) rfl w.heap.size u1 (wh4 1) (by simp [Act.eval, Act.put]) (own_below hL.out (by repeat (first | (with_reducible first | exact Below.refl _ _ | assumption | exact Nat.le_refl _ | refine Below.drew ?_ | refine Below.alloc ?_ ?_ _ | refine Below.setCell ?_ ?_ _ | refine le_alloc ?_ | refine le_set ?_ | refine le_drew ?_ | refine below_step (by assumption) ?_ ?_ | refine le_below (by assumption) ?_) | (dsimp only; omega)))) (Nat.le_trans (wh4_len 1 (by decide)) (by decide)) w50.heap.size (.slice (some ⟨w50.heap.size, 0, none⟩) 2 2) [op7W 51 1 0 15 ⟨#[100, 49, 50]⟩ 0 false false, op7W 51 1 1 24 ⟨#[100, 49, 50]⟩ 0 false false] (by simp [Act.eval, Act.put]) (own_built w50 w50.heap.size 2 _ _ (Nat.le_refl _) rfl (by decide) rfl) ⟨by simp, by simp⟩ (by repeat (first | (with_reducible first | exact Below.refl _ _ | assumption | exact Nat.le_refl _ | refine Below.drew ?_ | refine Below.alloc ?_ ?_ _ | refine Below.setCell ?_ ?_ _ | refine le_alloc ?_ | refine le_set ?_ | refine le_drew ?_ | refine below_step (by assumption) ?_ ?_ | refine le_below (by assumption) ?_) | (dsimp only; omega))) ?_; intro v51 x51 q1 q2 q3)
                  obtain ⟨r1_51, r2_51, r3_51, r4_51⟩ := round_q hbw hL.out hA.out hz q2 q3 (by repeat (first | (with_reducible first | exact Below.refl _ _ | assumption | exact Nat.le_refl _ | refine Below.drew ?_ | refine Below.alloc ?_ ?_ _ | refine Below.setCell ?_ ?_ _ | refine le_alloc ?_ | refine le_set ?_ | refine le_drew ?_ | refine below_step (by assumption) ?_ ?_ | refine le_below (by assumption) ?_) | (dsimp only; omega)))
                  have N51_0 := Lib.hid (r4_51 _ _ _ (by omega) (by omega) hN0.out)
                  have hA_51 := Lib.hid r3_51
                  have hz_51 := Nat.le_trans hz r2_51
                  clear r3_51 r4_51
                  have Q51 : Hid (OwnT x51 w.heap.size v51 (wh4 2)) := q1
                  clear q1 q2 q3
                  go_wp2_with fail
                  go_roundw
                  case rel => first | exact ⟨2, by omega, by first | rfl | go_num, Q51, hA_51, N51_0, hz_51, r1_51⟩ | ((repeat apply Exists.intro); exact ⟨⟨2, by omega, by first | rfl | go_num, Q51, hA_51, N51_0, hz_51, r1_51⟩, rfl⟩)
                  case measure => simp [intOf]
                · skip
                  have n1 : wr.cell? ⟨bk, 2, none⟩ = some (.int .i64 16) := hN0.out 2 (by decide)
                  go_wp2_with fail
                  refine (op3_c 19 2 (by decide) (by decide) 16 ⟨#[100, 49, 73, 61]⟩ _).mono ?_; rintro e w52 ⟨rfl, hb52⟩
                  go_wp2_with (at_builtin; refine append_q rfl (.tmp 78) (.tmp 86) rfl w.heap.size u1 (wh4 2) (by simp [Act.eval, Act.put]) (own_below hL.out (by repeat (first | (with_reducible first | exact Below.refl _ _ | assumption | exact Nat.le_refl _ | refine Below.drew ?_ | refine Below.alloc ?_ ?_ _ | refine Below.setCell ?_ ?_ _ | refine le_alloc ?_ | refine le_set ?_ | refine le_drew ?_ | refine below_step (by assumption) ?_ ?_ | refine le_below (by assumption) ?_) | (dsimp only; omega)))) (Nat.le_trans (wh4_len 2 (by decide)) (by decide)) w52.heap.size (.slice (some ⟨w52.heap.size, 0, none⟩) 1 1) [op3W 19 2 16 ⟨#[100, 49, 73, 61]⟩ 0 false false] (by simp [Act.eval, Act.put]) (own_built w52 w52.heap.size 1 _ _ (Nat.le_refl _) rfl (by decide) rfl) ⟨by simp, by simp⟩ (by repeat (first | (with_reducible first | exact Below.refl _ _ | assumption | exact Nat.le_refl _ | refine Below.drew ?_ | refine Below.alloc ?_ ?_ _ | refine Below.setCell ?_ ?_ _ | refine le_alloc ?_ | refine le_set ?_ | refine le_drew ?_ | refine below_step (by assumption) ?_ ?_ | refine le_below (by assumption) ?_) | (dsimp only; omega))) ?_; intro v53 x53 q1 q2 q3; have n2 : x53.cell? ⟨bk, 2, none⟩ = some (.int .i64 16) := (round_q hbw hL.out hA.out hz q2 q3 (by repeat (first | (with_reducible first | exact Below.refl _ _ | assumption | exact Nat.le_refl _ | refine Below.drew ?_ | refine Below.alloc ?_ ?_ _ | refine Below.setCell ?_ ?_ _ | refine le_alloc ?_ | refine le_set ?_ | refine le_drew ?_ | refine below_step (by assumption) ?_ ?_ | refine le_below (by assumption) ?_) | (dsimp only; omega)))).2.2.2 bk .i64 [13, 15, 16, 17, 18, 19, 21, 22] (by omega) (by omega) hN0.out 2 (by decide))
                  obtain ⟨r1_53, r2_53, r3_53, r4_53⟩ := round_q hbw hL.out hA.out hz q2 q3 (by repeat (first | (with_reducible first | exact Below.refl _ _ | assumption | exact Nat.le_refl _ | refine Below.drew ?_ | refine Below.alloc ?_ ?_ _ | refine Below.setCell ?_ ?_ _ | refine le_alloc ?_ | refine le_set ?_ | refine le_drew ?_ | refine below_step (by assumption) ?_ ?_ | refine le_below (by assumption) ?_) | (dsimp only; omega)))
                  have N53_0 := Lib.hid (r4_53 _ _ _ (by omega) (by omega) hN0.out)
                  have hA_53 := Lib.hid r3_53
                  have hz_53 := Nat.le_trans hz r2_53
                  clear r3_53 r4_53
                  have Q53 : Hid (OwnT x53 w.heap.size v53 (wh4 2 ++ [op3W 19 2 16 ⟨#[100, 49, 73, 61]⟩ 0 false false])) := q1
                  clear q1 q2 q3
                  go_wp2_with fail
                  refine (op7_c 51 2 0 (by decide) (by decide) (by decide) 16 ⟨#[100, 49, 50]⟩ _).mono ?_; rintro e w54 ⟨rfl, hb54⟩
                  go_wp2_with fail
                  refine (op7_c 51 2 1 (by decide) (by decide) (by decide) 25 ⟨#[100, 49, 50]⟩ _).mono ?_; rintro e w55 ⟨rfl, hb55⟩
                  go_wp2_with (at_builtin; refine append_q rfl (.tmp 88) (.tmp 101) rfl w.heap.size v53 (wh4 2 ++ [op3W 19 2 16 ⟨#[100, 49, 73, 61]⟩ 0 false false]) (by simp [Act.eval, Act.put]) (own_below Q53.out (by repeat (first | (with_reducible first | exact Below.refl _ _ | assumption | exact Nat.le_refl _ | refine Below.drew ?_ | refine Below.alloc ?_ ?_ _ | refine Below.setCell ?_ ?_ _ | refine le_alloc ?_ | refine le_set ?_ | refine le_drew ?_ | refine below_step (by assumption) ?_ ?_ | refine le_below (by assumption) ?_) | (dsimp only; omega)))) (by rw [List.length_append]; have := wh4_len 2 (by decide); show _ + 1 ≤ 500; omega) w55.heap.size (.slice (some ⟨w55.heap.size, 0, none⟩) 2 2) [op7W 51 2 0 16 ⟨#[100, 49, 50]⟩ 0 false false, op7W 51 2 1 25 ⟨#[100, 49, 50]⟩ 0 false false] (by simp [Act.eval, Act.put]) (own_built w55 w55.heap.size 2 _ _ (Nat.le_refl _) rfl (by decide) rfl) ⟨by simp, by simp⟩ (by repeat (first | (with_reducible first | exact Below.refl _ _ | assumption | exact Nat.le_refl _ | refine Below.drew ?_ | refine Below.alloc ?_ ?_ _ | refine Below.setCell ?_ ?_ _ | refine le_alloc ?_ | refine le_set ?_ | refine le_drew ?_ | refine below_step (by assumption) ?_ ?_ | refine le_below (by assumption) ?_) | (dsimp only; omega))) ?_; intro v56 x56 q1 q2 q3)
                  obtain ⟨r1_56, r2_56, r3_56, r4_56⟩ := round_q r1_53 Q53.out hA_53.out hz_53 q2 q3 (by repeat (first | (with_reducible first | exact Below.refl _ _ | assumption | exact Nat.le_refl _ | refine Below.drew ?_ | refine Below.alloc ?_ ?_ _ | refine Below.setCell ?_ ?_ _ | refine le_alloc ?_ | refine le_set ?_ | refine le_drew ?_ | refine below_step (by assumption) ?_ ?_ | refine le_below (by assumption) ?_) | (dsimp only; omega)))
                  have N56_0 := Lib.hid (r4_56 _ _ _ (by omega) (by omega) N53_0.out)
                  have hA_56 := Lib.hid r3_56
                  have hz_56 := Nat.le_trans hz_53 r2_56
                  clear r3_56 r4_56
                  have Q56 : Hid (OwnT x56 w.heap.size v56 (wh4 3)) := q1
                  clear q1 q2 q3
                  go_wp2_with fail
                  go_roundw
                  case rel => first | exact ⟨3, by omega, by first | rfl | go_num, Q56, hA_56, N56_0, hz_56, r1_56⟩ | ((repeat apply Exists.intro); exact ⟨⟨3, by omega, by first | rfl | go_num, Q56, hA_56, N56_0, hz_56, r1_56⟩, rfl⟩)
                  case measure => simp [intOf]
                · skip
                  have n1 : wr.cell? ⟨bk, 3, none⟩ = some (.int .i64 17) := hN0.out 3 (by decide)
                  go_wp2_with fail
                  refine (op3_c 19 3 (by decide) (by decide) 17 ⟨#[100, 49, 73, 61]⟩ _).mono ?_; rintro e w57 ⟨rfl, hb57⟩
                  go_wp2_with (at_builtin; refine append_q rfl (.tmp 78) (.tmp 86) rfl w.heap.size u1 (wh4 3) (by simp [Act.eval, Act.put]) (own_below hL.out (by repeat (first | (with_reducible first | exact Below.refl _ _ | assumption | exact Nat.le_refl _ | refine Below.drew ?_ | refine Below.alloc ?_ ?_ _ | refine Below.setCell ?_ ?_ _ | refine le_alloc ?_ | refine le_set ?_ | refine le_drew ?_ | refine below_step (by assumption) ?_ ?_ | refine le_below (by assumption) ?_) | (dsimp only; omega)))) (Nat.le_trans (wh4_len 3 (by decide)) (by decide)) w57.heap.size (.slice (some ⟨w57.heap.size, 0, none⟩) 1 1) [op3W 19 3 17 ⟨#[100, 49, 73, 61]⟩ 0 false false] (by simp [Act.eval, Act.put]) (own_built w57 w57.heap.size 1 _ _ (Nat.le_refl _) rfl (by decide) rfl) ⟨by simp, by simp⟩ (by repeat (first | (with_reducible first | exact Below.refl _ _ | assumption | exact Nat.le_refl _ | refine Below.drew ?_ | refine Below.alloc ?_ ?_ _ | refine Below.setCell ?_ ?_ _ | refine le_alloc ?_ | refine le_set ?_ | refine le_drew ?_ | refine below_step (by assumption) ?_ ?_ | refine le_below (by assumption) ?_) | (dsimp only; omega))) ?_; intro v58 x58 q1 q2 q3; have n2 : x58.cell? ⟨bk, 3, none⟩ = some (.int .i64 17) := (round_q hbw hL.out hA.out hz q2 q3 (by repeat (first | (with_reducible first | exact Below.refl _ _ | assumption | exact Nat.le_refl _ | refine Below.drew ?_ | refine Below.alloc ?_ ?_ _ | refine Below.setCell ?_ ?_ _ | refine le_alloc ?_ | refine le_set ?_ | refine le_drew ?_ | refine below_step (by assumption) ?_ ?_ | refine le_below (by assumption) ?_) | (dsimp only; omega)))).2.2.2 bk .i64 [13, 15, 16, 17, 18, 19, 21, 22] (by omega) (by omega) hN0.out 3 (by decide))
                  obtain ⟨r1_58, r2_58, r3_58, r4_58⟩ := round_q hbw hL.out hA.out hz q2 q3 (by repeat (first | (with_reducible first | exact Below.refl _ _ | assumption | exact Nat.le_refl _ | refine Below.drew ?_ | refine Below.alloc ?_ ?_ _ | refine Below.setCell ?_ ?_ _ | refine le_alloc ?_ | refine le_set ?_ | refine le_drew ?_ | refine below_step (by assumption) ?_ ?_ | refine le_below (by assumption) ?_) | (dsimp only; omega)))
                  have N58_0 := Lib.hid (r4_58 _ _ _ (by omega) (by omega) hN0.out)
                  have hA_58 := Lib.hid r3_58
                  have hz_58 := Nat.le_trans hz r2_58
                  clear r3_58 r4_58
                  have Q58 : Hid (OwnT x58 w.heap.size v58 (wh4 3 ++ [op3W 19 3 17 ⟨#[100, 49, 73, 61]⟩ 0 false false])) := q1
                  clear q1 q2 q3
                  go_wp2_with fail
                  refine (op7_c 51 3 0 (by decide) (by decide) (by decide) 17 ⟨#[100, 49, 50]⟩ _).mono ?_; rintro e w59 ⟨rfl, hb59⟩
                  go_wp2_with fail
                  refine (op7_c 51 3 1 (by decide) (by decide) (by decide) 26 ⟨#[100, 49, 50]⟩ _).mono ?_; rintro e w60 ⟨rfl, hb60⟩
                  go_wp2_with (at_builtin; refine append_q rfl (.tmp 88) (.tmp 101) rfl w.heap.size v58 (wh4 3 ++ [op3W 19 3 17 ⟨#[100, 49, 73, 61]⟩ 0 false false]) (by simp [Act.eval, Act.put]) (own_below Q58.out (by repeat (first | (with_reducible first | exact Below.refl _ _ | assumption | exact Nat.le_refl _ | refine Below.drew ?_ | refine Below.alloc ?_ ?_ _ | refine Below.setCell ?_ ?_ _ | refine le_alloc ?_ | refine le_set ?_ | refine le_drew ?_ | refine below_step (by assumption) ?_ ?_ | refine le_below (by assumption) ?_) | (dsimp only; omega)))) (by rw [List.length_append]; have := wh4_len 3 (by decide); show _ + 1 ≤ 500; omega) w60.heap.size (.slice (some ⟨w60.heap.size, 0, none⟩) 2 2) [op7W 51 3 0 17 ⟨#[100, 49, 50]⟩ 0 false false, op7W 51 3 1 26 ⟨#[100, 49, 50]⟩ 0 false false] (by simp [Act.eval, Act.put]) (own_built w60 w60.heap.size 2 _ _ (Nat.le_refl _) rfl (by decide) rfl) ⟨by simp, by simp⟩ (by repeat (first | (with_reducible first | exact Below.refl _ _ | assumption | exact Nat.le_refl _ | refine Below.drew ?_ | refine Below.alloc ?_ ?_ _ | refine Below.setCell ?_ ?_ _ | refine le_alloc ?_ | refine le_set ?_ | refine le_drew ?_ | refine below_step (by assumption) ?_ ?_ | refine le_below (by assumption) ?_) | (dsimp only; omega))) ?_; intro v61 x61 q1 q2 q3)
                  obtain ⟨r1_61, r2_61, r3_61, r4_61⟩ := round_q r1_58 Q58.out hA_58.out hz_58 q2 q3 (by repeat (first | (with_reducible first | exact Below.refl _ _ | assumption | exact Nat.le_refl _ | refine Below.drew ?_ | refine Below.alloc ?_ ?_ _ | refine Below.setCell ?_ ?_ _ | refine le_alloc ?_ | refine le_set ?_ | refine le_drew ?_ | refine below_step (by assumption) ?_ ?_ | refine le_below (by assumption) ?_) | (dsimp only; omega)))
                  have N61_0 := Lib.hid (r4_61 _ _ _ (by omega) (by omega) N58_0.out)
                  have hA_61 := Lib.hid r3_61
                  have hz_61 := Nat.le_trans hz_58 r2_61
                  clear r3_61 r4_61
                  have Q61 : Hid (OwnT x61 w.heap.size v61 (wh4 4)) := q1
                  clear q1 q2 q3
                  go_wp2_with fail
                  go_roundw
                  case rel => first | exact ⟨4, by omega, by first | rfl | go_num, Q61, hA_61, N61_0, hz_61, r1_61⟩ | ((repeat apply Exists.intro); exact ⟨⟨4, by omega, by first | rfl | go_num, Q61, hA_61, N61_0, hz_61, r1_61⟩, rfl⟩)
                  case measure => simp [intOf]
                · skip
                  have n1 : wr.cell? ⟨bk, 4, none⟩ = some (.int .i64 18) := hN0.out 4 (by decide)
                  go_wp2_with fail
                  refine (op3_c 19 4 (by decide) (by decide) 18 ⟨#[100, 49, 73, 61]⟩ _).mono ?_; rintro e w62 ⟨rfl, hb62⟩
                  go_wp2_with (at_builtin; refine append_q rfl (.tmp 78) (.tmp 86) rfl w.heap.size u1 (wh4 4) (by simp [Act.eval, Act.put]) (own_below hL.out (by repeat (first | (with_reducible first | exact Below.refl _ _ | assumption | exact Nat.le_refl _ | refine Below.drew ?_ | refine Below.alloc ?_ ?_ _ | refine Below.setCell ?_ ?_ _ | refine le_alloc ?_ | refine le_set ?_ | refine le_drew ?_ | refine below_step (by assumption) ?_ ?_ | refine le_below (by assumption) ?_) | (dsimp only; omega)))) (Nat.le_trans (wh4_len 4 (by decide)) (by decide)) w62.heap.size (.slice (some ⟨w62.heap.size, 0, none⟩) 1 1) [op3W 19 4 18 ⟨#[100, 49, 73, 61]⟩ 0 false false] (by simp [Act.eval, Act.put]) (own_built w62 w62.heap.size 1 _ _ (Nat.le_refl _) rfl (by decide) rfl) ⟨by simp, by simp⟩ (by repeat (first | (with_reducible first | exact Below.refl _ _ | assumption | exact Nat.le_refl _ | refine Below.drew ?_ | refine Below.alloc ?_ ?_ _ | refine Below.setCell ?_ ?_ _ | refine le_alloc ?_ | refine le_set ?_ | refine le_drew ?_ | refine below_step (by assumption) ?_ ?_ | refine le_below (by assumption) ?_) | (dsimp only; omega))) ?_; intro v63 x63 q1 q2 q3; have n2 : x63.cell? ⟨bk, 4, none⟩ = some (.int .i64 18) := (round_q hbw hL.out hA.out hz q2 q3 (by repeat (first | (with_reducible first | exact Below.refl _ _ | assumption | exact Nat.le_refl _ | refine Below.drew ?_ | refine Below.alloc ?_ ?_ _ | refine Below.setCell ?_ ?_ _ | refine le_alloc ?_ | refine le_set ?_ | refine le_drew ?_ | refine below_step (by assumption) ?_ ?_ | refine le_below (by assumption) ?_) | (dsimp only; omega)))).2.2.2 bk .i64 [13, 15, 16, 17, 18, 19, 21, 22] (by omega) (by omega) hN0.out 4 (by decide))
                  obtain ⟨r1_63, r2_63, r3_63, r4_63⟩ := round_q hbw hL.out hA.out hz q2 q3 (by repeat (first | (with_reducible first | exact Below.refl _ _ | assumption | exact Nat.le_refl _ | refine Below.drew ?_ | refine Below.alloc ?_ ?_ _ | refine Below.setCell ?_ ?_ _ | refine le_alloc ?_ | refine le_set ?_ | refine le_drew ?_ | refine below_step (by assumption) ?_ ?_ | refine le_below (by assumption) ?_) | (dsimp only; omega)))
                  have N63_0 := Lib.hid (r4_63 _ _ _ (by omega) (by omega) hN0.out)
                  have hA_63 := Lib.hid r3_63
                  have hz_63 := Nat.le_trans hz r2_63
                  clear r3_63 r4_63
                  have Q63 : Hid (OwnT x63 w.heap.size v63 (wh4 4 ++ [op3W 19 4 18 ⟨#[100, 49, 73, 61]⟩ 0 false false])) := q1
                  clear q1 q2 q3
                  go_wp2_with fail
                  refine (op7_c 51 4 0 (by decide) (by decide) (by decide) 18 ⟨#[100, 49, 50]⟩ _).mono ?_; rintro e w64 ⟨rfl, hb64⟩
                  go_wp2_with fail
                  refine (op7_c 51 4 1 (by decide) (by decide) (by decide) 27 ⟨#[100, 49, 50]⟩ _).mono ?_; rintro e w65 ⟨rfl, hb65⟩
                  go_wp2_with (at_builtin; refine append_q rfl (.tmp 88) (.tmp 101) rfl w.heap.size v63 (wh4 4 ++ [op3W 19 4 18 ⟨#[100, 49, 73, 61]⟩ 0 false false]) (by simp [Act.eval, Act.put]) (own_below Q63.out (by repeat (first | (with_reducible first | exact Below.refl _ _ | assumption | exact Nat.le_refl _ | refine Below.drew ?_ | refine Below.alloc ?_ ?_ _ | refine Below.setCell ?_ ?_ _ | refine le_alloc ?_ | refine le_set ?_ | refine le_drew ?_ | refine below_step (by assumption) ?_ ?_ | refine le_below (by assumption) ?_) | (dsimp only; omega)))) (by rw [List.length_append]; have := wh4_len 4 (by decide); show _ + 1 ≤ 500; omega) w65.heap.size (.slice (some ⟨w65.heap.size, 0, none⟩) 2 2) [op7W 51 4 0 18 ⟨#[100, 49, 50]⟩ 0 false false, op7W 51 4 1 27 ⟨#[100, 49, 50]⟩ 0 false false] (by simp [Act.eval, Act.put]) (own_built w65 w65.heap.size 2 _ _ (Nat.le_refl _) rfl (by decide) rfl) ⟨by simp, by simp⟩ (by repeat (first | (with_reducible first | exact Below.refl _ _ | assumption | exact Nat.le_refl _ | refine Below.drew ?_ | refine Below.alloc ?_ ?_ _ | refine Below.setCell ?_ ?_ _ | refine le_alloc ?_ | refine le_set ?_ | refine le_drew ?_ | refine below_step (by assumption) ?_ ?_ | refine le_below (by assumption) ?_) | (dsimp only; omega))) ?_; intro v66 x66 q1 q2 q3)
                  obtain ⟨r1_66, r2_66, r3_66, r4_66⟩ := round_q r1_63 Q63.out hA_63.out hz_63 q2 q3 (by repeat (first | (with_reducible first | exact Below.refl _ _ | assumption | exact Nat.le_refl _ | refine Below.drew ?_ | refine Below.alloc ?_ ?_ _ | refine Below.setCell ?_ ?_ _ | refine le_alloc ?_ | refine le_set ?_ | refine le_drew ?_ | refine below_step (by assumption) ?_ ?_ | refine le_below (by assumption) ?_) | (dsimp only; omega)))
                  have N66_0 := Lib.hid (r4_66 _ _ _ (by omega) (by omega) N63_0.out)
                  have hA_66 := Lib.hid r3_66
                  have hz_66 := Nat.le_trans hz_63 r2_66
                  clear r3_66 r4_66
                  have Q66 : Hid (OwnT x66 w.heap.size v66 (wh4 5)) := q1
                  clear q1 q2 q3
                  go_wp2_with fail
                  go_roundw
                  case rel => first | exact ⟨5, by omega, by first | rfl | go_num, Q66, hA_66, N66_0, hz_66, r1_66⟩ | ((repeat apply Exists.intro); exact ⟨⟨5, by omega, by first | rfl | go_num, Q66, hA_66, N66_0, hz_66, r1_66⟩, rfl⟩)
                  case measure => simp [intOf]
                · skip
                  have n1 : wr.cell? ⟨bk, 5, none⟩ = some (.int .i64 19) := hN0.out 5 (by decide)
                  go_wp2_with fail
                  refine (op7_c 51 5 0 (by decide) (by decide) (by decide) 19 ⟨#[100, 49, 50]⟩ _).mono ?_; rintro e w67 ⟨rfl, hb67⟩
                  go_wp2_with fail
                  refine (op7_c 51 5 1 (by decide) (by decide) (by decide) 28 ⟨#[100, 49, 50]⟩ _).mono ?_; rintro e w68 ⟨rfl, hb68⟩
                  go_wp2_with (at_builtin; refine append_q rfl (.tmp 88) (.tmp 101) rfl w.heap.size u1 (wh4 5) (by simp [Act.eval, Act.put]) (own_below hL.out (by repeat (first | (with_reducible first | exact Below.refl _ _ | assumption | exact Nat.le_refl _ | refine Below.drew ?_ | refine Below.alloc ?_ ?_ _ | refine Below.setCell ?_ ?_ _ | refine le_alloc ?_ | refine le_set ?_ | refine le_drew ?_ | refine below_step (by assumption) ?_ ?_ | refine le_below (by assumption) ?_) | (dsimp only; omega)))) (Nat.le_trans (wh4_len 5 (by decide)) (by decide)) w68.heap.size (.slice (some ⟨w68.heap.size, 0, none⟩) 2 2) [op7W 51 5 0 19 ⟨#[100, 49, 50]⟩ 0 false false, op7W 51 5 1 28 ⟨#[100, 49, 50]⟩ 0 false false] (by simp [Act.eval, Act.put]) (own_built w68 w68.heap.size 2 _ _ (Nat.le_refl _) rfl (by decide) rfl) ⟨by simp, by simp⟩ (by repeat (first | (with_reducible first | exact Below.refl _ _ | assumption | exact Nat.le_refl _ | refine Below.drew ?_ | refine Below.alloc ?_ ?_ _ | refine Below.setCell ?_ ?_ _ | refine le_alloc ?_ | refine le_set ?_ | refine le_drew ?_ | refine below_step (by assumption) ?_ ?_ | refine le_below (by assumption) ?_) | (dsimp only; omega))) ?_; intro v69 x69 q1 q2 q3)
                  obtain ⟨r1_69, r2_69, r3_69, r4_69⟩ := round_q hbw hL.out hA.out hz q2 q3 (by repeat (first | (with_reducible first | exact Below.refl _ _ | assumption | exact Nat.le_refl _ | refine Below.drew ?_ | refine Below.alloc ?_ ?_ _ | refine Below.setCell ?_ ?_ _ | refine le_alloc ?_ | refine le_set ?_ | refine le_drew ?_ | refine below_step (by assumption) ?_ ?_ | refine le_below (by assumption) ?_) | (dsimp only; omega)))
                  have N69_0 := Lib.hid (r4_69 _ _ _ (by omega) (by omega) hN0.out)
                  have hA_69 := Lib.hid r3_69
                  have hz_69 := Nat.le_trans hz r2_69
                  clear r3_69 r4_69
                  have Q69 : Hid (OwnT x69 w.heap.size v69 (wh4 6)) := q1
                  clear q1 q2 q3
                  go_wp2_with fail
                  go_roundw
                  case rel => first | exact ⟨6, by omega, by first | rfl | go_num, Q69, hA_69, N69_0, hz_69, r1_69⟩ | ((repeat apply Exists.intro); exact ⟨⟨6, by omega, by first | rfl | go_num, Q69, hA_69, N69_0, hz_69, r1_69⟩, rfl⟩)
                  case measure => simp [intOf]
                · skip
                  have n1 : wr.cell? ⟨bk, 6, none⟩ = some (.int .i64 21) := hN0.out 6 (by decide)
                  go_wp2_with fail
                  refine (op3_c 19 6 (by decide) (by decide) 21 ⟨#[100, 49, 73, 61]⟩ _).mono ?_; rintro e w70 ⟨rfl, hb70⟩
                  go_wp2_with (at_builtin; refine append_q rfl (.tmp 78) (.tmp 86) rfl w.heap.size u1 (wh4 6) (by simp [Act.eval, Act.put]) (own_below hL.out (by repeat (first | (with_reducible first | exact Below.refl _ _ | assumption | exact Nat.le_refl _ | refine Below.drew ?_ | refine Below.alloc ?_ ?_ _ | refine Below.setCell ?_ ?_ _ | refine le_alloc ?_ | refine le_set ?_ | refine le_drew ?_ | refine below_step (by assumption) ?_ ?_ | refine le_below (by assumption) ?_) | (dsimp only; omega)))) (Nat.le_trans (wh4_len 6 (by decide)) (by decide)) w70.heap.size (.slice (some ⟨w70.heap.size, 0, none⟩) 1 1) [op3W 19 6 21 ⟨#[100, 49, 73, 61]⟩ 0 false false] (by simp [Act.eval, Act.put]) (own_built w70 w70.heap.size 1 _ _ (Nat.le_refl _) rfl (by decide) rfl) ⟨by simp, by simp⟩ (by repeat (first | (with_reducible first | exact Below.refl _ _ | assumption | exact Nat.le_refl _ | refine Below.drew ?_ | refine Below.alloc ?_ ?_ _ | refine Below.setCell ?_ ?_ _ | refine le_alloc ?_ | refine le_set ?_ | refine le_drew ?_ | refine below_step (by assumption) ?_ ?_ | refine le_below (by assumption) ?_) | (dsimp only; omega))) ?_; intro v71 x71 q1 q2 q3; have n2 : x71.cell? ⟨bk, 6, none⟩ = some (.int .i64 21) := (round_q hbw hL.out hA.out hz q2 q3 (by repeat (first | (with_reducible first | exact Below.refl _ _ | assumption | exact Nat.le_refl _ | refine Below.drew ?_ | refine Below.alloc ?_ ?_ _ | refine Below.setCell ?_ ?_ _ | refine le_alloc ?_ | refine le_set ?_ | refine le_drew ?_ | refine below_step (by assumption) ?_ ?_ | refine le_below (by assumption) ?_) | (dsimp only; omega)))).2.2.2 bk .i64 [13, 15, 16, 17, 18, 19, 21, 22] (by omega) (by omega) hN0.out 6 (by decide))
                  obtain ⟨r1_71, r2_71, r3_71, r4_71⟩ := round_q hbw hL.out hA.out hz q2 q3 (by repeat (first | (with_reducible first | exact Below.refl _ _ | assumption | exact Nat.le_refl _ | refine Below.drew ?_ | refine Below.alloc ?_ ?_ _ | refine Below.setCell ?_ ?_ _ | refine le_alloc ?_ | refine le_set ?_ | refine le_drew ?_ | refine below_step (by assumption) ?_ ?_ | refine le_below (by assumption) ?_) | (dsimp only; omega)))
                  have N71_0 := Lib.hid (r4_71 _ _ _ (by omega) (by omega) hN0.out)
                  have hA_71 := Lib.hid r3_71
                  have hz_71 := Nat.le_trans hz r2_71
                  clear r3_71 r4_71
                  have Q71 : Hid (OwnT x71 w.heap.size v71 (wh4 6 ++ [op3W 19 6 21 ⟨#[100, 49, 73, 61]⟩ 0 false false])) := q1
                  clear q1 q2 q3
                  go_wp2_with fail
                  refine (op7_c 51 6 0 (by decide) (by decide) (by decide) 21 ⟨#[100, 49, 50]⟩ _).mono ?_; rintro e w72 ⟨rfl, hb72⟩
                  go_wp2_with fail
                  refine (op7_c 51 6 1 (by decide) (by decide) (by decide) 29 ⟨#[100, 49, 50]⟩ _).mono ?_; rintro e w73 ⟨rfl, hb73⟩
                  go_wp2_with (at_builtin; refine append_q rfl (.tmp 88) (.tmp 101) rfl w.heap.size v71 (wh4 6 ++ [op3W 19 6 21 ⟨#[100, 49, 73, 61]⟩ 0 false false]) (by simp [Act.eval, Act.put]) (own_below Q71.out (by repeat (first | (with_reducible first | exact Below.refl _ _ | assumption | exact Nat.le_refl _ | refine Below.drew ?_ | refine Below.alloc ?_ ?_ _ | refine Below.setCell ?_ ?_ _ | refine le_alloc ?_ | refine le_set ?_ | refine le_drew ?_ | refine below_step (by assumption) ?_ ?_ | refine le_below (by assumption) ?_) | (dsimp only; omega)))) (by rw [List.length_append]; have := wh4_len 6 (by decide); show _ + 1 ≤ 500; omega) w73.heap.size (.slice (some ⟨w73.heap.size, 0, none⟩) 2 2) [op7W 51 6 0 21 ⟨#[100, 49, 50]⟩ 0 false false, op7W 51 6 1 29 ⟨#[100, 49, 50]⟩ 0 false false] (by simp [Act.eval, Act.put]) (own_built w73 w73.heap.size 2 _ _ (Nat.le_refl _) rfl (by decide) rfl) ⟨by simp, by simp⟩ (by repeat (first | (with_reducible first | exact Below.refl _ _ | assumption | exact Nat.le_refl _ | refine Below.drew ?_ | refine Below.alloc ?_ ?_ _ | refine Below.setCell ?_ ?_ _ | refine le_alloc ?_ | refine le_set ?_ | refine le_drew ?_ | refine below_step (by assumption) ?_ ?_ | refine le_below (by assumption) ?_) | (dsimp only; omega))) ?_; intro v74 x74 q1 q2 q3)
                  obtain ⟨r1_74, r2_74, r3_74, r4_74⟩ := round_q r1_71 Q71.out hA_71.out hz_71 q2 q3 (by repeat (first | (with_reducible first | exact Below.refl _ _ | assumption | exact Nat.le_refl _ | refine Below.drew ?_ | refine Below.alloc ?_ ?_ _ | refine Below.setCell ?_ ?_ _ | refine le_alloc ?_ | refine le_set ?_ | refine le_drew ?_ | refine below_step (by assumption) ?_ ?_ | refine le_below (by assumption) ?_) | (dsimp only; omega)))
                  have N74_0 := Lib.hid (r4_74 _ _ _ (by omega) (by omega) N71_0.out)
                  have hA_74 := Lib.hid r3_74
                  have hz_74 := Nat.le_trans hz_71 r2_74
                  clear r3_74 r4_74
                  have Q74 : Hid (OwnT x74 w.heap.size v74 (wh4 7)) := q1
                  clear q1 q2 q3
                  go_wp2_with fail
                  go_roundw
                  case rel => first | exact ⟨7, by omega, by first | rfl | go_num, Q74, hA_74, N74_0, hz_74, r1_74⟩ | ((repeat apply Exists.intro); exact ⟨⟨7, by omega, by first | rfl | go_num, Q74, hA_74, N74_0, hz_74, r1_74⟩, rfl⟩)
                  case measure => simp [intOf]
                · skip
                  have n1 : wr.cell? ⟨bk, 7, none⟩ = some (.int .i64 22) := hN0.out 7 (by decide)
                  go_wp2_with fail
                  refine (op3_c 19 7 (by decide) (by decide) 22 ⟨#[100, 49, 73, 61]⟩ _).mono ?_; rintro e w75 ⟨rfl, hb75⟩
                  go_wp2_with (at_builtin; refine append_q rfl (.tmp 78) (.tmp 86) rfl w.heap.size u1 (wh4 7) (by simp [Act.eval, Act.put]) (own_below hL.out (by repeat (first | (with_reducible first | exact Below.refl _ _ | assumption | exact Nat.le_refl _ | refine Below.drew ?_ | refine Below.alloc ?_ ?_ _ | refine Below.setCell ?_ ?_ _ | refine le_alloc ?_ | refine le_set ?_ | refine le_drew ?_ | refine below_step (by assumption) ?_ ?_ | refine le_below (by assumption) ?_) | (dsimp only; omega)))) (Nat.le_trans (wh4_len 7 (by decide)) (by decide)) w75.heap.size (.slice (some ⟨w75.heap.size, 0, none⟩) 1 1) [op3W 19 7 22 ⟨#[100, 49, 73, 61]⟩ 0 false false] (by simp [Act.eval, Act.put]) (own_built w75 w75.heap.size 1 _ _ (Nat.le_refl _) rfl (by decide) rfl) ⟨by simp, by simp⟩ (by repeat (first | (with_reducible first | exact Below.refl _ _ | assumption | exact Nat.le_refl _ | refine Below.drew ?_ | refine Below.alloc ?_ ?_ _ | refine Below.setCell ?_ ?_ _ | refine le_alloc ?_ | refine le_set ?_ | refine le_drew ?_ | refine below_step (by assumption) ?_ ?_ | refine le_below (by assumption) ?_) | (dsimp only; omega))) ?_; intro v76 x76 q1 q2 q3; have n2 : x76.cell? ⟨bk, 7, none⟩ = some (.int .i64 22) := (round_q hbw hL.out hA.out hz q2 q3 (by repeat (first | (with_reducible first | exact Below.refl _ _ | assumption | exact Nat.le_refl _ | refine Below.drew ?_ | refine Below.alloc ?_ ?_ _ | refine Below.setCell ?_ ?_ _ | refine le_alloc ?_ | refine le_set ?_ | refine le_drew ?_ | refine below_step (by assumption) ?_ ?_ | refine le_below (by assumption) ?_) | (dsimp only; omega)))).2.2.2 bk .i64 [13, 15, 16, 17, 18, 19, 21, 22] (by omega) (by omega) hN0.out 7 (by decide))
                  obtain ⟨r1_76, r2_76, r3_76, r4_76⟩ := round_q hbw hL.out hA.out hz q2 q3 (by repeat (first | (with_reducible first | exact Below.refl _ _ | assumption | exact Nat.le_refl _ | refine Below.drew ?_ | refine Below.alloc ?_ ?_ _ | refine Below.setCell ?_ ?_ _ | refine le_alloc ?_ | refine le_set ?_ | refine le_drew ?_ | refine below_step (by assumption) ?_ ?_ | refine le_below (by assumption) ?_) | (dsimp only; omega)))
                  have N76_0 := Lib.hid (r4_76 _ _ _ (by omega) (by omega) hN0.out)
                  have hA_76 := Lib.hid r3_76
                  have hz_76 := Nat.le_trans hz r2_76
                  clear r3_76 r4_76
                  have Q76 : Hid (OwnT x76 w.heap.size v76 (wh4 7 ++ [op3W 19 7 22 ⟨#[100, 49, 73, 61]⟩ 0 false false])) := q1
                  clear q1 q2 q3
                  go_wp2_with fail
                  refine (op7_c 51 7 0 (by decide) (by decide) (by decide) 22 ⟨#[100, 49, 50]⟩ _).mono ?_; rintro e w77 ⟨rfl, hb77⟩
                  go_wp2_with fail
                  refine (op7_c 51 7 1 (by decide) (by decide) (by decide) 30 ⟨#[100, 49, 50]⟩ _).mono ?_; rintro e w78 ⟨rfl, hb78⟩
                  go_wp2_with (at_builtin; refine append_q rfl (.tmp 88) (.tmp 101) rfl w.heap.size v76 (wh4 7 ++ [op3W 19 7 22 ⟨#[100, 49, 73, 61]⟩ 0 false false]) (by simp [Act.eval, Act.put]) (own_below Q76.out (by repeat (first | (with_reducible first | exact Below.refl _ _ | assumption | exact Nat.le_refl _ | refine Below.drew ?_ | refine Below.alloc ?_ ?_ _ | refine Below.setCell ?_ ?_ _ | refine le_alloc ?_ | refine le_set ?_ | refine le_drew ?_ | refine below_step (by assumption) ?_ ?_ | refine le_below (by assumption) ?_) | (dsimp only; omega)))) (by rw [List.length_append]; have := wh4_len 7 (by decide); show _ + 1 ≤ 500; omega) w78.heap.size (.slice (some ⟨w78.heap.size, 0, none⟩) 2 2) [op7W 51 7 0 22 ⟨#[100, 49, 50]⟩ 0 false false, op7W 51 7 1 30 ⟨#[100, 49, 50]⟩ 0 false false] (by simp [Act.eval, Act.put]) (own_built w78 w78.heap.size 2 _ _ (Nat.le_refl _) rfl (by decide) rfl) ⟨by simp, by simp⟩ (by repeat (first | (with_reducible first | exact Below.refl _ _ | assumption | exact Nat.le_refl _ | refine Below.drew ?_ | refine Below.alloc ?_ ?_ _ | refine Below.setCell ?_ ?_ _ | refine le_alloc ?_ | refine le_set ?_ | refine le_drew ?_ | refine below_step (by assumption) ?_ ?_ | refine le_below (by assumption) ?_) | (dsimp only; omega))) ?_; intro v79 x79 q1 q2 q3)
                  obtain ⟨r1_79, r2_79, r3_79, r4_79⟩ := round_q r1_76 Q76.out hA_76.out hz_76 q2 q3 (by repeat (first | (with_reducible first | exact Below.refl _ _ | assumption | exact Nat.le_refl _ | refine Below.drew ?_ | refine Below.alloc ?_ ?_ _ | refine Below.setCell ?_ ?_ _ | refine le_alloc ?_ | refine le_set ?_ | refine le_drew ?_ | refine below_step (by assumption) ?_ ?_ | refine le_below (by assumption) ?_) | (dsimp only; omega)))
                  have N79_0 := Lib.hid (r4_79 _ _ _ (by omega) (by omega) N76_0.out)
                  have hA_79 := Lib.hid r3_79
                  have hz_79 := Nat.le_trans hz_76 r2_79
                  clear r3_79 r4_79
                  have Q79 : Hid (OwnT x79 w.heap.size v79 (wh4 8)) := q1
                  clear q1 q2 q3
                  go_wp2_with fail
                  go_roundw
                  case rel => first | exact ⟨8, by omega, by first | rfl | go_num, Q79, hA_79, N79_0, hz_79, r1_79⟩ | ((repeat apply Exists.intro); exact ⟨⟨8, by omega, by first | rfl | go_num, Q79, hA_79, N79_0, hz_79, r1_79⟩, rfl⟩)
                  case measure => simp [intOf]
                · skip
                  
                  go_wp2_with fail
                  have HLx : Hid (OwnT wr w.heap.size u1 (wh4 8)) := hL.out
                  have HWx := hbw
                  clear hL hA hN0 hz hbw
                  refine (op7_c 51 0 32 (by decide) (by decide) (by decide) 14 ⟨#[100, 49, 50]⟩ _).mono ?_; rintro e w81 ⟨rfl, hb81⟩
                  go_wp2_with fail
                  refine (op7_c 51 5 32 (by decide) (by decide) (by decide) 20 ⟨#[100, 49, 50]⟩ _).mono ?_; rintro e w82 ⟨rfl, hb82⟩
                  go_wp2_with (at_builtin; refine append_q rfl (.tmp 103) (.tmp 106) rfl w.heap.size u1 (wh4 8) (by simp [Act.eval, Act.put]) (own_below HLx.out (by repeat (first | (with_reducible first | exact Below.refl _ _ | assumption | exact Nat.le_refl _ | refine Below.drew ?_ | refine Below.alloc ?_ ?_ _ | refine Below.setCell ?_ ?_ _ | refine le_alloc ?_ | refine le_set ?_ | refine le_drew ?_ | refine below_step (by assumption) ?_ ?_ | refine le_below (by assumption) ?_) | (dsimp only; omega)))) (Nat.le_trans (wh4_len 8 (by decide)) (by decide)) w82.heap.size (.slice (some ⟨w82.heap.size, 0, none⟩) 2 2) [op7W 51 0 32 14 ⟨#[100, 49, 50]⟩ 0 false false, op7W 51 5 32 20 ⟨#[100, 49, 50]⟩ 0 false false] (by simp [Act.eval, Act.put]) (own_built w82 w82.heap.size 2 _ _ (Nat.le_refl _) rfl (by decide) rfl) ⟨by simp, by simp⟩ (by repeat (first | (with_reducible first | exact Below.refl _ _ | assumption | exact Nat.le_refl _ | refine Below.drew ?_ | refine Below.alloc ?_ ?_ _ | refine Below.setCell ?_ ?_ _ | refine le_alloc ?_ | refine le_set ?_ | refine le_drew ?_ | refine below_step (by assumption) ?_ ?_ | refine le_below (by assumption) ?_) | (dsimp only; omega))) ?_; intro v83 x83 q1 q2 q3)
                  have r1_83 := grow_q HWx (by repeat (first | (with_reducible first | exact Below.refl _ _ | assumption | exact Nat.le_refl _ | refine Below.drew ?_ | refine Below.alloc ?_ ?_ _ | refine Below.setCell ?_ ?_ _ | refine le_alloc ?_ | refine le_set ?_ | refine le_drew ?_ | refine below_step (by assumption) ?_ ?_ | refine le_below (by assumption) ?_) | (dsimp only; omega))) HLx.out q2
                  have Q83 : Hid (OwnT x83 w.heap.size v83 (wh6 0)) := q1
                  clear q1 q2 q3
                  go_wp2_with fail
                  obtain ⟨bs, hbs⟩ : ∃ b, b = x83.heap.size := ⟨_, rfl⟩
                  have HL5 : Hid (OwnT (((x83.alloc (Obj.cells #[.int .i64 15, .int .i64 19, .int .i64 20] 3)).alloc (Obj.cells #[.int .u32 1, .int .u32 5, .int .u32 5] 22)).alloc (Obj.cells #[.int .u32 0, .int .u32 0, .int .u32 32] 22)) w.heap.size v83 (wh6 0)) := own_alloc (own_alloc (own_alloc Q83.out _) _) _
                  have HA5 : Hid (Apart v83 bs (bs + 1 + 1 + 1)) := fun k hk => by have := (own_lt Q83.out k hk).2; omega
                  have HN5a : Hid (NumsAt (((x83.alloc (Obj.cells #[.int .i64 15, .int .i64 19, .int .i64 20] 3)).alloc (Obj.cells #[.int .u32 1, .int .u32 5, .int .u32 5] 22)).alloc (Obj.cells #[.int .u32 0, .int .u32 0, .int .u32 32] 22)) bs .i64 [15, 19, 20]) := by rw [hbs]; exact nums_alloc (nums_alloc (nums_new x83 .i64 [15, 19, 20] _) _ (by rw [sz_alloc]; omega)) _ (by rw [sz_alloc, sz_alloc]; omega)
                  have HN5b : Hid (NumsAt (((x83.alloc (Obj.cells #[.int .i64 15, .int .i64 19, .int .i64 20] 3)).alloc (Obj.cells #[.int .u32 1, .int .u32 5, .int .u32 5] 22)).alloc (Obj.cells #[.int .u32 0, .int .u32 0, .int .u32 32] 22)) (bs + 1) .u32 [1, 5, 5]) := by rw [hbs, ← sz_alloc x83 (Obj.cells #[.int .i64 15, .int .i64 19, .int .i64 20] 3)]; exact nums_alloc (nums_new _ .u32 [1, 5, 5] _) _ (by simp only [sz_alloc]; omega)
                  have HN5c : Hid (NumsAt (((x83.alloc (Obj.cells #[.int .i64 15, .int .i64 19, .int .i64 20] 3)).alloc (Obj.cells #[.int .u32 1, .int .u32 5, .int .u32 5] 22)).alloc (Obj.cells #[.int .u32 0, .int .u32 0, .int .u32 32] 22)) (bs + 1 + 1) .u32 [0, 0, 32]) := by rw [hbs, ← sz_alloc x83 (Obj.cells #[.int .i64 15, .int .i64 19, .int .i64 20] 3), ← sz_alloc (x83.alloc _) (Obj.cells #[.int .u32 1, .int .u32 5, .int .u32 5] 22)]; exact nums_new _ .u32 [0, 0, 32] _
                  have HW5 : Below w.heap.size w (((x83.alloc (Obj.cells #[.int .i64 15, .int .i64 19, .int .i64 20] 3)).alloc (Obj.cells #[.int .u32 1, .int .u32 5, .int .u32 5] 22)).alloc (Obj.cells #[.int .u32 0, .int .u32 0, .int .u32 32] 22)) := (by repeat (first | (with_reducible first | exact Below.refl _ _ | assumption | exact Nat.le_refl _ | refine Below.drew ?_ | refine Below.alloc ?_ ?_ _ | refine Below.setCell ?_ ?_ _ | refine le_alloc ?_ | refine le_set ?_ | refine le_drew ?_ | refine below_step (by assumption) ?_ ?_ | refine le_below (by assumption) ?_) | (dsimp only; omega)))
                  have HZ5 : bs + 1 + 1 + 1 ≤ (((x83.alloc (Obj.cells #[.int .i64 15, .int .i64 19, .int .i64 20] 3)).alloc (Obj.cells #[.int .u32 1, .int .u32 5, .int .u32 5] 22)).alloc (Obj.cells #[.int .u32 0, .int .u32 0, .int .u32 32] 22)).heap.size := by simp only [sz_alloc]; omega
                  rw [← hbs]
                  clear hbs Q83 r1_83
                  go_loopw [1, 11] (fun l i wr => ∃ k : Nat, k ≤ 3 ∧ i = .int .i64 k ∧ Hid (OwnT wr w.heap.size l (wh6 k)) ∧ Hid (Apart l (bs) (bs + 1 + 1 + 1)) ∧ Hid (NumsAt wr (bs) .i64 [15, 19, 20]) ∧ Hid (NumsAt wr (bs + 1) .u32 [1, 5, 5]) ∧ Hid (NumsAt wr (bs + 1 + 1) .u32 [0, 0, 32]) ∧ bs + 1 + 1 + 1 ≤ wr.heap.size ∧ Below w.heap.size w wr) (fun _ i _ => 3 - (intOf i).toNat)
                  case atStart => exact ⟨0, by omega, rfl, HL5, HA5, HN5a, HN5b, HN5c, HZ5, HW5⟩
                  case round =>
                    clear HL5 HW5 HA5 HN5a HN5b HN5c HZ5
                    obtain ⟨k, hk, rfl, hL, hA, hN0, hN1, hN2, hz, hbw⟩ := hrel
                    have hkc : k = 0 ∨ k = 1 ∨ k = 2 ∨ k = 3 := by omega
                    clear hk
                    rcases hkc with rfl | rfl | rfl | rfl
                    · skip
                      have m1_wr : wr.cell? ⟨bs, 0, none⟩ = some (.int .i64 15) := hN0.out 0 (by decide)
                      have m2_wr : wr.cell? ⟨bs + 1, 0, none⟩ = some (.int .u32 1) := hN1.out 0 (by decide)
                      have m3_wr : wr.cell? ⟨bs + 1 + 1, 0, none⟩ = some (.int .u32 0) := hN2.out 0 (by decide)
                      have e1 : bits .or .u32 19 4096 = 4115 := by decide
                      have e2 : bits .or .u32 4115 0 = 4115 := by decide
                      go_upto_region 29 with fail
                      go_cut [1] (fun s1 wx => ∃ v, v = s1 ∧ Hid (OwnT wx w.heap.size v (wh6 0 ++ [⟨4227887231, shB 0, shF 0, ⟨#[100, 49, 104, 61]⟩, 0, false, false⟩])) ∧ Hid (Apart v bs (bs + 1 + 1 + 1)) ∧ Hid (NumsAt wx bs .i64 [15, 19, 20]) ∧ Hid (NumsAt wx (bs + 1) .u32 [1, 5, 5]) ∧ Hid (NumsAt wx (bs + 1 + 1) .u32 [0, 0, 32]) ∧ bs + 1 + 1 + 1 ≤ wx.heap.size ∧ Below w.heap.size w wx)
                      case first =>
                        go_wp2_with fail
                        go_region_law (first | (refine step_append_q rfl (.tmp 115) (.tmp 133) rfl w.heap.size u1 (wh6 0) (by simp [Act.eval, Act.put]) (own_below hL.out (by repeat (first | (with_reducible first | exact Below.refl _ _ | assumption | exact Nat.le_refl _ | refine Below.drew ?_ | refine Below.alloc ?_ ?_ _ | refine Below.setCell ?_ ?_ _ | refine le_alloc ?_ | refine le_set ?_ | refine le_drew ?_ | refine below_step (by assumption) ?_ ?_ | refine le_below (by assumption) ?_) | (dsimp only; omega)))) (Nat.le_trans (wh6_len 0 (by decide)) (by decide)) wr.heap.size (.slice (some ⟨wr.heap.size, 0, none⟩) 1 1) [⟨4227887231, shB 0, shF 0, ⟨#[100, 49, 104, 61]⟩, 0, false, false⟩] (by simp [Act.eval, Act.put]) (own_built wr.drew wr.heap.size 1 _ _ (Nat.le_refl _) rfl (by decide) rfl) ⟨by simp, by simp⟩ (by repeat (first | (with_reducible first | exact Below.refl _ _ | assumption | exact Nat.le_refl _ | refine Below.drew ?_ | refine Below.alloc ?_ ?_ _ | refine Below.setCell ?_ ?_ _ | refine le_alloc ?_ | refine le_set ?_ | refine le_drew ?_ | refine below_step (by assumption) ?_ ?_ | refine le_below (by assumption) ?_) | (dsimp only; omega))) ?_; intro v84 x84 q1 q2 q3))
                        all_goals
                          obtain ⟨r1_84, r2_84, r3_84, r4_84⟩ := round_q hbw hL.out hA.out hz q2 q3 (by repeat (first | (with_reducible first | exact Below.refl _ _ | assumption | exact Nat.le_refl _ | refine Below.drew ?_ | refine Below.alloc ?_ ?_ _ | refine Below.setCell ?_ ?_ _ | refine le_alloc ?_ | refine le_set ?_ | refine le_drew ?_ | refine below_step (by assumption) ?_ ?_ | refine le_below (by assumption) ?_) | (dsimp only; omega)))
                          have N84_0 := Lib.hid (r4_84 _ _ _ (by omega) (by omega) hN0.out)
                          have N84_1 := Lib.hid (r4_84 _ _ _ (by omega) (by omega) hN1.out)
                          have N84_2 := Lib.hid (r4_84 _ _ _ (by omega) (by omega) hN2.out)
                          have hA_84 := Lib.hid r3_84
                          have hz_84 := Nat.le_trans hz r2_84
                          clear r3_84 r4_84
                          have Q84 : Hid (OwnT x84 w.heap.size v84 (wh6 0 ++ [⟨4227887231, shB 0, shF 0, ⟨#[100, 49, 104, 61]⟩, 0, false, false⟩])) := q1
                          clear q1 q2 q3
                          go_wp2_with fail
                          go_meet
                          exact ⟨_, rfl, Q84, hA_84, N84_0, N84_1, N84_2, hz_84, r1_84⟩
                      case rest =>
                        clear hL hA hN0 hN1 hN2 hz hbw m1_wr m2_wr m3_wr
                        obtain ⟨vc, rfl, hL, hA, hN0, hN1, hN2, hz, hbw⟩ := hcut
                        have m1_wc : wc.cell? ⟨bs, 0, none⟩ = some (.int .i64 15) := hN0.out 0 (by decide)
                        have m2_wc : wc.cell? ⟨bs + 1, 0, none⟩ = some (.int .u32 1) := hN1.out 0 (by decide)
                        have m3_wc : wc.cell? ⟨bs + 1 + 1, 0, none⟩ = some (.int .u32 0) := hN2.out 0 (by decide)
                        go_wp2_with fail
                        have C85 := Lib.hid (fun v => op7_c 27 1 0 (by decide) (by decide) (by decide) 15 ⟨#[100, 49, 104, 61]⟩ v)
                        have C86 := Lib.hid (fun v => worded_c 4261441663 (b7 27 1 0 : Nat) 15 ⟨#[100, 49, 104, 61]⟩ 0 false false true false v)
                        have C87 := Lib.hid (fun v => op7_c 59 1 0 (by decide) (by decide) (by decide) 15 ⟨#[100, 49, 50]⟩ v)
                        have C88 := Lib.hid (fun v => worded_c 4261441663 (b7 59 1 0 : Nat) 15 ⟨#[100, 49, 50]⟩ 0 false false true false v)
                        go_region_held3 (fun w' => w'.cell? ⟨bs, 0, none⟩ = some (.int .i64 15) ∧ w'.cell? ⟨bs + 1, 0, none⟩ = some (.int .u32 1) ∧ w'.cell? ⟨bs + 1 + 1, 0, none⟩ = some (.int .u32 0)) (first | exact ⟨by assumption, by assumption, by assumption⟩ | (all_goals (first | (go_keep; done) | (simp (disch := omega) only [cell_set_far]; simp [*])))) (first | (refine step_go rfl 40 _ Try.func40 (by kernel_rfl) _ rfl _ _ rfl _ ?_ _ (fun w' => Below _ _ w') (C85.out _) ?_; (focus (first | (simp [Act.eval, Act.put]; done) | (simp [Act.eval, Act.put]; decide))); intro w85 hb85; have y1_85 : w85.cell? ⟨bs, 0, none⟩ = some (.int .i64 15) := (hb85.cell (p := ⟨bs, 0, none⟩) (by  show bs < _; first | omega | (simp only [sz_drew]; omega) | (simp only [sz_drew] at *; omega))).trans m1_wc; have y2_85 : w85.cell? ⟨bs + 1, 0, none⟩ = some (.int .u32 1) := (hb85.cell (p := ⟨bs + 1, 0, none⟩) (by  show bs + 1 < _; first | omega | (simp only [sz_drew]; omega) | (simp only [sz_drew] at *; omega))).trans m2_wc; have y3_85 : w85.cell? ⟨bs + 1 + 1, 0, none⟩ = some (.int .u32 0) := (hb85.cell (p := ⟨bs + 1 + 1, 0, none⟩) (by  show bs + 1 + 1 < _; first | omega | (simp only [sz_drew]; omega) | (simp only [sz_drew] at *; omega))).trans m3_wc) | (refine step_go rfl 39 _ Try.func39 (by kernel_rfl) _ rfl _ _ rfl _ ?_ _ (fun w' => Below _ _ w') (C86.out _) ?_; (focus (first | (simp [Act.eval, Act.put]; done) | (simp [Act.eval, Act.put]; decide))); intro w86 hb86; have y1_86 : w86.cell? ⟨bs, 0, none⟩ = some (.int .i64 15) := (hb86.cell (p := ⟨bs, 0, none⟩) (by have := hb85.size;  show bs < _; first | omega | (simp only [sz_drew]; omega) | (simp only [sz_drew] at *; omega))).trans y1_85; have y2_86 : w86.cell? ⟨bs + 1, 0, none⟩ = some (.int .u32 1) := (hb86.cell (p := ⟨bs + 1, 0, none⟩) (by have := hb85.size;  show bs + 1 < _; first | omega | (simp only [sz_drew]; omega) | (simp only [sz_drew] at *; omega))).trans y2_85; have y3_86 : w86.cell? ⟨bs + 1 + 1, 0, none⟩ = some (.int .u32 0) := (hb86.cell (p := ⟨bs + 1 + 1, 0, none⟩) (by have := hb85.size;  show bs + 1 + 1 < _; first | omega | (simp only [sz_drew]; omega) | (simp only [sz_drew] at *; omega))).trans y3_85) | (refine step_go rfl 40 _ Try.func40 (by kernel_rfl) _ rfl _ _ rfl _ ?_ _ (fun w' => Below _ _ w') (C87.out _) ?_; (focus (first | (simp [Act.eval, Act.put]; done) | (simp [Act.eval, Act.put]; decide))); intro w87 hb87; have y1_87 : w87.cell? ⟨bs, 0, none⟩ = some (.int .i64 15) := (hb87.cell (p := ⟨bs, 0, none⟩) (by have := hb85.size; have := hb86.size;  show bs < _; first | omega | (simp only [sz_drew]; omega) | (simp only [sz_drew] at *; omega))).trans y1_86; have y2_87 : w87.cell? ⟨bs + 1, 0, none⟩ = some (.int .u32 1) := (hb87.cell (p := ⟨bs + 1, 0, none⟩) (by have := hb85.size; have := hb86.size;  show bs + 1 < _; first | omega | (simp only [sz_drew]; omega) | (simp only [sz_drew] at *; omega))).trans y2_86; have y3_87 : w87.cell? ⟨bs + 1 + 1, 0, none⟩ = some (.int .u32 0) := (hb87.cell (p := ⟨bs + 1 + 1, 0, none⟩) (by have := hb85.size; have := hb86.size;  show bs + 1 + 1 < _; first | omega | (simp only [sz_drew]; omega) | (simp only [sz_drew] at *; omega))).trans y3_86) | (refine step_go rfl 39 _ Try.func39 (by kernel_rfl) _ rfl _ _ rfl _ ?_ _ (fun w' => Below _ _ w') (C88.out _) ?_; (focus (first | (simp [Act.eval, Act.put]; done) | (simp [Act.eval, Act.put]; decide))); intro w88 hb88; have y1_88 : w88.cell? ⟨bs, 0, none⟩ = some (.int .i64 15) := (hb88.cell (p := ⟨bs, 0, none⟩) (by have := hb85.size; have := hb86.size; have := hb87.size;  show bs < _; first | omega | (simp only [sz_drew]; omega) | (simp only [sz_drew] at *; omega))).trans y1_87; have y2_88 : w88.cell? ⟨bs + 1, 0, none⟩ = some (.int .u32 1) := (hb88.cell (p := ⟨bs + 1, 0, none⟩) (by have := hb85.size; have := hb86.size; have := hb87.size;  show bs + 1 < _; first | omega | (simp only [sz_drew]; omega) | (simp only [sz_drew] at *; omega))).trans y2_87; have y3_88 : w88.cell? ⟨bs + 1 + 1, 0, none⟩ = some (.int .u32 0) := (hb88.cell (p := ⟨bs + 1 + 1, 0, none⟩) (by have := hb85.size; have := hb86.size; have := hb87.size;  show bs + 1 + 1 < _; first | omega | (simp only [sz_drew]; omega) | (simp only [sz_drew] at *; omega))).trans y3_87) | (refine step_append_q rfl (.tmp 135) (.tmp 164) rfl w.heap.size vc (wh6 0 ++ [⟨4227887231, shB 0, shF 0, ⟨#[100, 49, 104, 61]⟩, 0, false, false⟩]) (by simp [Act.eval, Act.put]) (own_below hL.out (by repeat (first | (with_reducible first | exact Below.refl _ _ | assumption | exact Nat.le_refl _ | refine Below.drew ?_ | refine Below.alloc ?_ ?_ _ | refine Below.setCell ?_ ?_ _ | refine le_alloc ?_ | refine le_set ?_ | refine le_drew ?_ | refine below_step (by assumption) ?_ ?_ | refine le_below (by assumption) ?_) | (dsimp only; omega)))) (by rw [List.length_append]; have := wh6_len 0 (by decide); show _ + 1 ≤ 500; omega) w88.heap.size (.slice (some ⟨w88.heap.size, 0, none⟩) 2 2) [op7W 27 1 0 15 ⟨#[100, 49, 104, 61]⟩ 0 true false, op7W 59 1 0 15 ⟨#[100, 49, 50]⟩ 0 true false] (by simp [Act.eval, Act.put]) (own_built w88 w88.heap.size 2 _ _ (Nat.le_refl _) rfl (by decide) rfl) ⟨by simp, by simp⟩ (by repeat (first | (with_reducible first | exact Below.refl _ _ | assumption | exact Nat.le_refl _ | refine Below.drew ?_ | refine Below.alloc ?_ ?_ _ | refine Below.setCell ?_ ?_ _ | refine le_alloc ?_ | refine le_set ?_ | refine le_drew ?_ | refine below_step (by assumption) ?_ ?_ | refine le_below (by assumption) ?_) | (dsimp only; omega))) ?_; intro v89 x89 q1 q2 q3; obtain ⟨_, _, _, rr⟩ := round_q hbw hL.out hA.out hz q2 q3 (by repeat (first | (with_reducible first | exact Below.refl _ _ | assumption | exact Nat.le_refl _ | refine Below.drew ?_ | refine Below.alloc ?_ ?_ _ | refine Below.setCell ?_ ?_ _ | refine le_alloc ?_ | refine le_set ?_ | refine le_drew ?_ | refine below_step (by assumption) ?_ ?_ | refine le_below (by assumption) ?_) | (dsimp only; omega))); have p1 := rr bs .i64 [15, 19, 20] (by omega) (by omega) hN0.out 0 (by decide); have p2 := rr (bs + 1) .u32 [1, 5, 5] (by omega) (by omega) hN1.out 0 (by decide); have p3 := rr (bs + 1 + 1) .u32 [0, 0, 32] (by omega) (by omega) hN2.out 0 (by decide); clear rr))
                        obtain ⟨r1_89, r2_89, r3_89, r4_89⟩ := round_q hbw hL.out hA.out hz q2 q3 (by repeat (first | (with_reducible first | exact Below.refl _ _ | assumption | exact Nat.le_refl _ | refine Below.drew ?_ | refine Below.alloc ?_ ?_ _ | refine Below.setCell ?_ ?_ _ | refine le_alloc ?_ | refine le_set ?_ | refine le_drew ?_ | refine below_step (by assumption) ?_ ?_ | refine le_below (by assumption) ?_) | (dsimp only; omega)))
                        have N89_0 := Lib.hid (r4_89 _ _ _ (by omega) (by omega) hN0.out)
                        have N89_1 := Lib.hid (r4_89 _ _ _ (by omega) (by omega) hN1.out)
                        have N89_2 := Lib.hid (r4_89 _ _ _ (by omega) (by omega) hN2.out)
                        have hA_89 := Lib.hid r3_89
                        have hz_89 := Nat.le_trans hz r2_89
                        clear r3_89 r4_89
                        have Q89 : Hid (OwnT x89 w.heap.size v89 (wh6 1)) := q1
                        clear q1 q2 q3
                        go_wp2_with fail
                        go_roundw
                        case rel => first | exact ⟨1, by omega, by first | rfl | go_num, Q89, hA_89, N89_0, N89_1, N89_2, hz_89, r1_89⟩ | ((repeat apply Exists.intro); exact ⟨⟨1, by omega, by first | rfl | go_num, Q89, hA_89, N89_0, N89_1, N89_2, hz_89, r1_89⟩, rfl⟩)
                        case measure => simp [intOf]
                    · skip
                      have m1_wr : wr.cell? ⟨bs, 1, none⟩ = some (.int .i64 19) := hN0.out 1 (by decide)
                      have m2_wr : wr.cell? ⟨bs + 1, 1, none⟩ = some (.int .u32 5) := hN1.out 1 (by decide)
                      have m3_wr : wr.cell? ⟨bs + 1 + 1, 1, none⟩ = some (.int .u32 0) := hN2.out 1 (by decide)
                      have e1 : bits .or .u32 19 20480 = 20499 := by decide
                      have e2 : bits .or .u32 20499 0 = 20499 := by decide
                      go_upto_region 29 with fail
                      go_cut [1] (fun s1 wx => ∃ v, v = s1 ∧ Hid (OwnT wx w.heap.size v (wh6 1 ++ [⟨4227887231, shB 1, shF 1, ⟨#[100, 49, 104, 61]⟩, 0, false, false⟩])) ∧ Hid (Apart v bs (bs + 1 + 1 + 1)) ∧ Hid (NumsAt wx bs .i64 [15, 19, 20]) ∧ Hid (NumsAt wx (bs + 1) .u32 [1, 5, 5]) ∧ Hid (NumsAt wx (bs + 1 + 1) .u32 [0, 0, 32]) ∧ bs + 1 + 1 + 1 ≤ wx.heap.size ∧ Below w.heap.size w wx)
                      case first =>
                        go_wp2_with fail
                        go_region_law (first | (refine step_append_q rfl (.tmp 115) (.tmp 133) rfl w.heap.size u1 (wh6 1) (by simp [Act.eval, Act.put]) (own_below hL.out (by repeat (first | (with_reducible first | exact Below.refl _ _ | assumption | exact Nat.le_refl _ | refine Below.drew ?_ | refine Below.alloc ?_ ?_ _ | refine Below.setCell ?_ ?_ _ | refine le_alloc ?_ | refine le_set ?_ | refine le_drew ?_ | refine below_step (by assumption) ?_ ?_ | refine le_below (by assumption) ?_) | (dsimp only; omega)))) (Nat.le_trans (wh6_len 1 (by decide)) (by decide)) wr.heap.size (.slice (some ⟨wr.heap.size, 0, none⟩) 1 1) [⟨4227887231, shB 1, shF 1, ⟨#[100, 49, 104, 61]⟩, 0, false, false⟩] (by simp [Act.eval, Act.put]) (own_built wr.drew wr.heap.size 1 _ _ (Nat.le_refl _) rfl (by decide) rfl) ⟨by simp, by simp⟩ (by repeat (first | (with_reducible first | exact Below.refl _ _ | assumption | exact Nat.le_refl _ | refine Below.drew ?_ | refine Below.alloc ?_ ?_ _ | refine Below.setCell ?_ ?_ _ | refine le_alloc ?_ | refine le_set ?_ | refine le_drew ?_ | refine below_step (by assumption) ?_ ?_ | refine le_below (by assumption) ?_) | (dsimp only; omega))) ?_; intro v90 x90 q1 q2 q3))
                        all_goals
                          obtain ⟨r1_90, r2_90, r3_90, r4_90⟩ := round_q hbw hL.out hA.out hz q2 q3 (by repeat (first | (with_reducible first | exact Below.refl _ _ | assumption | exact Nat.le_refl _ | refine Below.drew ?_ | refine Below.alloc ?_ ?_ _ | refine Below.setCell ?_ ?_ _ | refine le_alloc ?_ | refine le_set ?_ | refine le_drew ?_ | refine below_step (by assumption) ?_ ?_ | refine le_below (by assumption) ?_) | (dsimp only; omega)))
                          have N90_0 := Lib.hid (r4_90 _ _ _ (by omega) (by omega) hN0.out)
                          have N90_1 := Lib.hid (r4_90 _ _ _ (by omega) (by omega) hN1.out)
                          have N90_2 := Lib.hid (r4_90 _ _ _ (by omega) (by omega) hN2.out)
                          have hA_90 := Lib.hid r3_90
                          have hz_90 := Nat.le_trans hz r2_90
                          clear r3_90 r4_90
                          have Q90 : Hid (OwnT x90 w.heap.size v90 (wh6 1 ++ [⟨4227887231, shB 1, shF 1, ⟨#[100, 49, 104, 61]⟩, 0, false, false⟩])) := q1
                          clear q1 q2 q3
                          go_wp2_with fail
                          go_meet
                          exact ⟨_, rfl, Q90, hA_90, N90_0, N90_1, N90_2, hz_90, r1_90⟩
                      case rest =>
                        clear hL hA hN0 hN1 hN2 hz hbw m1_wr m2_wr m3_wr
                        obtain ⟨vc, rfl, hL, hA, hN0, hN1, hN2, hz, hbw⟩ := hcut
                        have m1_wc : wc.cell? ⟨bs, 1, none⟩ = some (.int .i64 19) := hN0.out 1 (by decide)
                        have m2_wc : wc.cell? ⟨bs + 1, 1, none⟩ = some (.int .u32 5) := hN1.out 1 (by decide)
                        have m3_wc : wc.cell? ⟨bs + 1 + 1, 1, none⟩ = some (.int .u32 0) := hN2.out 1 (by decide)
                        go_wp2_with fail
                        have C91 := Lib.hid (fun v => op7_c 27 5 0 (by decide) (by decide) (by decide) 19 ⟨#[100, 49, 104, 61]⟩ v)
                        have C92 := Lib.hid (fun v => worded_c 4261441663 (b7 27 5 0 : Nat) 19 ⟨#[100, 49, 104, 61]⟩ 0 false false true false v)
                        have C93 := Lib.hid (fun v => op7_c 59 5 0 (by decide) (by decide) (by decide) 19 ⟨#[100, 49, 50]⟩ v)
                        have C94 := Lib.hid (fun v => worded_c 4261441663 (b7 59 5 0 : Nat) 19 ⟨#[100, 49, 50]⟩ 0 false false true false v)
                        go_region_held3 (fun w' => w'.cell? ⟨bs, 1, none⟩ = some (.int .i64 19) ∧ w'.cell? ⟨bs + 1, 1, none⟩ = some (.int .u32 5) ∧ w'.cell? ⟨bs + 1 + 1, 1, none⟩ = some (.int .u32 0)) (first | exact ⟨by assumption, by assumption, by assumption⟩ | (all_goals (first | (go_keep; done) | (simp (disch := omega) only [cell_set_far]; simp [*])))) (first | (refine step_go rfl 40 _ Try.func40 (by kernel_rfl) _ rfl _ _ rfl _ ?_ _ (fun w' => Below _ _ w') (C91.out _) ?_; (focus (first | (simp [Act.eval, Act.put]; done) | (simp [Act.eval, Act.put]; decide))); intro w91 hb91; have y1_91 : w91.cell? ⟨bs, 1, none⟩ = some (.int .i64 19) := (hb91.cell (p := ⟨bs, 1, none⟩) (by  show bs < _; first | omega | (simp only [sz_drew]; omega) | (simp only [sz_drew] at *; omega))).trans m1_wc; have y2_91 : w91.cell? ⟨bs + 1, 1, none⟩ = some (.int .u32 5) := (hb91.cell (p := ⟨bs + 1, 1, none⟩) (by  show bs + 1 < _; first | omega | (simp only [sz_drew]; omega) | (simp only [sz_drew] at *; omega))).trans m2_wc; have y3_91 : w91.cell? ⟨bs + 1 + 1, 1, none⟩ = some (.int .u32 0) := (hb91.cell (p := ⟨bs + 1 + 1, 1, none⟩) (by  show bs + 1 + 1 < _; first | omega | (simp only [sz_drew]; omega) | (simp only [sz_drew] at *; omega))).trans m3_wc) | (refine step_go rfl 39 _ Try.func39 (by kernel_rfl) _ rfl _ _ rfl _ ?_ _ (fun w' => Below _ _ w') (C92.out _) ?_; (focus (first | (simp [Act.eval, Act.put]; done) | (simp [Act.eval, Act.put]; decide))); intro w92 hb92; have y1_92 : w92.cell? ⟨bs, 1, none⟩ = some (.int .i64 19) := (hb92.cell (p := ⟨bs, 1, none⟩) (by have := hb91.size;  show bs < _; first | omega | (simp only [sz_drew]; omega) | (simp only [sz_drew] at *; omega))).trans y1_91; have y2_92 : w92.cell? ⟨bs + 1, 1, none⟩ = some (.int .u32 5) := (hb92.cell (p := ⟨bs + 1, 1, none⟩) (by have := hb91.size;  show bs + 1 < _; first | omega | (simp only [sz_drew]; omega) | (simp only [sz_drew] at *; omega))).trans y2_91; have y3_92 : w92.cell? ⟨bs + 1 + 1, 1, none⟩ = some (.int .u32 0) := (hb92.cell (p := ⟨bs + 1 + 1, 1, none⟩) (by have := hb91.size;  show bs + 1 + 1 < _; first | omega | (simp only [sz_drew]; omega) | (simp only [sz_drew] at *; omega))).trans y3_91) | (refine step_go rfl 40 _ Try.func40 (by kernel_rfl) _ rfl _ _ rfl _ ?_ _ (fun w' => Below _ _ w') (C93.out _) ?_; (focus (first | (simp [Act.eval, Act.put]; done) | (simp [Act.eval, Act.put]; decide))); intro w93 hb93; have y1_93 : w93.cell? ⟨bs, 1, none⟩ = some (.int .i64 19) := (hb93.cell (p := ⟨bs, 1, none⟩) (by have := hb91.size; have := hb92.size;  show bs < _; first | omega | (simp only [sz_drew]; omega) | (simp only [sz_drew] at *; omega))).trans y1_92; have y2_93 : w93.cell? ⟨bs + 1, 1, none⟩ = some (.int .u32 5) := (hb93.cell (p := ⟨bs + 1, 1, none⟩) (by have := hb91.size; have := hb92.size;  show bs + 1 < _; first | omega | (simp only [sz_drew]; omega) | (simp only [sz_drew] at *; omega))).trans y2_92; have y3_93 : w93.cell? ⟨bs + 1 + 1, 1, none⟩ = some (.int .u32 0) := (hb93.cell (p := ⟨bs + 1 + 1, 1, none⟩) (by have := hb91.size; have := hb92.size;  show bs + 1 + 1 < _; first | omega | (simp only [sz_drew]; omega) | (simp only [sz_drew] at *; omega))).trans y3_92) | (refine step_go rfl 39 _ Try.func39 (by kernel_rfl) _ rfl _ _ rfl _ ?_ _ (fun w' => Below _ _ w') (C94.out _) ?_; (focus (first | (simp [Act.eval, Act.put]; done) | (simp [Act.eval, Act.put]; decide))); intro w94 hb94; have y1_94 : w94.cell? ⟨bs, 1, none⟩ = some (.int .i64 19) := (hb94.cell (p := ⟨bs, 1, none⟩) (by have := hb91.size; have := hb92.size; have := hb93.size;  show bs < _; first | omega | (simp only [sz_drew]; omega) | (simp only [sz_drew] at *; omega))).trans y1_93; have y2_94 : w94.cell? ⟨bs + 1, 1, none⟩ = some (.int .u32 5) := (hb94.cell (p := ⟨bs + 1, 1, none⟩) (by have := hb91.size; have := hb92.size; have := hb93.size;  show bs + 1 < _; first | omega | (simp only [sz_drew]; omega) | (simp only [sz_drew] at *; omega))).trans y2_93; have y3_94 : w94.cell? ⟨bs + 1 + 1, 1, none⟩ = some (.int .u32 0) := (hb94.cell (p := ⟨bs + 1 + 1, 1, none⟩) (by have := hb91.size; have := hb92.size; have := hb93.size;  show bs + 1 + 1 < _; first | omega | (simp only [sz_drew]; omega) | (simp only [sz_drew] at *; omega))).trans y3_93) | (refine step_append_q rfl (.tmp 135) (.tmp 164) rfl w.heap.size vc (wh6 1 ++ [⟨4227887231, shB 1, shF 1, ⟨#[100, 49, 104, 61]⟩, 0, false, false⟩]) (by simp [Act.eval, Act.put]) (own_below hL.out (by repeat (first | (with_reducible first | exact Below.refl _ _ | assumption | exact Nat.le_refl _ | refine Below.drew ?_ | refine Below.alloc ?_ ?_ _ | refine Below.setCell ?_ ?_ _ | refine le_alloc ?_ | refine le_set ?_ | refine le_drew ?_ | refine below_step (by assumption) ?_ ?_ | refine le_below (by assumption) ?_) | (dsimp only; omega)))) (by rw [List.length_append]; have := wh6_len 1 (by decide); show _ + 1 ≤ 500; omega) w94.heap.size (.slice (some ⟨w94.heap.size, 0, none⟩) 2 2) [op7W 27 5 0 19 ⟨#[100, 49, 104, 61]⟩ 0 true false, op7W 59 5 0 19 ⟨#[100, 49, 50]⟩ 0 true false] (by simp [Act.eval, Act.put]) (own_built w94 w94.heap.size 2 _ _ (Nat.le_refl _) rfl (by decide) rfl) ⟨by simp, by simp⟩ (by repeat (first | (with_reducible first | exact Below.refl _ _ | assumption | exact Nat.le_refl _ | refine Below.drew ?_ | refine Below.alloc ?_ ?_ _ | refine Below.setCell ?_ ?_ _ | refine le_alloc ?_ | refine le_set ?_ | refine le_drew ?_ | refine below_step (by assumption) ?_ ?_ | refine le_below (by assumption) ?_) | (dsimp only; omega))) ?_; intro v95 x95 q1 q2 q3; obtain ⟨_, _, _, rr⟩ := round_q hbw hL.out hA.out hz q2 q3 (by repeat (first | (with_reducible first | exact Below.refl _ _ | assumption | exact Nat.le_refl _ | refine Below.drew ?_ | refine Below.alloc ?_ ?_ _ | refine Below.setCell ?_ ?_ _ | refine le_alloc ?_ | refine le_set ?_ | refine le_drew ?_ | refine below_step (by assumption) ?_ ?_ | refine le_below (by assumption) ?_) | (dsimp only; omega))); have p1 := rr bs .i64 [15, 19, 20] (by omega) (by omega) hN0.out 1 (by decide); have p2 := rr (bs + 1) .u32 [1, 5, 5] (by omega) (by omega) hN1.out 1 (by decide); have p3 := rr (bs + 1 + 1) .u32 [0, 0, 32] (by omega) (by omega) hN2.out 1 (by decide); clear rr))
                        obtain ⟨r1_95, r2_95, r3_95, r4_95⟩ := round_q hbw hL.out hA.out hz q2 q3 (by repeat (first | (with_reducible first | exact Below.refl _ _ | assumption | exact Nat.le_refl _ | refine Below.drew ?_ | refine Below.alloc ?_ ?_ _ | refine Below.setCell ?_ ?_ _ | refine le_alloc ?_ | refine le_set ?_ | refine le_drew ?_ | refine below_step (by assumption) ?_ ?_ | refine le_below (by assumption) ?_) | (dsimp only; omega)))
                        have N95_0 := Lib.hid (r4_95 _ _ _ (by omega) (by omega) hN0.out)
                        have N95_1 := Lib.hid (r4_95 _ _ _ (by omega) (by omega) hN1.out)
                        have N95_2 := Lib.hid (r4_95 _ _ _ (by omega) (by omega) hN2.out)
                        have hA_95 := Lib.hid r3_95
                        have hz_95 := Nat.le_trans hz r2_95
                        clear r3_95 r4_95
                        have Q95 : Hid (OwnT x95 w.heap.size v95 (wh6 2)) := q1
                        clear q1 q2 q3
                        go_wp2_with fail
                        go_roundw
                        case rel => first | exact ⟨2, by omega, by first | rfl | go_num, Q95, hA_95, N95_0, N95_1, N95_2, hz_95, r1_95⟩ | ((repeat apply Exists.intro); exact ⟨⟨2, by omega, by first | rfl | go_num, Q95, hA_95, N95_0, N95_1, N95_2, hz_95, r1_95⟩, rfl⟩)
                        case measure => simp [intOf]
                    · skip
                      have m1_wr : wr.cell? ⟨bs, 2, none⟩ = some (.int .i64 20) := hN0.out 2 (by decide)
                      have m2_wr : wr.cell? ⟨bs + 1, 2, none⟩ = some (.int .u32 5) := hN1.out 2 (by decide)
                      have m3_wr : wr.cell? ⟨bs + 1 + 1, 2, none⟩ = some (.int .u32 32) := hN2.out 2 (by decide)
                      have e1 : bits .or .u32 19 20480 = 20499 := by decide
                      have e2 : bits .or .u32 20499 1073741824 = 1073762323 := by decide
                      go_upto_region 29 with fail
                      go_cut [1] (fun s1 wx => ∃ v, v = s1 ∧ Hid (OwnT wx w.heap.size v (wh6 2 ++ [⟨4227887231, shB 2, shF 2, ⟨#[100, 49, 104, 61]⟩, 0, false, false⟩])) ∧ Hid (Apart v bs (bs + 1 + 1 + 1)) ∧ Hid (NumsAt wx bs .i64 [15, 19, 20]) ∧ Hid (NumsAt wx (bs + 1) .u32 [1, 5, 5]) ∧ Hid (NumsAt wx (bs + 1 + 1) .u32 [0, 0, 32]) ∧ bs + 1 + 1 + 1 ≤ wx.heap.size ∧ Below w.heap.size w wx)
                      case first =>
                        go_wp2_with fail
                        go_region_law (first | (refine step_append_q rfl (.tmp 115) (.tmp 133) rfl w.heap.size u1 (wh6 2) (by simp [Act.eval, Act.put]) (own_below hL.out (by repeat (first | (with_reducible first | exact Below.refl _ _ | assumption | exact Nat.le_refl _ | refine Below.drew ?_ | refine Below.alloc ?_ ?_ _ | refine Below.setCell ?_ ?_ _ | refine le_alloc ?_ | refine le_set ?_ | refine le_drew ?_ | refine below_step (by assumption) ?_ ?_ | refine le_below (by assumption) ?_) | (dsimp only; omega)))) (Nat.le_trans (wh6_len 2 (by decide)) (by decide)) wr.heap.size (.slice (some ⟨wr.heap.size, 0, none⟩) 1 1) [⟨4227887231, shB 2, shF 2, ⟨#[100, 49, 104, 61]⟩, 0, false, false⟩] (by simp [Act.eval, Act.put]) (own_built wr.drew wr.heap.size 1 _ _ (Nat.le_refl _) rfl (by decide) rfl) ⟨by simp, by simp⟩ (by repeat (first | (with_reducible first | exact Below.refl _ _ | assumption | exact Nat.le_refl _ | refine Below.drew ?_ | refine Below.alloc ?_ ?_ _ | refine Below.setCell ?_ ?_ _ | refine le_alloc ?_ | refine le_set ?_ | refine le_drew ?_ | refine below_step (by assumption) ?_ ?_ | refine le_below (by assumption) ?_) | (dsimp only; omega))) ?_; intro v96 x96 q1 q2 q3))
                        all_goals
                          obtain ⟨r1_96, r2_96, r3_96, r4_96⟩ := round_q hbw hL.out hA.out hz q2 q3 (by repeat (first | (with_reducible first | exact Below.refl _ _ | assumption | exact Nat.le_refl _ | refine Below.drew ?_ | refine Below.alloc ?_ ?_ _ | refine Below.setCell ?_ ?_ _ | refine le_alloc ?_ | refine le_set ?_ | refine le_drew ?_ | refine below_step (by assumption) ?_ ?_ | refine le_below (by assumption) ?_) | (dsimp only; omega)))
                          have N96_0 := Lib.hid (r4_96 _ _ _ (by omega) (by omega) hN0.out)
                          have N96_1 := Lib.hid (r4_96 _ _ _ (by omega) (by omega) hN1.out)
                          have N96_2 := Lib.hid (r4_96 _ _ _ (by omega) (by omega) hN2.out)
                          have hA_96 := Lib.hid r3_96
                          have hz_96 := Nat.le_trans hz r2_96
                          clear r3_96 r4_96
                          have Q96 : Hid (OwnT x96 w.heap.size v96 (wh6 2 ++ [⟨4227887231, shB 2, shF 2, ⟨#[100, 49, 104, 61]⟩, 0, false, false⟩])) := q1
                          clear q1 q2 q3
                          go_wp2_with fail
                          go_meet
                          exact ⟨_, rfl, Q96, hA_96, N96_0, N96_1, N96_2, hz_96, r1_96⟩
                      case rest =>
                        clear hL hA hN0 hN1 hN2 hz hbw m1_wr m2_wr m3_wr
                        obtain ⟨vc, rfl, hL, hA, hN0, hN1, hN2, hz, hbw⟩ := hcut
                        have m1_wc : wc.cell? ⟨bs, 2, none⟩ = some (.int .i64 20) := hN0.out 2 (by decide)
                        have m2_wc : wc.cell? ⟨bs + 1, 2, none⟩ = some (.int .u32 5) := hN1.out 2 (by decide)
                        have m3_wc : wc.cell? ⟨bs + 1 + 1, 2, none⟩ = some (.int .u32 32) := hN2.out 2 (by decide)
                        go_wp2_with fail
                        have C97 := Lib.hid (fun v => op7_c 27 5 32 (by decide) (by decide) (by decide) 20 ⟨#[100, 49, 104, 61]⟩ v)
                        have C98 := Lib.hid (fun v => worded_c 4261441663 (b7 27 5 32 : Nat) 20 ⟨#[100, 49, 104, 61]⟩ 0 false false true false v)
                        have C99 := Lib.hid (fun v => op7_c 59 5 32 (by decide) (by decide) (by decide) 20 ⟨#[100, 49, 50]⟩ v)
                        have C100 := Lib.hid (fun v => worded_c 4261441663 (b7 59 5 32 : Nat) 20 ⟨#[100, 49, 50]⟩ 0 false false true false v)
                        go_region_held3 (fun w' => w'.cell? ⟨bs, 2, none⟩ = some (.int .i64 20) ∧ w'.cell? ⟨bs + 1, 2, none⟩ = some (.int .u32 5) ∧ w'.cell? ⟨bs + 1 + 1, 2, none⟩ = some (.int .u32 32)) (first | exact ⟨by assumption, by assumption, by assumption⟩ | (all_goals (first | (go_keep; done) | (simp (disch := omega) only [cell_set_far]; simp [*])))) (first | (refine step_go rfl 40 _ Try.func40 (by kernel_rfl) _ rfl _ _ rfl _ ?_ _ (fun w' => Below _ _ w') (C97.out _) ?_; (focus (first | (simp [Act.eval, Act.put]; done) | (simp [Act.eval, Act.put]; decide))); intro w97 hb97; have y1_97 : w97.cell? ⟨bs, 2, none⟩ = some (.int .i64 20) := (hb97.cell (p := ⟨bs, 2, none⟩) (by  show bs < _; first | omega | (simp only [sz_drew]; omega) | (simp only [sz_drew] at *; omega))).trans m1_wc; have y2_97 : w97.cell? ⟨bs + 1, 2, none⟩ = some (.int .u32 5) := (hb97.cell (p := ⟨bs + 1, 2, none⟩) (by  show bs + 1 < _; first | omega | (simp only [sz_drew]; omega) | (simp only [sz_drew] at *; omega))).trans m2_wc; have y3_97 : w97.cell? ⟨bs + 1 + 1, 2, none⟩ = some (.int .u32 32) := (hb97.cell (p := ⟨bs + 1 + 1, 2, none⟩) (by  show bs + 1 + 1 < _; first | omega | (simp only [sz_drew]; omega) | (simp only [sz_drew] at *; omega))).trans m3_wc) | (refine step_go rfl 39 _ Try.func39 (by kernel_rfl) _ rfl _ _ rfl _ ?_ _ (fun w' => Below _ _ w') (C98.out _) ?_; (focus (first | (simp [Act.eval, Act.put]; done) | (simp [Act.eval, Act.put]; decide))); intro w98 hb98; have y1_98 : w98.cell? ⟨bs, 2, none⟩ = some (.int .i64 20) := (hb98.cell (p := ⟨bs, 2, none⟩) (by have := hb97.size;  show bs < _; first | omega | (simp only [sz_drew]; omega) | (simp only [sz_drew] at *; omega))).trans y1_97; have y2_98 : w98.cell? ⟨bs + 1, 2, none⟩ = some (.int .u32 5) := (hb98.cell (p := ⟨bs + 1, 2, none⟩) (by have := hb97.size;  show bs + 1 < _; first | omega | (simp only [sz_drew]; omega) | (simp only [sz_drew] at *; omega))).trans y2_97; have y3_98 : w98.cell? ⟨bs + 1 + 1, 2, none⟩ = some (.int .u32 32) := (hb98.cell (p := ⟨bs + 1 + 1, 2, none⟩) (by have := hb97.size;  show bs + 1 + 1 < _; first | omega | (simp only [sz_drew]; omega) | (simp only [sz_drew] at *; omega))).trans y3_97) | (refine step_go rfl 40 _ Try.func40 (by kernel_rfl) _ rfl _ _ rfl _ ?_ _ (fun w' => Below _ _ w') (C99.out _) ?_; (focus (first | (simp [Act.eval, Act.put]; done) | (simp [Act.eval, Act.put]; decide))); intro w99 hb99; have y1_99 : w99.cell? ⟨bs, 2, none⟩ = some (.int .i64 20) := (hb99.cell (p := ⟨bs, 2, none⟩) (by have := hb97.size; have := hb98.size;  show bs < _; first | omega | (simp only [sz_drew]; omega) | (simp only [sz_drew] at *; omega))).trans y1_98; have y2_99 : w99.cell? ⟨bs + 1, 2, none⟩ = some (.int .u32 5) := (hb99.cell (p := ⟨bs + 1, 2, none⟩) (by have := hb97.size; have := hb98.size;  show bs + 1 < _; first | omega | (simp only [sz_drew]; omega) | (simp only [sz_drew] at *; omega))).trans y2_98; have y3_99 : w99.cell? ⟨bs + 1 + 1, 2, none⟩ = some (.int .u32 32) := (hb99.cell (p := ⟨bs + 1 + 1, 2, none⟩) (by have := hb97.size; have := hb98.size;  show bs + 1 + 1 < _; first | omega | (simp only [sz_drew]; omega) | (simp only [sz_drew] at *; omega))).trans y3_98) | (refine step_go rfl 39 _ Try.func39 (by kernel_rfl) _ rfl _ _ rfl _ ?_ _ (fun w' => Below _ _ w') (C100.out _) ?_; (focus (first | (simp [Act.eval, Act.put]; done) | (simp [Act.eval, Act.put]; decide))); intro w100 hb100; have y1_100 : w100.cell? ⟨bs, 2, none⟩ = some (.int .i64 20) := (hb100.cell (p := ⟨bs, 2, none⟩) (by have := hb97.size; have := hb98.size; have := hb99.size;  show bs < _; first | omega | (simp only [sz_drew]; omega) | (simp only [sz_drew] at *; omega))).trans y1_99; have y2_100 : w100.cell? ⟨bs + 1, 2, none⟩ = some (.int .u32 5) := (hb100.cell (p := ⟨bs + 1, 2, none⟩) (by have := hb97.size; have := hb98.size; have := hb99.size;  show bs + 1 < _; first | omega | (simp only [sz_drew]; omega) | (simp only [sz_drew] at *; omega))).trans y2_99; have y3_100 : w100.cell? ⟨bs + 1 + 1, 2, none⟩ = some (.int .u32 32) := (hb100.cell (p := ⟨bs + 1 + 1, 2, none⟩) (by have := hb97.size; have := hb98.size; have := hb99.size;  show bs + 1 + 1 < _; first | omega | (simp only [sz_drew]; omega) | (simp only [sz_drew] at *; omega))).trans y3_99) | (refine step_append_q rfl (.tmp 135) (.tmp 164) rfl w.heap.size vc (wh6 2 ++ [⟨4227887231, shB 2, shF 2, ⟨#[100, 49, 104, 61]⟩, 0, false, false⟩]) (by simp [Act.eval, Act.put]) (own_below hL.out (by repeat (first | (with_reducible first | exact Below.refl _ _ | assumption | exact Nat.le_refl _ | refine Below.drew ?_ | refine Below.alloc ?_ ?_ _ | refine Below.setCell ?_ ?_ _ | refine le_alloc ?_ | refine le_set ?_ | refine le_drew ?_ | refine below_step (by assumption) ?_ ?_ | refine le_below (by assumption) ?_) | (dsimp only; omega)))) (by rw [List.length_append]; have := wh6_len 2 (by decide); show _ + 1 ≤ 500; omega) w100.heap.size (.slice (some ⟨w100.heap.size, 0, none⟩) 2 2) [op7W 27 5 32 20 ⟨#[100, 49, 104, 61]⟩ 0 true false, op7W 59 5 32 20 ⟨#[100, 49, 50]⟩ 0 true false] (by simp [Act.eval, Act.put]) (own_built w100 w100.heap.size 2 _ _ (Nat.le_refl _) rfl (by decide) rfl) ⟨by simp, by simp⟩ (by repeat (first | (with_reducible first | exact Below.refl _ _ | assumption | exact Nat.le_refl _ | refine Below.drew ?_ | refine Below.alloc ?_ ?_ _ | refine Below.setCell ?_ ?_ _ | refine le_alloc ?_ | refine le_set ?_ | refine le_drew ?_ | refine below_step (by assumption) ?_ ?_ | refine le_below (by assumption) ?_) | (dsimp only; omega))) ?_; intro v101 x101 q1 q2 q3; obtain ⟨_, _, _, rr⟩ := round_q hbw hL.out hA.out hz q2 q3 (by repeat (first | (with_reducible first | exact Below.refl _ _ | assumption | exact Nat.le_refl _ | refine Below.drew ?_ | refine Below.alloc ?_ ?_ _ | refine Below.setCell ?_ ?_ _ | refine le_alloc ?_ | refine le_set ?_ | refine le_drew ?_ | refine below_step (by assumption) ?_ ?_ | refine le_below (by assumption) ?_) | (dsimp only; omega))); have p1 := rr bs .i64 [15, 19, 20] (by omega) (by omega) hN0.out 2 (by decide); have p2 := rr (bs + 1) .u32 [1, 5, 5] (by omega) (by omega) hN1.out 2 (by decide); have p3 := rr (bs + 1 + 1) .u32 [0, 0, 32] (by omega) (by omega) hN2.out 2 (by decide); clear rr))
                        obtain ⟨r1_101, r2_101, r3_101, r4_101⟩ := round_q hbw hL.out hA.out hz q2 q3 (by repeat (first | (with_reducible first | exact Below.refl _ _ | assumption | exact Nat.le_refl _ | refine Below.drew ?_ | refine Below.alloc ?_ ?_ _ | refine Below.setCell ?_ ?_ _ | refine le_alloc ?_ | refine le_set ?_ | refine le_drew ?_ | refine below_step (by assumption) ?_ ?_ | refine le_below (by assumption) ?_) | (dsimp only; omega)))
                        have N101_0 := Lib.hid (r4_101 _ _ _ (by omega) (by omega) hN0.out)
                        have N101_1 := Lib.hid (r4_101 _ _ _ (by omega) (by omega) hN1.out)
                        have N101_2 := Lib.hid (r4_101 _ _ _ (by omega) (by omega) hN2.out)
                        have hA_101 := Lib.hid r3_101
                        have hz_101 := Nat.le_trans hz r2_101
                        clear r3_101 r4_101
                        have Q101 : Hid (OwnT x101 w.heap.size v101 (wh6 3)) := q1
                        clear q1 q2 q3
                        go_wp2_with fail
                        go_roundw
                        case rel => first | exact ⟨3, by omega, by first | rfl | go_num, Q101, hA_101, N101_0, N101_1, N101_2, hz_101, r1_101⟩ | ((repeat apply Exists.intro); exact ⟨⟨3, by omega, by first | rfl | go_num, Q101, hA_101, N101_0, N101_1, N101_2, hz_101, r1_101⟩, rfl⟩)
                        case measure => simp [intOf]
                    · skip
                      
                      go_wp2_with fail
                      have HLy : Hid (OwnT wr w.heap.size u1 (wh6 3)) := hL.out
                      have HWy := hbw
                      clear hL hA hN0 hN1 hN2 hz hbw
                      refine (op3_c 27 0 (by decide) (by decide) 13 ⟨#[100, 49, 73, 61]⟩ _).mono ?_; rintro e w102 ⟨rfl, hb102⟩
                      go_wp2_with fail
                      refine (worded_c 28799 (b3 27 0 : Nat) 13 ⟨#[100, 49, 73, 61]⟩ 0 false false true false _).mono ?_; rintro e w103 ⟨rfl, hb103⟩
                      go_wp2_with fail
                      refine (op7_c 59 0 0 (by decide) (by decide) (by decide) 13 ⟨#[100, 49, 50]⟩ _).mono ?_; rintro e w104 ⟨rfl, hb104⟩
                      go_wp2_with fail
                      refine (worded_c 4261441663 (b7 59 0 0 : Nat) 13 ⟨#[100, 49, 50]⟩ 0 false false true false _).mono ?_; rintro e w105 ⟨rfl, hb105⟩
                      go_wp2_with fail
                      refine (op7_c 59 0 32 (by decide) (by decide) (by decide) 14 ⟨#[100, 49, 50]⟩ _).mono ?_; rintro e w106 ⟨rfl, hb106⟩
                      go_wp2_with fail
                      refine (worded_c 4261441663 (b7 59 0 32 : Nat) 14 ⟨#[100, 49, 50]⟩ 0 false false true false _).mono ?_; rintro e w107 ⟨rfl, hb107⟩
                      go_wp2_with (at_builtin; refine append_q rfl (.tmp 166) (.tmp 173) rfl w.heap.size u1 (wh6 3) (by simp [Act.eval, Act.put]) (own_below HLy.out (by repeat (first | (with_reducible first | exact Below.refl _ _ | assumption | exact Nat.le_refl _ | refine Below.drew ?_ | refine Below.alloc ?_ ?_ _ | refine Below.setCell ?_ ?_ _ | refine le_alloc ?_ | refine le_set ?_ | refine le_drew ?_ | refine below_step (by assumption) ?_ ?_ | refine le_below (by assumption) ?_) | (dsimp only; omega)))) (Nat.le_trans (wh6_len 3 (by decide)) (by decide)) w107.heap.size (.slice (some ⟨w107.heap.size, 0, none⟩) 3 3) [op3W 27 0 13 ⟨#[100, 49, 73, 61]⟩ 0 true false, op7W 59 0 0 13 ⟨#[100, 49, 50]⟩ 0 true false, op7W 59 0 32 14 ⟨#[100, 49, 50]⟩ 0 true false] (by simp [Act.eval, Act.put]) (own_built w107 w107.heap.size 3 _ _ (Nat.le_refl _) rfl (by decide) rfl) ⟨by simp, by simp⟩ (by repeat (first | (with_reducible first | exact Below.refl _ _ | assumption | exact Nat.le_refl _ | refine Below.drew ?_ | refine Below.alloc ?_ ?_ _ | refine Below.setCell ?_ ?_ _ | refine le_alloc ?_ | refine le_set ?_ | refine le_drew ?_ | refine below_step (by assumption) ?_ ?_ | refine le_below (by assumption) ?_) | (dsimp only; omega))) ?_; intro v108 x108 q1 q2 q3)
                      have r1_108 := grow_q HWy (by repeat (first | (with_reducible first | exact Below.refl _ _ | assumption | exact Nat.le_refl _ | refine Below.drew ?_ | refine Below.alloc ?_ ?_ _ | refine Below.setCell ?_ ?_ _ | refine le_alloc ?_ | refine le_set ?_ | refine le_drew ?_ | refine below_step (by assumption) ?_ ?_ | refine le_below (by assumption) ?_) | (dsimp only; omega))) HLy.out q2
                      have Q108 : Hid (OwnT x108 w.heap.size v108 (wh7)) := q1
                      clear q1 q2 q3
                      go_wp2_with fail
                      refine (op7_c 59 0 1 (by decide) (by decide) (by decide) 23 ⟨#[100, 49, 50]⟩ _).mono ?_; rintro e w109 ⟨rfl, hb109⟩
                      go_wp2_with fail
                      refine (worded_c 4261441663 (b7 59 0 1 : Nat) 23 ⟨#[100, 49, 50]⟩ 0 false false true false _).mono ?_; rintro e w110 ⟨rfl, hb110⟩
                      go_wp2_with (at_builtin; refine append_q rfl (.tmp 175) (.tmp 178) rfl w.heap.size v108 (wh7) (by simp [Act.eval, Act.put]) (own_below Q108.out (by repeat (first | (with_reducible first | exact Below.refl _ _ | assumption | exact Nat.le_refl _ | refine Below.drew ?_ | refine Below.alloc ?_ ?_ _ | refine Below.setCell ?_ ?_ _ | refine le_alloc ?_ | refine le_set ?_ | refine le_drew ?_ | refine below_step (by assumption) ?_ ?_ | refine le_below (by assumption) ?_) | (dsimp only; omega)))) (wh7_len) w110.heap.size (.slice (some ⟨w110.heap.size, 0, none⟩) 1 1) [op7W 59 0 1 23 ⟨#[100, 49, 50]⟩ 0 true false] (by simp [Act.eval, Act.put]) (own_built w110 w110.heap.size 1 _ _ (Nat.le_refl _) rfl (by decide) rfl) ⟨by simp, by simp⟩ (by repeat (first | (with_reducible first | exact Below.refl _ _ | assumption | exact Nat.le_refl _ | refine Below.drew ?_ | refine Below.alloc ?_ ?_ _ | refine Below.setCell ?_ ?_ _ | refine le_alloc ?_ | refine le_set ?_ | refine le_drew ?_ | refine below_step (by assumption) ?_ ?_ | refine le_below (by assumption) ?_) | (dsimp only; omega))) ?_; intro v111 x111 q1 q2 q3)
                      have r1_111 := grow_q r1_108 (by repeat (first | (with_reducible first | exact Below.refl _ _ | assumption | exact Nat.le_refl _ | refine Below.drew ?_ | refine Below.alloc ?_ ?_ _ | refine Below.setCell ?_ ?_ _ | refine le_alloc ?_ | refine le_set ?_ | refine le_drew ?_ | refine below_step (by assumption) ?_ ?_ | refine le_below (by assumption) ?_) | (dsimp only; omega))) Q108.out q2
                      have Q111 : Hid (OwnT x111 w.heap.size v111 (wh8 0)) := q1
                      clear q1 q2 q3
                      go_wp2_with fail
                      go_loopw [1, 12] (fun l i wr => ∃ k : Nat, k ≤ 4 ∧ i = .int .i64 ((4 + k : Nat) : Int) ∧ Hid (OwnT wr w.heap.size l (wh8 k)) ∧ Below w.heap.size w wr) (fun _ i _ => 8 - (intOf i).toNat)
                      case atStart => exact ⟨0, by omega, rfl, Q111, r1_111⟩
                      case round =>
                        clear Q111 r1_111
                        obtain ⟨k, hk, rfl, hL, hbw⟩ := hrel
                        have hkc : k = 0 ∨ k = 1 ∨ k = 2 ∨ k = 3 ∨ k = 4 := by omega
                        clear hk
                        rcases hkc with rfl | rfl | rfl | rfl | rfl
                        · skip
                          go_wp2_with fail
                          refine (op7_c 59 4 1 (by decide) (by decide) (by decide) 27 ⟨#[100, 49, 50]⟩ _).mono ?_; rintro e w112 ⟨rfl, hb112⟩
                          go_wp2_with fail
                          refine (worded_c 4261441663 (b7 59 4 1 : Nat) 27 ⟨#[100, 49, 50]⟩ 0 false false true false _).mono ?_; rintro e w113 ⟨rfl, hb113⟩
                          go_wp2_with (at_builtin; refine append_q rfl (.tmp 184) (.tmp 191) rfl w.heap.size u1 (wh8 0) (by simp [Act.eval, Act.put]) (own_below hL.out (by repeat (first | (with_reducible first | exact Below.refl _ _ | assumption | exact Nat.le_refl _ | refine Below.drew ?_ | refine Below.alloc ?_ ?_ _ | refine Below.setCell ?_ ?_ _ | refine le_alloc ?_ | refine le_set ?_ | refine le_drew ?_ | refine below_step (by assumption) ?_ ?_ | refine le_below (by assumption) ?_) | (dsimp only; omega)))) (wh8_len 0 (by decide)) w113.heap.size (.slice (some ⟨w113.heap.size, 0, none⟩) 1 1) [op7W 59 4 1 27 ⟨#[100, 49, 50]⟩ 0 true false] (by simp [Act.eval, Act.put]) (own_built w113 w113.heap.size 1 _ _ (Nat.le_refl _) rfl (by decide) rfl) ⟨by simp, by simp⟩ (by repeat (first | (with_reducible first | exact Below.refl _ _ | assumption | exact Nat.le_refl _ | refine Below.drew ?_ | refine Below.alloc ?_ ?_ _ | refine Below.setCell ?_ ?_ _ | refine le_alloc ?_ | refine le_set ?_ | refine le_drew ?_ | refine below_step (by assumption) ?_ ?_ | refine le_below (by assumption) ?_) | (dsimp only; omega))) ?_; intro v114 x114 q1 q2 q3)
                          have r1_114 := grow_q hbw (by repeat (first | (with_reducible first | exact Below.refl _ _ | assumption | exact Nat.le_refl _ | refine Below.drew ?_ | refine Below.alloc ?_ ?_ _ | refine Below.setCell ?_ ?_ _ | refine le_alloc ?_ | refine le_set ?_ | refine le_drew ?_ | refine below_step (by assumption) ?_ ?_ | refine le_below (by assumption) ?_) | (dsimp only; omega))) hL.out q2
                          have Q114 : Hid (OwnT x114 w.heap.size v114 (wh8 1)) := q1
                          clear q1 q2 q3
                          go_wp2_with fail
                          go_roundw
                          case rel => first | exact ⟨1, by omega, by first | rfl | go_num, Q114, r1_114⟩ | ((repeat apply Exists.intro); exact ⟨⟨1, by omega, by first | rfl | go_num, Q114, r1_114⟩, rfl⟩)
                          case measure => simp [intOf]
                        · skip
                          go_wp2_with fail
                          refine (op7_c 59 5 1 (by decide) (by decide) (by decide) 28 ⟨#[100, 49, 50]⟩ _).mono ?_; rintro e w115 ⟨rfl, hb115⟩
                          go_wp2_with fail
                          refine (worded_c 4261441663 (b7 59 5 1 : Nat) 28 ⟨#[100, 49, 50]⟩ 0 false false true false _).mono ?_; rintro e w116 ⟨rfl, hb116⟩
                          go_wp2_with (at_builtin; refine append_q rfl (.tmp 184) (.tmp 191) rfl w.heap.size u1 (wh8 1) (by simp [Act.eval, Act.put]) (own_below hL.out (by repeat (first | (with_reducible first | exact Below.refl _ _ | assumption | exact Nat.le_refl _ | refine Below.drew ?_ | refine Below.alloc ?_ ?_ _ | refine Below.setCell ?_ ?_ _ | refine le_alloc ?_ | refine le_set ?_ | refine le_drew ?_ | refine below_step (by assumption) ?_ ?_ | refine le_below (by assumption) ?_) | (dsimp only; omega)))) (wh8_len 1 (by decide)) w116.heap.size (.slice (some ⟨w116.heap.size, 0, none⟩) 1 1) [op7W 59 5 1 28 ⟨#[100, 49, 50]⟩ 0 true false] (by simp [Act.eval, Act.put]) (own_built w116 w116.heap.size 1 _ _ (Nat.le_refl _) rfl (by decide) rfl) ⟨by simp, by simp⟩ (by repeat (first | (with_reducible first | exact Below.refl _ _ | assumption | exact Nat.le_refl _ | refine Below.drew ?_ | refine Below.alloc ?_ ?_ _ | refine Below.setCell ?_ ?_ _ | refine le_alloc ?_ | refine le_set ?_ | refine le_drew ?_ | refine below_step (by assumption) ?_ ?_ | refine le_below (by assumption) ?_) | (dsimp only; omega))) ?_; intro v117 x117 q1 q2 q3)
                          have r1_117 := grow_q hbw (by repeat (first | (with_reducible first | exact Below.refl _ _ | assumption | exact Nat.le_refl _ | refine Below.drew ?_ | refine Below.alloc ?_ ?_ _ | refine Below.setCell ?_ ?_ _ | refine le_alloc ?_ | refine le_set ?_ | refine le_drew ?_ | refine below_step (by assumption) ?_ ?_ | refine le_below (by assumption) ?_) | (dsimp only; omega))) hL.out q2
                          have Q117 : Hid (OwnT x117 w.heap.size v117 (wh8 2)) := q1
                          clear q1 q2 q3
                          go_wp2_with fail
                          go_roundw
                          case rel => first | exact ⟨2, by omega, by first | rfl | go_num, Q117, r1_117⟩ | ((repeat apply Exists.intro); exact ⟨⟨2, by omega, by first | rfl | go_num, Q117, r1_117⟩, rfl⟩)
                          case measure => simp [intOf]
                        · skip
                          go_wp2_with fail
                          refine (op7_c 59 6 1 (by decide) (by decide) (by decide) 29 ⟨#[100, 49, 50]⟩ _).mono ?_; rintro e w118 ⟨rfl, hb118⟩
                          go_wp2_with fail
                          refine (worded_c 4261441663 (b7 59 6 1 : Nat) 29 ⟨#[100, 49, 50]⟩ 0 false false true false _).mono ?_; rintro e w119 ⟨rfl, hb119⟩
                          go_wp2_with (at_builtin; refine append_q rfl (.tmp 184) (.tmp 191) rfl w.heap.size u1 (wh8 2) (by simp [Act.eval, Act.put]) (own_below hL.out (by repeat (first | (with_reducible first | exact Below.refl _ _ | assumption | exact Nat.le_refl _ | refine Below.drew ?_ | refine Below.alloc ?_ ?_ _ | refine Below.setCell ?_ ?_ _ | refine le_alloc ?_ | refine le_set ?_ | refine le_drew ?_ | refine below_step (by assumption) ?_ ?_ | refine le_below (by assumption) ?_) | (dsimp only; omega)))) (wh8_len 2 (by decide)) w119.heap.size (.slice (some ⟨w119.heap.size, 0, none⟩) 1 1) [op7W 59 6 1 29 ⟨#[100, 49, 50]⟩ 0 true false] (by simp [Act.eval, Act.put]) (own_built w119 w119.heap.size 1 _ _ (Nat.le_refl _) rfl (by decide) rfl) ⟨by simp, by simp⟩ (by repeat (first | (with_reducible first | exact Below.refl _ _ | assumption | exact Nat.le_refl _ | refine Below.drew ?_ | refine Below.alloc ?_ ?_ _ | refine Below.setCell ?_ ?_ _ | refine le_alloc ?_ | refine le_set ?_ | refine le_drew ?_ | refine below_step (by assumption) ?_ ?_ | refine le_below (by assumption) ?_) | (dsimp only; omega))) ?_; intro v120 x120 q1 q2 q3)
                          have r1_120 := grow_q hbw (by repeat (first | (with_reducible first | exact Below.refl _ _ | assumption | exact Nat.le_refl _ | refine Below.drew ?_ | refine Below.alloc ?_ ?_ _ | refine Below.setCell ?_ ?_ _ | refine le_alloc ?_ | refine le_set ?_ | refine le_drew ?_ | refine below_step (by assumption) ?_ ?_ | refine le_below (by assumption) ?_) | (dsimp only; omega))) hL.out q2
                          have Q120 : Hid (OwnT x120 w.heap.size v120 (wh8 3)) := q1
                          clear q1 q2 q3
                          go_wp2_with fail
                          go_roundw
                          case rel => first | exact ⟨3, by omega, by first | rfl | go_num, Q120, r1_120⟩ | ((repeat apply Exists.intro); exact ⟨⟨3, by omega, by first | rfl | go_num, Q120, r1_120⟩, rfl⟩)
                          case measure => simp [intOf]
                        · skip
                          go_wp2_with fail
                          refine (op7_c 59 7 1 (by decide) (by decide) (by decide) 30 ⟨#[100, 49, 50]⟩ _).mono ?_; rintro e w121 ⟨rfl, hb121⟩
                          go_wp2_with fail
                          refine (worded_c 4261441663 (b7 59 7 1 : Nat) 30 ⟨#[100, 49, 50]⟩ 0 false false true false _).mono ?_; rintro e w122 ⟨rfl, hb122⟩
                          go_wp2_with (at_builtin; refine append_q rfl (.tmp 184) (.tmp 191) rfl w.heap.size u1 (wh8 3) (by simp [Act.eval, Act.put]) (own_below hL.out (by repeat (first | (with_reducible first | exact Below.refl _ _ | assumption | exact Nat.le_refl _ | refine Below.drew ?_ | refine Below.alloc ?_ ?_ _ | refine Below.setCell ?_ ?_ _ | refine le_alloc ?_ | refine le_set ?_ | refine le_drew ?_ | refine below_step (by assumption) ?_ ?_ | refine le_below (by assumption) ?_) | (dsimp only; omega)))) (wh8_len 3 (by decide)) w122.heap.size (.slice (some ⟨w122.heap.size, 0, none⟩) 1 1) [op7W 59 7 1 30 ⟨#[100, 49, 50]⟩ 0 true false] (by simp [Act.eval, Act.put]) (own_built w122 w122.heap.size 1 _ _ (Nat.le_refl _) rfl (by decide) rfl) ⟨by simp, by simp⟩ (by repeat (first | (with_reducible first | exact Below.refl _ _ | assumption | exact Nat.le_refl _ | refine Below.drew ?_ | refine Below.alloc ?_ ?_ _ | refine Below.setCell ?_ ?_ _ | refine le_alloc ?_ | refine le_set ?_ | refine le_drew ?_ | refine below_step (by assumption) ?_ ?_ | refine le_below (by assumption) ?_) | (dsimp only; omega))) ?_; intro v123 x123 q1 q2 q3)
                          have r1_123 := grow_q hbw (by repeat (first | (with_reducible first | exact Below.refl _ _ | assumption | exact Nat.le_refl _ | refine Below.drew ?_ | refine Below.alloc ?_ ?_ _ | refine Below.setCell ?_ ?_ _ | refine le_alloc ?_ | refine le_set ?_ | refine le_drew ?_ | refine below_step (by assumption) ?_ ?_ | refine le_below (by assumption) ?_) | (dsimp only; omega))) hL.out q2
                          have Q123 : Hid (OwnT x123 w.heap.size v123 (wh8 4)) := q1
                          clear q1 q2 q3
                          go_wp2_with fail
                          go_roundw
                          case rel => first | exact ⟨4, by omega, by first | rfl | go_num, Q123, r1_123⟩ | ((repeat apply Exists.intro); exact ⟨⟨4, by omega, by first | rfl | go_num, Q123, r1_123⟩, rfl⟩)
                          case measure => simp [intOf]
                        · skip
                          
                          go_wp2_with fail
                          go_ret
                          exact ⟨_, rfl, hL.out, hbw⟩
end Go.Proofs.Ytlohpakcikkdmaa
