/- The document's own answers: the third column. -/
import Derived.Test.YtcfeeookjgdkmaaDoorR4
namespace Go.Proofs.YtcfeeookjgdkmaaDoor
open Go.ChangeShapes Go.WideShapes Go.ChangeAt Go.RowKit
set_option linter.unusedVariables false
set_option linter.unusedSimpArgs false

theorem two_0 (h : Nat) (hk : kD h = 0) : twoD h = formID (sD h) (dD h) 1 (dD h) 19 := by
  unfold twoD
  rw [sel_at _ _ hk]
theorem two_1 (h : Nat) (hk : kD h = 1) : twoD h = formID (ldD h) 2 3 (dD h) 7 := by
  unfold twoD
  rw [sel_ne _ _ (by rw [hk]; decide), sel_at _ _ hk]
theorem two_2 (h : Nat) (hk : kD h = 2) : twoD h = sel (dD h) 0 0 (formID (lwD h) 2 2 (dD h) 3) := by
  unfold twoD
  rw [sel_ne _ _ (by rw [hk]; decide), sel_ne _ _ (by rw [hk]; decide), sel_at _ _ hk]
theorem two_3 (h : Nat) (hk : kD h = 3) : twoD h = sel (dD h) 0 0 (formID (ldD h) 2 3 (dD h) 3) := by
  unfold twoD
  rw [sel_ne _ _ (by rw [hk]; decide), sel_ne _ _ (by rw [hk]; decide), sel_ne _ _ (by rw [hk]; decide), sel_at _ _ hk]
theorem two_4 (h : Nat) (hk : kD h = 4) : twoD h = jumpD h := by
  unfold twoD
  rw [sel_ne _ _ (by rw [hk]; decide), sel_ne _ _ (by rw [hk]; decide), sel_ne _ _ (by rw [hk]; decide), sel_ne _ _ (by rw [hk]; decide), sel_ne _ _ (by rw [hk]; decide), sel_ne _ _ (by rw [hk]; decide), sel_ne _ _ (by rw [hk]; decide)]
theorem two_5 (h : Nat) (hk : kD h = 5) : twoD h = formSD (vdD h) (tD h) 2 3 39 := by
  unfold twoD
  rw [sel_ne _ _ (by rw [hk]; decide), sel_ne _ _ (by rw [hk]; decide), sel_ne _ _ (by rw [hk]; decide), sel_ne _ _ (by rw [hk]; decide), sel_at _ _ hk]
theorem two_6 (h : Nat) (hk : kD h = 6) : twoD h = formSD (vwD h) (tD h) 2 2 35 := by
  unfold twoD
  rw [sel_ne _ _ (by rw [hk]; decide), sel_ne _ _ (by rw [hk]; decide), sel_ne _ _ (by rw [hk]; decide), sel_ne _ _ (by rw [hk]; decide), sel_ne _ _ (by rw [hk]; decide), sel_at _ _ hk]
theorem two_7 (h : Nat) (hk : kD h = 7) : twoD h = formSD (vdD h) (tD h) 2 3 35 := by
  unfold twoD
  rw [sel_ne _ _ (by rw [hk]; decide), sel_ne _ _ (by rw [hk]; decide), sel_ne _ _ (by rw [hk]; decide), sel_ne _ _ (by rw [hk]; decide), sel_ne _ _ (by rw [hk]; decide), sel_ne _ _ (by rw [hk]; decide), sel_at _ _ hk]
theorem jump_0 (h : Nat) (hb : bitsD h 12 12 = 0) : jumpD h = sel (tD h) 0 (sel (dD h) 0 0 (formID 0 (dD h) 0 0 103)) (formRD 0 (tD h) 0 0 (dD h) 51) := by unfold jumpD; rw [sel_at _ _ hb]
theorem jump_1 (h : Nat) (hb : bitsD h 12 12 = 1) : jumpD h = sel (tD h) 0 (sel (dD h) 0 1048691 (formID 0 (dD h) 0 1 103)) (formRD 0 (tD h) (dD h) 0 (dD h) 51) := by unfold jumpD; rw [sel_ne _ _ (by rw [hb]; decide)]
theorem bit_k (h b : Nat) (hh : Hid (h < 65536)) (hb : bitsD h 12 12 = b) (w : World) : Calls Tryd.prog 23 #[.int .u16 h, .int .i64 12] w (RetUX b w) := by
  have hc := bit_c h 12 hh (by decide) w
  rw [show h / 2 ^ 12 % 2 = b from hb] at hc; exact hc
set_option maxRecDepth 100000 in
set_option maxHeartbeats 1000000 in
theorem two_c (h : Nat) (hh : Hid (h < 65536)) (w : World) : Calls Tryd.prog 19 #[.int .u16 h] w (RetU (twoD h) w) := by
  have hd : Hid (dD h < 32) := bitsD_lt h 11 7 32 rfl
  have ht : Hid (tD h < 32) := bitsD_lt h 6 2 32 rfl
  have hk8 := Lib.hid (bitsD_lt h 15 13 8 rfl)
  go_enter Tryd.func19, Tryd.ntmps19
  go_wp2_with fail
  refine (bits_k h 11 7 (dD h) hh (by decide) (by decide) rfl _).mono ?_; rintro e u ⟨rfl, rfl⟩
  go_wp2_with fail
  refine (bits_k h 6 2 (tD h) hh (by decide) (by decide) rfl _).mono ?_; rintro e u ⟨rfl, rfl⟩
  go_wp2_with fail
  refine (lowL_n _).mono ?_; rintro e w1 ⟨g1, c1, rfl, N1, hb1⟩
  have hw1 : Below w.heap.size w w1 := (by repeat (first | (with_reducible first | exact Below.refl _ _ | assumption | exact Nat.le_refl _ | refine Below.drew ?_ | refine Below.alloc ?_ ?_ _ | refine Below.setCell ?_ ?_ _ | refine le_alloc ?_ | refine le_set ?_ | refine le_drew ?_ | refine below_step (by assumption) ?_ ?_ | refine le_below (by assumption) ?_) | (dsimp only; omega)))
  go_wp2_with fail
  refine (downL7_n _).mono ?_; rintro e w2 ⟨g2, c2, rfl, N2, hb2⟩
  have NlowL_2 := Lib.hid (nums_below (by first | exact N1.out | exact nums_alloc N1.out _) hb2 (Nat.le_refl _))
  have hw2 : Below w.heap.size w w2 := (by repeat (first | (with_reducible first | exact Below.refl _ _ | assumption | exact Nat.le_refl _ | refine Below.drew ?_ | refine Below.alloc ?_ ?_ _ | refine Below.setCell ?_ ?_ _ | refine le_alloc ?_ | refine le_set ?_ | refine le_drew ?_ | refine below_step (by assumption) ?_ ?_ | refine le_below (by assumption) ?_) | (dsimp only; omega)))
  go_wp2_with fail
  refine (bits_c h 15 13 hh (by decide) (by decide) _).mono ?_; rintro e u ⟨rfl, rfl⟩
  obtain ⟨k, hk⟩ : ∃ k, k = bitsD h 15 13 := ⟨_, rfl⟩
  have HK := Lib.hid hk.symm
  have hk7 : k < 8 := by rw [hk]; exact hk8.out
  rw [← hk]
  clear hk hk8
  have hc : k = 0 ∨ k = 1 ∨ k = 2 ∨ k = 3 ∨ k = 4 ∨ k = 5 ∨ k = 6 ∨ k = 7 := by omega
  clear hk7
  rcases hc with rfl | rfl | rfl | rfl | rfl | rfl | rfl | rfl
  · skip
    have HV := Lib.hid (two_0 h HK.out)
    go_wp2_with fail
    refine (sD_i h hh _ _ _ _ _ (by first | exact NlowL_2.out | exact nums_alloc NlowL_2.out _) (nums_built _ _ _ [5, 4, 3, 2, 1, 0] rfl)).mono ?_; rintro e w3 ⟨rfl, hb3⟩
    have NlowL_3 := Lib.hid (nums_below (by first | exact NlowL_2.out | exact nums_alloc NlowL_2.out _) hb3 (Nat.le_refl _))
    have NdownL7_3 := Lib.hid (nums_below (by first | exact N2.out | exact nums_alloc N2.out _) hb3 (Nat.le_refl _))
    have hw3 : Below w.heap.size w w3 := (by repeat (first | (with_reducible first | exact Below.refl _ _ | assumption | exact Nat.le_refl _ | refine Below.drew ?_ | refine Below.alloc ?_ ?_ _ | refine Below.setCell ?_ ?_ _ | refine le_alloc ?_ | refine le_set ?_ | refine le_drew ?_ | refine below_step (by assumption) ?_ ?_ | refine le_below (by assumption) ?_) | (dsimp only; omega)))
    go_wp2_with fail
    refine (formI_c (sD h) (dD h) 1 (dD h) 19 (sD_b h) hd (by show _ < _; decide) hd (by show _ < _; decide) _).mono ?_; rintro e u ⟨rfl, rfl⟩
    go_wp2_with fail
    go_ret
    exact retU_mk (by rw [HV.out]) (by repeat (first | (with_reducible first | exact Below.refl _ _ | assumption | exact Nat.le_refl _ | refine Below.drew ?_ | refine Below.alloc ?_ ?_ _ | refine Below.setCell ?_ ?_ _ | refine le_alloc ?_ | refine le_set ?_ | refine le_drew ?_ | refine below_step (by assumption) ?_ ?_ | refine le_below (by assumption) ?_) | (dsimp only; omega)))
  · skip
    have HV := Lib.hid (two_1 h HK.out)
    go_wp2_with fail
    refine (fromSp8_n _).mono ?_; rintro e w3 ⟨g3, c3, rfl, N3, hb3⟩
    have NlowL_3 := Lib.hid (nums_below (by first | exact NlowL_2.out | exact nums_alloc NlowL_2.out _) hb3 (Nat.le_refl _))
    have NdownL7_3 := Lib.hid (nums_below (by first | exact N2.out | exact nums_alloc N2.out _) hb3 (Nat.le_refl _))
    have hw3 : Below w.heap.size w w3 := (by repeat (first | (with_reducible first | exact Below.refl _ _ | assumption | exact Nat.le_refl _ | refine Below.drew ?_ | refine Below.alloc ?_ ?_ _ | refine Below.setCell ?_ ?_ _ | refine le_alloc ?_ | refine le_set ?_ | refine le_drew ?_ | refine below_step (by assumption) ?_ ?_ | refine le_below (by assumption) ?_) | (dsimp only; omega)))
    go_wp2_with fail
    refine (ldD_i h hh _ _ _ _ _ (by first | exact NlowL_3.out | exact nums_alloc NlowL_3.out _) (by first | exact N3.out | exact nums_alloc N3.out _)).mono ?_; rintro e w4 ⟨rfl, hb4⟩
    have NlowL_4 := Lib.hid (nums_below (by first | exact NlowL_3.out | exact nums_alloc NlowL_3.out _) hb4 (Nat.le_refl _))
    have NdownL7_4 := Lib.hid (nums_below (by first | exact NdownL7_3.out | exact nums_alloc NdownL7_3.out _) hb4 (Nat.le_refl _))
    have hw4 : Below w.heap.size w w4 := (by repeat (first | (with_reducible first | exact Below.refl _ _ | assumption | exact Nat.le_refl _ | refine Below.drew ?_ | refine Below.alloc ?_ ?_ _ | refine Below.setCell ?_ ?_ _ | refine le_alloc ?_ | refine le_set ?_ | refine le_drew ?_ | refine below_step (by assumption) ?_ ?_ | refine le_below (by assumption) ?_) | (dsimp only; omega)))
    go_wp2_with fail
    refine (formI_c (ldD h) (2) 3 (dD h) 7 (ldD_b h) (by show _ < _; decide) (by show _ < _; decide) hd (by show _ < _; decide) _).mono ?_; rintro e u ⟨rfl, rfl⟩
    go_wp2_with fail
    go_ret
    exact retU_mk (by rw [HV.out]) (by repeat (first | (with_reducible first | exact Below.refl _ _ | assumption | exact Nat.le_refl _ | refine Below.drew ?_ | refine Below.alloc ?_ ?_ _ | refine Below.setCell ?_ ?_ _ | refine le_alloc ?_ | refine le_set ?_ | refine le_drew ?_ | refine below_step (by assumption) ?_ ?_ | refine le_below (by assumption) ?_) | (dsimp only; omega)))
  · skip
    have HV := Lib.hid (two_2 h HK.out)
    by_cases v0 : dD h = 0
    · skip
      have hz0 : (((dD h : Nat) : Int) == 0) = true := by rw [v0]; rfl
      have hn0 : (((dD h : Nat) : Int) != 0) = false := by rw [v0]; rfl
      have HV2 := Lib.hid (HV.out.trans (sel_at _ _ v0))
      clear v0 HV
      go_wp2_with fail
      go_ret
      exact retU_mk (by rw [HV2.out]; rfl) (by repeat (first | (with_reducible first | exact Below.refl _ _ | assumption | exact Nat.le_refl _ | refine Below.drew ?_ | refine Below.alloc ?_ ?_ _ | refine Below.setCell ?_ ?_ _ | refine le_alloc ?_ | refine le_set ?_ | refine le_drew ?_ | refine below_step (by assumption) ?_ ?_ | refine le_below (by assumption) ?_) | (dsimp only; omega)))
    · skip
      have hz0 : (((dD h : Nat) : Int) == 0) = false := by rw [beq_eq_false_iff_ne]; omega
      have hn0 : (((dD h : Nat) : Int) != 0) = true := by rw [bne_iff_ne]; omega
      have HV2 := Lib.hid (HV.out.trans (sel_ne _ _ v0))
      clear v0 HV
      go_wp2_with fail
      refine (fromSp4_n _).mono ?_; rintro e w3 ⟨g3, c3, rfl, N3, hb3⟩
      have NlowL_3 := Lib.hid (nums_below (by first | exact NlowL_2.out | exact nums_alloc NlowL_2.out _) hb3 (Nat.le_refl _))
      have NdownL7_3 := Lib.hid (nums_below (by first | exact N2.out | exact nums_alloc N2.out _) hb3 (Nat.le_refl _))
      have hw3 : Below w.heap.size w w3 := (by repeat (first | (with_reducible first | exact Below.refl _ _ | assumption | exact Nat.le_refl _ | refine Below.drew ?_ | refine Below.alloc ?_ ?_ _ | refine Below.setCell ?_ ?_ _ | refine le_alloc ?_ | refine le_set ?_ | refine le_drew ?_ | refine below_step (by assumption) ?_ ?_ | refine le_below (by assumption) ?_) | (dsimp only; omega)))
      go_wp2_with fail
      refine (lwD_i h hh _ _ _ _ _ (by first | exact NlowL_3.out | exact nums_alloc NlowL_3.out _) (by first | exact N3.out | exact nums_alloc N3.out _)).mono ?_; rintro e w4 ⟨rfl, hb4⟩
      have NlowL_4 := Lib.hid (nums_below (by first | exact NlowL_3.out | exact nums_alloc NlowL_3.out _) hb4 (Nat.le_refl _))
      have NdownL7_4 := Lib.hid (nums_below (by first | exact NdownL7_3.out | exact nums_alloc NdownL7_3.out _) hb4 (Nat.le_refl _))
      have hw4 : Below w.heap.size w w4 := (by repeat (first | (with_reducible first | exact Below.refl _ _ | assumption | exact Nat.le_refl _ | refine Below.drew ?_ | refine Below.alloc ?_ ?_ _ | refine Below.setCell ?_ ?_ _ | refine le_alloc ?_ | refine le_set ?_ | refine le_drew ?_ | refine below_step (by assumption) ?_ ?_ | refine le_below (by assumption) ?_) | (dsimp only; omega)))
      go_wp2_with fail
      refine (formI_c (lwD h) (2) 2 (dD h) 3 (lwD_b h) (by show _ < _; decide) (by show _ < _; decide) hd (by show _ < _; decide) _).mono ?_; rintro e u ⟨rfl, rfl⟩
      go_wp2_with fail
      go_ret
      exact retU_mk (by rw [HV2.out]) (by repeat (first | (with_reducible first | exact Below.refl _ _ | assumption | exact Nat.le_refl _ | refine Below.drew ?_ | refine Below.alloc ?_ ?_ _ | refine Below.setCell ?_ ?_ _ | refine le_alloc ?_ | refine le_set ?_ | refine le_drew ?_ | refine below_step (by assumption) ?_ ?_ | refine le_below (by assumption) ?_) | (dsimp only; omega)))
  · skip
    have HV := Lib.hid (two_3 h HK.out)
    by_cases v0 : dD h = 0
    · skip
      have hz0 : (((dD h : Nat) : Int) == 0) = true := by rw [v0]; rfl
      have hn0 : (((dD h : Nat) : Int) != 0) = false := by rw [v0]; rfl
      have HV2 := Lib.hid (HV.out.trans (sel_at _ _ v0))
      clear v0 HV
      go_wp2_with fail
      go_ret
      exact retU_mk (by rw [HV2.out]; rfl) (by repeat (first | (with_reducible first | exact Below.refl _ _ | assumption | exact Nat.le_refl _ | refine Below.drew ?_ | refine Below.alloc ?_ ?_ _ | refine Below.setCell ?_ ?_ _ | refine le_alloc ?_ | refine le_set ?_ | refine le_drew ?_ | refine below_step (by assumption) ?_ ?_ | refine le_below (by assumption) ?_) | (dsimp only; omega)))
    · skip
      have hz0 : (((dD h : Nat) : Int) == 0) = false := by rw [beq_eq_false_iff_ne]; omega
      have hn0 : (((dD h : Nat) : Int) != 0) = true := by rw [bne_iff_ne]; omega
      have HV2 := Lib.hid (HV.out.trans (sel_ne _ _ v0))
      clear v0 HV
      go_wp2_with fail
      refine (fromSp8_n _).mono ?_; rintro e w3 ⟨g3, c3, rfl, N3, hb3⟩
      have NlowL_3 := Lib.hid (nums_below (by first | exact NlowL_2.out | exact nums_alloc NlowL_2.out _) hb3 (Nat.le_refl _))
      have NdownL7_3 := Lib.hid (nums_below (by first | exact N2.out | exact nums_alloc N2.out _) hb3 (Nat.le_refl _))
      have hw3 : Below w.heap.size w w3 := (by repeat (first | (with_reducible first | exact Below.refl _ _ | assumption | exact Nat.le_refl _ | refine Below.drew ?_ | refine Below.alloc ?_ ?_ _ | refine Below.setCell ?_ ?_ _ | refine le_alloc ?_ | refine le_set ?_ | refine le_drew ?_ | refine below_step (by assumption) ?_ ?_ | refine le_below (by assumption) ?_) | (dsimp only; omega)))
      go_wp2_with fail
      refine (ldD_i h hh _ _ _ _ _ (by first | exact NlowL_3.out | exact nums_alloc NlowL_3.out _) (by first | exact N3.out | exact nums_alloc N3.out _)).mono ?_; rintro e w4 ⟨rfl, hb4⟩
      have NlowL_4 := Lib.hid (nums_below (by first | exact NlowL_3.out | exact nums_alloc NlowL_3.out _) hb4 (Nat.le_refl _))
      have NdownL7_4 := Lib.hid (nums_below (by first | exact NdownL7_3.out | exact nums_alloc NdownL7_3.out _) hb4 (Nat.le_refl _))
      have hw4 : Below w.heap.size w w4 := (by repeat (first | (with_reducible first | exact Below.refl _ _ | assumption | exact Nat.le_refl _ | refine Below.drew ?_ | refine Below.alloc ?_ ?_ _ | refine Below.setCell ?_ ?_ _ | refine le_alloc ?_ | refine le_set ?_ | refine le_drew ?_ | refine below_step (by assumption) ?_ ?_ | refine le_below (by assumption) ?_) | (dsimp only; omega)))
      go_wp2_with fail
      refine (formI_c (ldD h) (2) 3 (dD h) 3 (ldD_b h) (by show _ < _; decide) (by show _ < _; decide) hd (by show _ < _; decide) _).mono ?_; rintro e u ⟨rfl, rfl⟩
      go_wp2_with fail
      go_ret
      exact retU_mk (by rw [HV2.out]) (by repeat (first | (with_reducible first | exact Below.refl _ _ | assumption | exact Nat.le_refl _ | refine Below.drew ?_ | refine Below.alloc ?_ ?_ _ | refine Below.setCell ?_ ?_ _ | refine le_alloc ?_ | refine le_set ?_ | refine le_drew ?_ | refine below_step (by assumption) ?_ ?_ | refine le_below (by assumption) ?_) | (dsimp only; omega)))
  · skip
    have HV := Lib.hid (two_4 h HK.out)
    obtain ⟨b, hb⟩ : ∃ b, bitsD h 12 12 = b := ⟨_, rfl⟩
    have hb2 : b < 2 := by rw [← hb]; exact bitsD_lt h 12 12 2 rfl
    have HB := Lib.hid hb
    clear hb
    have hbc : b = 0 ∨ b = 1 := by omega
    clear hb2
    rcases hbc with rfl | rfl
    · skip
      have HV1 := Lib.hid (HV.out.trans (jump_0 h HB.out))
      by_cases u0 : tD h = 0
      · skip
        have uz : (((tD h : Nat) : Int) == 0) = true := by rw [u0]; rfl
        have un : (((tD h : Nat) : Int) != 0) = false := by rw [u0]; rfl
        have HV2 := Lib.hid (HV1.out.trans (sel_at _ _ u0))
        clear u0 HV1
        by_cases v0 : dD h = 0
        · skip
          have hz0 : (((dD h : Nat) : Int) == 0) = true := by rw [v0]; rfl
          have hn0 : (((dD h : Nat) : Int) != 0) = false := by rw [v0]; rfl
          have HV3 := Lib.hid (HV2.out.trans (sel_at _ _ v0))
          clear v0 HV2
          go_wp2_with fail
          refine (bit_k h 0 hh HB.out _).mono ?_; rintro e u ⟨rfl, rfl⟩
          go_wp2_with fail
          go_ret
          exact retU_mk (by rw [HV3.out]; rfl) (by repeat (first | (with_reducible first | exact Below.refl _ _ | assumption | exact Nat.le_refl _ | refine Below.drew ?_ | refine Below.alloc ?_ ?_ _ | refine Below.setCell ?_ ?_ _ | refine le_alloc ?_ | refine le_set ?_ | refine le_drew ?_ | refine below_step (by assumption) ?_ ?_ | refine le_below (by assumption) ?_) | (dsimp only; omega)))
        · skip
          have hz0 : (((dD h : Nat) : Int) == 0) = false := by rw [beq_eq_false_iff_ne]; omega
          have hn0 : (((dD h : Nat) : Int) != 0) = true := by rw [bne_iff_ne]; omega
          have HV3 := Lib.hid (HV2.out.trans (sel_ne _ _ v0))
          clear v0 HV2
          go_wp2_with fail
          refine (bit_k h 0 hh HB.out _).mono ?_; rintro e u ⟨rfl, rfl⟩
          go_wp2_with fail
          refine (bit_k h 0 hh HB.out _).mono ?_; rintro e u ⟨rfl, rfl⟩
          go_wp2_with fail
          refine (formI_c (0) (dD h) 0 (0) 103 (by show _ < _; decide) hd (by show _ < _; decide) (by show _ < _; decide) (by show _ < _; decide) _).mono ?_; rintro e u ⟨rfl, rfl⟩
          go_wp2_with fail
          go_ret
          exact retU_mk (by rw [HV3.out]) (by repeat (first | (with_reducible first | exact Below.refl _ _ | assumption | exact Nat.le_refl _ | refine Below.drew ?_ | refine Below.alloc ?_ ?_ _ | refine Below.setCell ?_ ?_ _ | refine le_alloc ?_ | refine le_set ?_ | refine le_drew ?_ | refine below_step (by assumption) ?_ ?_ | refine le_below (by assumption) ?_) | (dsimp only; omega)))
      · skip
        have uz : (((tD h : Nat) : Int) == 0) = false := by rw [beq_eq_false_iff_ne]; omega
        have un : (((tD h : Nat) : Int) != 0) = true := by rw [bne_iff_ne]; omega
        have HV2 := Lib.hid (HV1.out.trans (sel_ne _ _ u0))
        clear u0 HV1
        go_wp2_with fail
        refine (bit_k h 0 hh HB.out _).mono ?_; rintro e u ⟨rfl, rfl⟩
        go_wp2_with fail
        refine (bit_k h 0 hh HB.out _).mono ?_; rintro e u ⟨rfl, rfl⟩
        go_wp2_with fail
        refine (bit_k h 0 hh HB.out _).mono ?_; rintro e u ⟨rfl, rfl⟩
        go_wp2_with fail
        refine (formR_c 0 (tD h) (0) 0 (dD h) 51 (by show _ < _; decide) ht (by show _ < _; decide) (by show _ < _; decide) hd (by show _ < _; decide) _).mono ?_; rintro e u ⟨rfl, rfl⟩
        go_wp2_with fail
        go_ret
        exact retU_mk (by rw [HV2.out]) (by repeat (first | (with_reducible first | exact Below.refl _ _ | assumption | exact Nat.le_refl _ | refine Below.drew ?_ | refine Below.alloc ?_ ?_ _ | refine Below.setCell ?_ ?_ _ | refine le_alloc ?_ | refine le_set ?_ | refine le_drew ?_ | refine below_step (by assumption) ?_ ?_ | refine le_below (by assumption) ?_) | (dsimp only; omega)))
    · skip
      have HV1 := Lib.hid (HV.out.trans (jump_1 h HB.out))
      by_cases u0 : tD h = 0
      · skip
        have uz : (((tD h : Nat) : Int) == 0) = true := by rw [u0]; rfl
        have un : (((tD h : Nat) : Int) != 0) = false := by rw [u0]; rfl
        have HV2 := Lib.hid (HV1.out.trans (sel_at _ _ u0))
        clear u0 HV1
        by_cases v0 : dD h = 0
        · skip
          have hz0 : (((dD h : Nat) : Int) == 0) = true := by rw [v0]; rfl
          have hn0 : (((dD h : Nat) : Int) != 0) = false := by rw [v0]; rfl
          have HV3 := Lib.hid (HV2.out.trans (sel_at _ _ v0))
          clear v0 HV2
          go_wp2_with fail
          refine (bit_k h 1 hh HB.out _).mono ?_; rintro e u ⟨rfl, rfl⟩
          go_wp2_with fail
          refine (bit_k h 1 hh HB.out _).mono ?_; rintro e u ⟨rfl, rfl⟩
          go_wp2_with fail
          refine (bit_k h 1 hh HB.out _).mono ?_; rintro e u ⟨rfl, rfl⟩
          go_wp2_with fail
          go_ret
          exact retU_mk (by rw [HV3.out]; rfl) (by repeat (first | (with_reducible first | exact Below.refl _ _ | assumption | exact Nat.le_refl _ | refine Below.drew ?_ | refine Below.alloc ?_ ?_ _ | refine Below.setCell ?_ ?_ _ | refine le_alloc ?_ | refine le_set ?_ | refine le_drew ?_ | refine below_step (by assumption) ?_ ?_ | refine le_below (by assumption) ?_) | (dsimp only; omega)))
        · skip
          have hz0 : (((dD h : Nat) : Int) == 0) = false := by rw [beq_eq_false_iff_ne]; omega
          have hn0 : (((dD h : Nat) : Int) != 0) = true := by rw [bne_iff_ne]; omega
          have HV3 := Lib.hid (HV2.out.trans (sel_ne _ _ v0))
          clear v0 HV2
          go_wp2_with fail
          refine (bit_k h 1 hh HB.out _).mono ?_; rintro e u ⟨rfl, rfl⟩
          go_wp2_with fail
          refine (bit_k h 1 hh HB.out _).mono ?_; rintro e u ⟨rfl, rfl⟩
          go_wp2_with fail
          refine (bit_k h 1 hh HB.out _).mono ?_; rintro e u ⟨rfl, rfl⟩
          go_wp2_with fail
          refine (formI_c (0) (dD h) 0 (1) 103 (by show _ < _; decide) hd (by show _ < _; decide) (by show _ < _; decide) (by show _ < _; decide) _).mono ?_; rintro e u ⟨rfl, rfl⟩
          go_wp2_with fail
          go_ret
          exact retU_mk (by rw [HV3.out]) (by repeat (first | (with_reducible first | exact Below.refl _ _ | assumption | exact Nat.le_refl _ | refine Below.drew ?_ | refine Below.alloc ?_ ?_ _ | refine Below.setCell ?_ ?_ _ | refine le_alloc ?_ | refine le_set ?_ | refine le_drew ?_ | refine below_step (by assumption) ?_ ?_ | refine le_below (by assumption) ?_) | (dsimp only; omega)))
      · skip
        have uz : (((tD h : Nat) : Int) == 0) = false := by rw [beq_eq_false_iff_ne]; omega
        have un : (((tD h : Nat) : Int) != 0) = true := by rw [bne_iff_ne]; omega
        have HV2 := Lib.hid (HV1.out.trans (sel_ne _ _ u0))
        clear u0 HV1
        go_wp2_with fail
        refine (bit_k h 1 hh HB.out _).mono ?_; rintro e u ⟨rfl, rfl⟩
        go_wp2_with fail
        refine (bit_k h 1 hh HB.out _).mono ?_; rintro e u ⟨rfl, rfl⟩
        go_wp2_with fail
        refine (bit_k h 1 hh HB.out _).mono ?_; rintro e u ⟨rfl, rfl⟩
        go_wp2_with fail
        refine (formR_c 0 (tD h) (dD h) 0 (dD h) 51 (by show _ < _; decide) ht hd (by show _ < _; decide) hd (by show _ < _; decide) _).mono ?_; rintro e u ⟨rfl, rfl⟩
        go_wp2_with fail
        go_ret
        exact retU_mk (by rw [HV2.out]) (by repeat (first | (with_reducible first | exact Below.refl _ _ | assumption | exact Nat.le_refl _ | refine Below.drew ?_ | refine Below.alloc ?_ ?_ _ | refine Below.setCell ?_ ?_ _ | refine le_alloc ?_ | refine le_set ?_ | refine le_drew ?_ | refine below_step (by assumption) ?_ ?_ | refine le_below (by assumption) ?_) | (dsimp only; omega)))
  · skip
    have HV := Lib.hid (two_5 h HK.out)
    go_wp2_with fail
    refine (fromSp8_n _).mono ?_; rintro e w3 ⟨g3, c3, rfl, N3, hb3⟩
    have NlowL_3 := Lib.hid (nums_below (by first | exact NlowL_2.out | exact nums_alloc NlowL_2.out _) hb3 (Nat.le_refl _))
    have NdownL7_3 := Lib.hid (nums_below (by first | exact N2.out | exact nums_alloc N2.out _) hb3 (Nat.le_refl _))
    have hw3 : Below w.heap.size w w3 := (by repeat (first | (with_reducible first | exact Below.refl _ _ | assumption | exact Nat.le_refl _ | refine Below.drew ?_ | refine Below.alloc ?_ ?_ _ | refine Below.setCell ?_ ?_ _ | refine le_alloc ?_ | refine le_set ?_ | refine le_drew ?_ | refine below_step (by assumption) ?_ ?_ | refine le_below (by assumption) ?_) | (dsimp only; omega)))
    go_wp2_with fail
    refine (vdD_i h hh _ _ _ _ _ (by first | exact NdownL7_3.out | exact nums_alloc NdownL7_3.out _) (by first | exact N3.out | exact nums_alloc N3.out _)).mono ?_; rintro e w4 ⟨rfl, hb4⟩
    have NlowL_4 := Lib.hid (nums_below (by first | exact NlowL_3.out | exact nums_alloc NlowL_3.out _) hb4 (Nat.le_refl _))
    have NdownL7_4 := Lib.hid (nums_below (by first | exact NdownL7_3.out | exact nums_alloc NdownL7_3.out _) hb4 (Nat.le_refl _))
    have hw4 : Below w.heap.size w w4 := (by repeat (first | (with_reducible first | exact Below.refl _ _ | assumption | exact Nat.le_refl _ | refine Below.drew ?_ | refine Below.alloc ?_ ?_ _ | refine Below.setCell ?_ ?_ _ | refine le_alloc ?_ | refine le_set ?_ | refine le_drew ?_ | refine below_step (by assumption) ?_ ?_ | refine le_below (by assumption) ?_) | (dsimp only; omega)))
    go_wp2_with fail
    refine (formS_c (vdD h) (tD h) (2) 3 39 (vdD_b h) ht (by show _ < _; decide) (by show _ < _; decide) (by show _ < _; decide) _).mono ?_; rintro e u ⟨rfl, rfl⟩
    go_wp2_with fail
    go_ret
    exact retU_mk (by rw [HV.out]) (by repeat (first | (with_reducible first | exact Below.refl _ _ | assumption | exact Nat.le_refl _ | refine Below.drew ?_ | refine Below.alloc ?_ ?_ _ | refine Below.setCell ?_ ?_ _ | refine le_alloc ?_ | refine le_set ?_ | refine le_drew ?_ | refine below_step (by assumption) ?_ ?_ | refine le_below (by assumption) ?_) | (dsimp only; omega)))
  · skip
    have HV := Lib.hid (two_6 h HK.out)
    go_wp2_with fail
    refine (fromSp4_n _).mono ?_; rintro e w3 ⟨g3, c3, rfl, N3, hb3⟩
    have NlowL_3 := Lib.hid (nums_below (by first | exact NlowL_2.out | exact nums_alloc NlowL_2.out _) hb3 (Nat.le_refl _))
    have NdownL7_3 := Lib.hid (nums_below (by first | exact N2.out | exact nums_alloc N2.out _) hb3 (Nat.le_refl _))
    have hw3 : Below w.heap.size w w3 := (by repeat (first | (with_reducible first | exact Below.refl _ _ | assumption | exact Nat.le_refl _ | refine Below.drew ?_ | refine Below.alloc ?_ ?_ _ | refine Below.setCell ?_ ?_ _ | refine le_alloc ?_ | refine le_set ?_ | refine le_drew ?_ | refine below_step (by assumption) ?_ ?_ | refine le_below (by assumption) ?_) | (dsimp only; omega)))
    go_wp2_with fail
    refine (vwD_i h hh _ _ _ _ _ (by first | exact NdownL7_3.out | exact nums_alloc NdownL7_3.out _) (by first | exact N3.out | exact nums_alloc N3.out _)).mono ?_; rintro e w4 ⟨rfl, hb4⟩
    have NlowL_4 := Lib.hid (nums_below (by first | exact NlowL_3.out | exact nums_alloc NlowL_3.out _) hb4 (Nat.le_refl _))
    have NdownL7_4 := Lib.hid (nums_below (by first | exact NdownL7_3.out | exact nums_alloc NdownL7_3.out _) hb4 (Nat.le_refl _))
    have hw4 : Below w.heap.size w w4 := (by repeat (first | (with_reducible first | exact Below.refl _ _ | assumption | exact Nat.le_refl _ | refine Below.drew ?_ | refine Below.alloc ?_ ?_ _ | refine Below.setCell ?_ ?_ _ | refine le_alloc ?_ | refine le_set ?_ | refine le_drew ?_ | refine below_step (by assumption) ?_ ?_ | refine le_below (by assumption) ?_) | (dsimp only; omega)))
    go_wp2_with fail
    refine (formS_c (vwD h) (tD h) (2) 2 35 (vwD_b h) ht (by show _ < _; decide) (by show _ < _; decide) (by show _ < _; decide) _).mono ?_; rintro e u ⟨rfl, rfl⟩
    go_wp2_with fail
    go_ret
    exact retU_mk (by rw [HV.out]) (by repeat (first | (with_reducible first | exact Below.refl _ _ | assumption | exact Nat.le_refl _ | refine Below.drew ?_ | refine Below.alloc ?_ ?_ _ | refine Below.setCell ?_ ?_ _ | refine le_alloc ?_ | refine le_set ?_ | refine le_drew ?_ | refine below_step (by assumption) ?_ ?_ | refine le_below (by assumption) ?_) | (dsimp only; omega)))
  · skip
    have HV := Lib.hid (two_7 h HK.out)
    go_wp2_with fail
    refine (fromSp8_n _).mono ?_; rintro e w3 ⟨g3, c3, rfl, N3, hb3⟩
    have NlowL_3 := Lib.hid (nums_below (by first | exact NlowL_2.out | exact nums_alloc NlowL_2.out _) hb3 (Nat.le_refl _))
    have NdownL7_3 := Lib.hid (nums_below (by first | exact N2.out | exact nums_alloc N2.out _) hb3 (Nat.le_refl _))
    have hw3 : Below w.heap.size w w3 := (by repeat (first | (with_reducible first | exact Below.refl _ _ | assumption | exact Nat.le_refl _ | refine Below.drew ?_ | refine Below.alloc ?_ ?_ _ | refine Below.setCell ?_ ?_ _ | refine le_alloc ?_ | refine le_set ?_ | refine le_drew ?_ | refine below_step (by assumption) ?_ ?_ | refine le_below (by assumption) ?_) | (dsimp only; omega)))
    go_wp2_with fail
    refine (vdD_i h hh _ _ _ _ _ (by first | exact NdownL7_3.out | exact nums_alloc NdownL7_3.out _) (by first | exact N3.out | exact nums_alloc N3.out _)).mono ?_; rintro e w4 ⟨rfl, hb4⟩
    have NlowL_4 := Lib.hid (nums_below (by first | exact NlowL_3.out | exact nums_alloc NlowL_3.out _) hb4 (Nat.le_refl _))
    have NdownL7_4 := Lib.hid (nums_below (by first | exact NdownL7_3.out | exact nums_alloc NdownL7_3.out _) hb4 (Nat.le_refl _))
    have hw4 : Below w.heap.size w w4 := (by repeat (first | (with_reducible first | exact Below.refl _ _ | assumption | exact Nat.le_refl _ | refine Below.drew ?_ | refine Below.alloc ?_ ?_ _ | refine Below.setCell ?_ ?_ _ | refine le_alloc ?_ | refine le_set ?_ | refine le_drew ?_ | refine below_step (by assumption) ?_ ?_ | refine le_below (by assumption) ?_) | (dsimp only; omega)))
    go_wp2_with fail
    refine (formS_c (vdD h) (tD h) (2) 3 35 (vdD_b h) ht (by show _ < _; decide) (by show _ < _; decide) (by show _ < _; decide) _).mono ?_; rintro e u ⟨rfl, rfl⟩
    go_wp2_with fail
    go_ret
    exact retU_mk (by rw [HV.out]) (by repeat (first | (with_reducible first | exact Below.refl _ _ | assumption | exact Nat.le_refl _ | refine Below.drew ?_ | refine Below.alloc ?_ ?_ _ | refine Below.setCell ?_ ?_ _ | refine le_alloc ?_ | refine le_set ?_ | refine le_drew ?_ | refine below_step (by assumption) ?_ ?_ | refine le_below (by assumption) ?_) | (dsimp only; omega)))
end Go.Proofs.YtcfeeookjgdkmaaDoor
