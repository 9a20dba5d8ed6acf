/- The document's own answers: the second column. -/
import Derived.Test.YtcfeeookjgdkmaaDoorR4
namespace Go.Proofs.YtcfeeookjgdkmaaDoor
open Go.ChangeShapes Go.WideShapes Go.ChangeAt Go.RowKit
set_option linter.unusedVariables false
set_option linter.unusedSimpArgs false

theorem one_0 (h : Nat) (hk : kD h = 0) : oneD h = formID (iD h) (dD h) 0 (dD h) 19 := by
  unfold oneD
  rw [sel_at _ _ hk]
theorem one_1 (h : Nat) (hk : kD h = 1) : oneD h = sel (dD h) 0 0 (formID (iD h) (dD h) 0 (dD h) 27) := by
  unfold oneD
  rw [sel_ne _ _ (by rw [hk]; decide), sel_at _ _ hk]
theorem one_2 (h : Nat) (hk : kD h = 2) : oneD h = formID (iD h) 0 0 (dD h) 19 := by
  unfold oneD
  rw [sel_ne _ _ (by rw [hk]; decide), sel_ne _ _ (by rw [hk]; decide), sel_at _ _ hk]
theorem one_3 (h : Nat) (hk : kD h = 3) : oneD h = sel (dD h) 2 (sel (spD h) 0 0 (formID (spD h) 2 0 2 19)) (sel (iD h) 0 0 (formUD (iD h * 4096 % 4294967296) (dD h) 55)) := by
  unfold oneD
  rw [sel_ne _ _ (by rw [hk]; decide), sel_ne _ _ (by rw [hk]; decide), sel_ne _ _ (by rw [hk]; decide), sel_at _ _ hk]
theorem one_4 (h : Nat) (hk : kD h = 4) : oneD h = pairD h := by
  unfold oneD
  rw [sel_ne _ _ (by rw [hk]; decide), sel_ne _ _ (by rw [hk]; decide), sel_ne _ _ (by rw [hk]; decide), sel_ne _ _ (by rw [hk]; decide), sel_ne _ _ (by rw [hk]; decide), sel_ne _ _ (by rw [hk]; decide), sel_ne _ _ (by rw [hk]; decide)]
theorem one_5 (h : Nat) (hk : kD h = 5) : oneD h = formJD (jD h) 0 111 := by
  unfold oneD
  rw [sel_ne _ _ (by rw [hk]; decide), sel_ne _ _ (by rw [hk]; decide), sel_ne _ _ (by rw [hk]; decide), sel_ne _ _ (by rw [hk]; decide), sel_at _ _ hk]
theorem one_6 (h : Nat) (hk : kD h = 6) : oneD h = formBD (awD h) 0 (xD h) 0 99 := by
  unfold oneD
  rw [sel_ne _ _ (by rw [hk]; decide), sel_ne _ _ (by rw [hk]; decide), sel_ne _ _ (by rw [hk]; decide), sel_ne _ _ (by rw [hk]; decide), sel_ne _ _ (by rw [hk]; decide), sel_at _ _ hk]
theorem one_7 (h : Nat) (hk : kD h = 7) : oneD h = formBD (awD h) 0 (xD h) 1 99 := by
  unfold oneD
  rw [sel_ne _ _ (by rw [hk]; decide), sel_ne _ _ (by rw [hk]; decide), sel_ne _ _ (by rw [hk]; decide), sel_ne _ _ (by rw [hk]; decide), sel_ne _ _ (by rw [hk]; decide), sel_ne _ _ (by rw [hk]; decide), sel_at _ _ hk]
theorem pair_0 (h : Nat) (ha : bitsD h 11 10 = 0) : pairD h = formID (sD h) (xD h) 5 (xD h) 19 := by unfold pairD; rw [sel_at _ _ ha]
theorem pair_1 (h : Nat) (ha : bitsD h 11 10 = 1) : pairD h = formID ((sD h + 1024) % 4294967296) (xD h) 5 (xD h) 19 := by unfold pairD; rw [sel_ne _ _ (by rw [ha]; decide), sel_at _ _ ha]
theorem pair_2 (h : Nat) (ha : bitsD h 11 10 = 2) : pairD h = formID (iD h) (xD h) 7 (xD h) 19 := by unfold pairD; rw [sel_ne _ _ (by rw [ha]; decide), sel_ne _ _ (by rw [ha]; decide), sel_at _ _ ha]
theorem pair_3 (h : Nat) (ha : bitsD h 11 10 = 3) : pairD h = sel (bitsD h 12 12) 0 (pair0D h) (pair1D h) := by unfold pairD; rw [sel_ne _ _ (by rw [ha]; decide), sel_ne _ _ (by rw [ha]; decide), sel_ne _ _ (by rw [ha]; decide)]
theorem pair_3_0_0 (h : Nat) (ha : bitsD h 11 10 = 3) (hb : bitsD h 12 12 = 0) (hc : bitsD h 6 5 = 0) : pairD h = formRD 32 (yD h) (xD h) 0 (xD h) 51 := by
  rw [pair_3 h ha, sel_at _ _ hb]
  unfold pair0D
  rw [sel_at _ _ hc]
theorem pair_3_0_1 (h : Nat) (ha : bitsD h 11 10 = 3) (hb : bitsD h 12 12 = 0) (hc : bitsD h 6 5 = 1) : pairD h = formRD 0 (yD h) (xD h) 4 (xD h) 51 := by
  rw [pair_3 h ha, sel_at _ _ hb]
  unfold pair0D
  rw [sel_ne _ _ (by rw [hc]; decide), sel_at _ _ hc]
theorem pair_3_0_2 (h : Nat) (ha : bitsD h 11 10 = 3) (hb : bitsD h 12 12 = 0) (hc : bitsD h 6 5 = 2) : pairD h = formRD 0 (yD h) (xD h) 6 (xD h) 51 := by
  rw [pair_3 h ha, sel_at _ _ hb]
  unfold pair0D
  rw [sel_ne _ _ (by rw [hc]; decide), sel_ne _ _ (by rw [hc]; decide), sel_at _ _ hc]
theorem pair_3_0_3 (h : Nat) (ha : bitsD h 11 10 = 3) (hb : bitsD h 12 12 = 0) (hc : bitsD h 6 5 = 3) : pairD h = formRD 0 (yD h) (xD h) 7 (xD h) 51 := by
  rw [pair_3 h ha, sel_at _ _ hb]
  unfold pair0D
  rw [sel_ne _ _ (by rw [hc]; decide), sel_ne _ _ (by rw [hc]; decide), sel_ne _ _ (by rw [hc]; decide)]
theorem pair_3_1_0 (h : Nat) (ha : bitsD h 11 10 = 3) (hb : bitsD h 12 12 = 1) (hc : bitsD h 6 5 = 0) : pairD h = formRD 32 (yD h) (xD h) 0 (xD h) 59 := by
  rw [pair_3 h ha, sel_ne _ _ (by rw [hb]; decide)]
  unfold pair1D
  rw [sel_at _ _ hc]
theorem pair_3_1_1 (h : Nat) (ha : bitsD h 11 10 = 3) (hb : bitsD h 12 12 = 1) (hc : bitsD h 6 5 = 1) : pairD h = formRD 0 (yD h) (xD h) 0 (xD h) 59 := by
  rw [pair_3 h ha, sel_ne _ _ (by rw [hb]; decide)]
  unfold pair1D
  rw [sel_ne _ _ (by rw [hc]; decide), sel_at _ _ hc]
theorem pair_3_1_2 (h : Nat) (ha : bitsD h 11 10 = 3) (hb : bitsD h 12 12 = 1) (hc : bitsD h 6 5 = 2) : pairD h = 0 := by
  rw [pair_3 h ha, sel_ne _ _ (by rw [hb]; decide)]
  unfold pair1D
  rw [sel_ne _ _ (by rw [hc]; decide), sel_ne _ _ (by rw [hc]; decide)]
theorem pair_3_1_3 (h : Nat) (ha : bitsD h 11 10 = 3) (hb : bitsD h 12 12 = 1) (hc : bitsD h 6 5 = 3) : pairD h = 0 := by
  rw [pair_3 h ha, sel_ne _ _ (by rw [hb]; decide)]
  unfold pair1D
  rw [sel_ne _ _ (by rw [hc]; decide), sel_ne _ _ (by rw [hc]; decide)]
set_option maxRecDepth 100000 in
set_option maxHeartbeats 1000000 in
theorem one_c (h : Nat) (hh : Hid (h < 65536)) (w : World) : Calls Tryd.prog 18 #[.int .u16 h] w (RetU (oneD h) w) := by
  have hx : Hid (xD h < 32) := by show 8 + bitsD h 9 7 < 32; have := bitsD_lt h 9 7 8 rfl; omega
  have hy : Hid (yD h < 32) := by show 8 + bitsD h 4 2 < 32; have := bitsD_lt h 4 2 8 rfl; omega
  have hd : Hid (dD h < 32) := bitsD_lt h 11 7 32 rfl
  have ex : (8 : Int) + (bitsD h 9 7 : Nat) = (xD h : Nat) := by unfold xD; omega
  have ey : (8 : Int) + (bitsD h 4 2 : Nat) = (yD h : Nat) := by unfold yD; omega
  have lx := bitsD_lt h 9 7 8 rfl
  have ly := bitsD_lt h 4 2 8 rfl
  have hk8 := Lib.hid (bitsD_lt h 15 13 8 rfl)
  go_enter Tryd.func18, Tryd.ntmps18
  go_wp2_with fail
  refine (bits_k h 11 7 (dD h) hh (by decide) (by decide) rfl _).mono ?_; rintro e u ⟨rfl, rfl⟩
  go_wp2_with fail
  refine (bits_c h 9 7 hh (by decide) (by decide) _).mono ?_; rintro e u ⟨rfl, rfl⟩
  go_wp2_with fail
  refine (bits_c h 4 2 hh (by decide) (by decide) _).mono ?_; rintro e u ⟨rfl, rfl⟩
  go_wp2_with fail
  refine (lowL_n _).mono ?_; rintro e w1 ⟨g1, c1, rfl, N1, hb1⟩
  have hw1 : Below w.heap.size w w1 := (by repeat (first | (with_reducible first | exact Below.refl _ _ | assumption | exact Nat.le_refl _ | refine Below.drew ?_ | refine Below.alloc ?_ ?_ _ | refine Below.setCell ?_ ?_ _ | refine le_alloc ?_ | refine le_set ?_ | refine le_drew ?_ | refine below_step (by assumption) ?_ ?_ | refine le_below (by assumption) ?_) | (dsimp only; omega)))
  go_wp2_with fail
  refine (iD_i h hh _ _ _ _ _ (by first | exact N1.out | exact nums_alloc N1.out _) (nums_built _ _ _ [5, 4, 3, 2, 1, 0] rfl)).mono ?_; rintro e w2 ⟨rfl, hb2⟩
  have NlowL_2 := Lib.hid (nums_below (by first | exact N1.out | exact nums_alloc N1.out _) hb2 (Nat.le_refl _))
  have hw2 : Below w.heap.size w w2 := (by repeat (first | (with_reducible first | exact Below.refl _ _ | assumption | exact Nat.le_refl _ | refine Below.drew ?_ | refine Below.alloc ?_ ?_ _ | refine Below.setCell ?_ ?_ _ | refine le_alloc ?_ | refine le_set ?_ | refine le_drew ?_ | refine below_step (by assumption) ?_ ?_ | refine le_below (by assumption) ?_) | (dsimp only; omega)))
  go_wp2_with fail
  refine (sD_i h hh _ _ _ _ _ (by first | exact NlowL_2.out | exact nums_alloc NlowL_2.out _) (nums_built _ _ _ [5, 4, 3, 2, 1, 0] rfl)).mono ?_; rintro e w3 ⟨rfl, hb3⟩
  have NlowL_3 := Lib.hid (nums_below (by first | exact NlowL_2.out | exact nums_alloc NlowL_2.out _) hb3 (Nat.le_refl _))
  have hw3 : Below w.heap.size w w3 := (by repeat (first | (with_reducible first | exact Below.refl _ _ | assumption | exact Nat.le_refl _ | refine Below.drew ?_ | refine Below.alloc ?_ ?_ _ | refine Below.setCell ?_ ?_ _ | refine le_alloc ?_ | refine le_set ?_ | refine le_drew ?_ | refine below_step (by assumption) ?_ ?_ | refine le_below (by assumption) ?_) | (dsimp only; omega)))
  go_wp2_with fail
  refine (awayL_n _).mono ?_; rintro e w4 ⟨g4, c4, rfl, N4, hb4⟩
  have NlowL_4 := Lib.hid (nums_below (by first | exact NlowL_3.out | exact nums_alloc NlowL_3.out _) hb4 (Nat.le_refl _))
  have hw4 : Below w.heap.size w w4 := (by repeat (first | (with_reducible first | exact Below.refl _ _ | assumption | exact Nat.le_refl _ | refine Below.drew ?_ | refine Below.alloc ?_ ?_ _ | refine Below.setCell ?_ ?_ _ | refine le_alloc ?_ | refine le_set ?_ | refine le_drew ?_ | refine below_step (by assumption) ?_ ?_ | refine le_below (by assumption) ?_) | (dsimp only; omega)))
  go_wp2_with fail
  refine (awD_i h hh _ _ _ _ _ (by first | exact N4.out | exact nums_alloc N4.out _) (nums_built _ _ _ [8, 4, 3, 7, 6, 2, 1, 5] rfl)).mono ?_; rintro e w5 ⟨rfl, hb5⟩
  have NlowL_5 := Lib.hid (nums_below (by first | exact NlowL_4.out | exact nums_alloc NlowL_4.out _) hb5 (Nat.le_refl _))
  have NawayL_5 := Lib.hid (nums_below (by first | exact N4.out | exact nums_alloc N4.out _) hb5 (Nat.le_refl _))
  have hw5 : Below w.heap.size w w5 := (by repeat (first | (with_reducible first | exact Below.refl _ _ | assumption | exact Nat.le_refl _ | refine Below.drew ?_ | refine Below.alloc ?_ ?_ _ | refine Below.setCell ?_ ?_ _ | refine le_alloc ?_ | refine le_set ?_ | refine le_drew ?_ | refine below_step (by assumption) ?_ ?_ | refine le_below (by assumption) ?_) | (dsimp only; omega)))
  go_wp2_with fail
  refine (bits_c h 15 13 hh (by decide) (by decide) _).mono ?_; rintro e u ⟨rfl, rfl⟩
  obtain ⟨k, hk⟩ : ∃ k, k = bitsD h 15 13 := ⟨_, rfl⟩
  have HK := Lib.hid hk.symm
  have hk7 : k < 8 := by rw [hk]; exact hk8.out
  rw [← hk]
  clear hk hk8
  have hc : k = 0 ∨ k = 1 ∨ k = 2 ∨ k = 3 ∨ k = 4 ∨ k = 5 ∨ k = 6 ∨ k = 7 := by omega
  clear hk7
  rcases hc with rfl | rfl | rfl | rfl | rfl | rfl | rfl | rfl
  · skip
    have HV := Lib.hid (one_0 h HK.out)
    go_wp2_with fail
    refine (formI_c (iD h) (dD h) 0 (dD h) 19 (iD_b h) hd (by show _ < _; decide) hd (by show _ < _; decide) _).mono ?_; rintro e u ⟨rfl, rfl⟩
    go_wp2_with fail
    go_ret
    exact retU_mk (by rw [HV.out]) (by repeat (first | (with_reducible first | exact Below.refl _ _ | assumption | exact Nat.le_refl _ | refine Below.drew ?_ | refine Below.alloc ?_ ?_ _ | refine Below.setCell ?_ ?_ _ | refine le_alloc ?_ | refine le_set ?_ | refine le_drew ?_ | refine below_step (by assumption) ?_ ?_ | refine le_below (by assumption) ?_) | (dsimp only; omega)))
  · skip
    have HV := Lib.hid (one_1 h HK.out)
    by_cases v0 : dD h = 0
    · skip
      have hz0 : (((dD h : Nat) : Int) == 0) = true := by rw [v0]; rfl
      have hn0 : (((dD h : Nat) : Int) != 0) = false := by rw [v0]; rfl
      have HV2 := Lib.hid (HV.out.trans (sel_at _ _ v0))
      clear v0 HV
      go_wp2_with fail
      go_ret
      exact retU_mk (by rw [HV2.out]; rfl) (by repeat (first | (with_reducible first | exact Below.refl _ _ | assumption | exact Nat.le_refl _ | refine Below.drew ?_ | refine Below.alloc ?_ ?_ _ | refine Below.setCell ?_ ?_ _ | refine le_alloc ?_ | refine le_set ?_ | refine le_drew ?_ | refine below_step (by assumption) ?_ ?_ | refine le_below (by assumption) ?_) | (dsimp only; omega)))
    · skip
      have hz0 : (((dD h : Nat) : Int) == 0) = false := by rw [beq_eq_false_iff_ne]; omega
      have hn0 : (((dD h : Nat) : Int) != 0) = true := by rw [bne_iff_ne]; omega
      have HV2 := Lib.hid (HV.out.trans (sel_ne _ _ v0))
      clear v0 HV
      go_wp2_with fail
      refine (formI_c (iD h) (dD h) 0 (dD h) 27 (iD_b h) hd (by show _ < _; decide) hd (by show _ < _; decide) _).mono ?_; rintro e u ⟨rfl, rfl⟩
      go_wp2_with fail
      go_ret
      exact retU_mk (by rw [HV2.out]) (by repeat (first | (with_reducible first | exact Below.refl _ _ | assumption | exact Nat.le_refl _ | refine Below.drew ?_ | refine Below.alloc ?_ ?_ _ | refine Below.setCell ?_ ?_ _ | refine le_alloc ?_ | refine le_set ?_ | refine le_drew ?_ | refine below_step (by assumption) ?_ ?_ | refine le_below (by assumption) ?_) | (dsimp only; omega)))
  · skip
    have HV := Lib.hid (one_2 h HK.out)
    go_wp2_with fail
    refine (formI_c (iD h) (0) 0 (dD h) 19 (iD_b h) (by show _ < _; decide) (by show _ < _; decide) hd (by show _ < _; decide) _).mono ?_; rintro e u ⟨rfl, rfl⟩
    go_wp2_with fail
    go_ret
    exact retU_mk (by rw [HV.out]) (by repeat (first | (with_reducible first | exact Below.refl _ _ | assumption | exact Nat.le_refl _ | refine Below.drew ?_ | refine Below.alloc ?_ ?_ _ | refine Below.setCell ?_ ?_ _ | refine le_alloc ?_ | refine le_set ?_ | refine le_drew ?_ | refine below_step (by assumption) ?_ ?_ | refine le_below (by assumption) ?_) | (dsimp only; omega)))
  · skip
    have HV := Lib.hid (one_3 h HK.out)
    go_wp2_with fail
    refine (spD_i h hh _ _ _ _ _ (by first | exact NlowL_5.out | exact nums_alloc NlowL_5.out _) (nums_built _ _ _ [9, 4, 6, 8, 7, 5] rfl)).mono ?_; rintro e w6 ⟨rfl, hb6⟩
    have NlowL_6 := Lib.hid (nums_below (by first | exact NlowL_5.out | exact nums_alloc NlowL_5.out _) hb6 (Nat.le_refl _))
    have NawayL_6 := Lib.hid (nums_below (by first | exact NawayL_5.out | exact nums_alloc NawayL_5.out _) hb6 (Nat.le_refl _))
    have hw6 : Below w.heap.size w w6 := (by repeat (first | (with_reducible first | exact Below.refl _ _ | assumption | exact Nat.le_refl _ | refine Below.drew ?_ | refine Below.alloc ?_ ?_ _ | refine Below.setCell ?_ ?_ _ | refine le_alloc ?_ | refine le_set ?_ | refine le_drew ?_ | refine below_step (by assumption) ?_ ?_ | refine le_below (by assumption) ?_) | (dsimp only; omega)))
    by_cases v0 : dD h = 2
    · skip
      have hz2 : (((dD h : Nat) : Int) == 2) = true := by rw [v0]; rfl
      have hn2 : (((dD h : Nat) : Int) != 2) = false := by rw [v0]; rfl
      have HV2 := Lib.hid (HV.out.trans (sel_at _ _ v0))
      clear v0 HV
      by_cases u0 : spD h = 0
      · skip
        have uz : (((spD h : Nat) : Int) == 0) = true := by rw [u0]; rfl
        have un : (((spD h : Nat) : Int) != 0) = false := by rw [u0]; rfl
        have HV3 := Lib.hid (HV2.out.trans (sel_at _ _ u0))
        clear u0 HV2
        go_wp2_with fail
        go_ret
        exact retU_mk (by rw [HV3.out]; rfl) (by repeat (first | (with_reducible first | exact Below.refl _ _ | assumption | exact Nat.le_refl _ | refine Below.drew ?_ | refine Below.alloc ?_ ?_ _ | refine Below.setCell ?_ ?_ _ | refine le_alloc ?_ | refine le_set ?_ | refine le_drew ?_ | refine below_step (by assumption) ?_ ?_ | refine le_below (by assumption) ?_) | (dsimp only; omega)))
      · skip
        have uz : (((spD h : Nat) : Int) == 0) = false := by rw [beq_eq_false_iff_ne]; omega
        have un : (((spD h : Nat) : Int) != 0) = true := by rw [bne_iff_ne]; omega
        have HV3 := Lib.hid (HV2.out.trans (sel_ne _ _ u0))
        clear u0 HV2
        go_wp2_with fail
        refine (formI_c (spD h) (2) 0 (2) 19 (spD_b h) (by show _ < _; decide) (by show _ < _; decide) (by show _ < _; decide) (by show _ < _; decide) _).mono ?_; rintro e u ⟨rfl, rfl⟩
        go_wp2_with fail
        go_ret
        exact retU_mk (by rw [HV3.out]) (by repeat (first | (with_reducible first | exact Below.refl _ _ | assumption | exact Nat.le_refl _ | refine Below.drew ?_ | refine Below.alloc ?_ ?_ _ | refine Below.setCell ?_ ?_ _ | refine le_alloc ?_ | refine le_set ?_ | refine le_drew ?_ | refine below_step (by assumption) ?_ ?_ | refine le_below (by assumption) ?_) | (dsimp only; omega)))
    · skip
      have hz2 : (((dD h : Nat) : Int) == 2) = false := by rw [beq_eq_false_iff_ne]; omega
      have hn2 : (((dD h : Nat) : Int) != 2) = true := by rw [bne_iff_ne]; omega
      have HV2 := Lib.hid (HV.out.trans (sel_ne _ _ v0))
      clear v0 HV
      by_cases u0 : iD h = 0
      · skip
        have uz : (((iD h : Nat) : Int) == 0) = true := by rw [u0]; rfl
        have un : (((iD h : Nat) : Int) != 0) = false := by rw [u0]; rfl
        have HV3 := Lib.hid (HV2.out.trans (sel_at _ _ u0))
        clear u0 HV2
        go_wp2_with fail
        go_ret
        exact retU_mk (by rw [HV3.out]; rfl) (by repeat (first | (with_reducible first | exact Below.refl _ _ | assumption | exact Nat.le_refl _ | refine Below.drew ?_ | refine Below.alloc ?_ ?_ _ | refine Below.setCell ?_ ?_ _ | refine le_alloc ?_ | refine le_set ?_ | refine le_drew ?_ | refine below_step (by assumption) ?_ ?_ | refine le_below (by assumption) ?_) | (dsimp only; omega)))
      · skip
        have uz : (((iD h : Nat) : Int) == 0) = false := by rw [beq_eq_false_iff_ne]; omega
        have un : (((iD h : Nat) : Int) != 0) = true := by rw [bne_iff_ne]; omega
        have HV3 := Lib.hid (HV2.out.trans (sel_ne _ _ u0))
        obtain ⟨M, hM⟩ : ∃ M, M = iD h * 4096 % 4294967296 := ⟨_, rfl⟩
        have em : ((iD h : Nat) : Int) * 4096 % 4294967296 = (M : Int) := by omega
        have hMb : Hid (M < 4294967296) := by show _ < _; omega
        rw [← hM] at HV3
        clear u0 HV2 hM
        go_wp2_with fail
        refine (formU_c M (dD h) 55 hMb hd (by show _ < _; decide) _).mono ?_; rintro e u ⟨rfl, rfl⟩
        go_wp2_with fail
        go_ret
        exact retU_mk (by rw [HV3.out]) (by repeat (first | (with_reducible first | exact Below.refl _ _ | assumption | exact Nat.le_refl _ | refine Below.drew ?_ | refine Below.alloc ?_ ?_ _ | refine Below.setCell ?_ ?_ _ | refine le_alloc ?_ | refine le_set ?_ | refine le_drew ?_ | refine below_step (by assumption) ?_ ?_ | refine le_below (by assumption) ?_) | (dsimp only; omega)))
  · skip
    have HV := Lib.hid (one_4 h HK.out)
    obtain ⟨a, ha⟩ : ∃ a, bitsD h 11 10 = a := ⟨_, rfl⟩
    have ha4 : a < 4 := by rw [← ha]; exact bitsD_lt h 11 10 4 rfl
    have HA := Lib.hid ha
    clear ha
    have hac : a = 0 ∨ a = 1 ∨ a = 2 ∨ a = 3 := by omega
    clear ha4
    rcases hac with rfl | rfl | rfl | rfl
    · skip
      have HV2 := Lib.hid (HV.out.trans (pair_0 h HA.out))
      go_wp2_with fail
      refine (bits_k h 11 10 0 hh (by decide) (by decide) HA.out _).mono ?_; rintro e u ⟨rfl, rfl⟩
      go_wp2_with fail
      refine (bits_c h 12 12 hh (by decide) (by decide) _).mono ?_; rintro e u ⟨rfl, rfl⟩
      go_wp2_with fail
      refine (bits_c h 6 5 hh (by decide) (by decide) _).mono ?_; rintro e u ⟨rfl, rfl⟩
      go_wp2_with fail
      refine (bits_k h 11 10 0 hh (by decide) (by decide) HA.out _).mono ?_; rintro e u ⟨rfl, rfl⟩
      go_wp2_with fail
      refine (formI_c (sD h) (xD h) 5 (xD h) 19 (sD_b h) hx (by show _ < _; decide) hx (by show _ < _; decide) _).mono ?_; rintro e u ⟨rfl, rfl⟩
      go_wp2_with fail
      go_ret
      exact retU_mk (by rw [HV2.out]) (by repeat (first | (with_reducible first | exact Below.refl _ _ | assumption | exact Nat.le_refl _ | refine Below.drew ?_ | refine Below.alloc ?_ ?_ _ | refine Below.setCell ?_ ?_ _ | refine le_alloc ?_ | refine le_set ?_ | refine le_drew ?_ | refine below_step (by assumption) ?_ ?_ | refine le_below (by assumption) ?_) | (dsimp only; omega)))
    · skip
      have HV2 := Lib.hid (HV.out.trans (pair_1 h HA.out))
      obtain ⟨M, hM⟩ : ∃ M, M = (sD h + 1024) % 4294967296 := ⟨_, rfl⟩
      have em : (((sD h : Nat) : Int) + 1024) % 4294967296 = (M : Int) := by omega
      have hMb : Hid (M < 4294967296) := by show _ < _; omega
      rw [← hM] at HV2
      clear hM
      go_wp2_with fail
      refine (bits_k h 11 10 1 hh (by decide) (by decide) HA.out _).mono ?_; rintro e u ⟨rfl, rfl⟩
      go_wp2_with fail
      refine (bits_c h 12 12 hh (by decide) (by decide) _).mono ?_; rintro e u ⟨rfl, rfl⟩
      go_wp2_with fail
      refine (bits_c h 6 5 hh (by decide) (by decide) _).mono ?_; rintro e u ⟨rfl, rfl⟩
      go_wp2_with fail
      refine (bits_k h 11 10 1 hh (by decide) (by decide) HA.out _).mono ?_; rintro e u ⟨rfl, rfl⟩
      go_wp2_with fail
      refine (bits_k h 11 10 1 hh (by decide) (by decide) HA.out _).mono ?_; rintro e u ⟨rfl, rfl⟩
      go_wp2_with fail
      refine (formI_c (M) (xD h) 5 (xD h) 19 hMb hx (by show _ < _; decide) hx (by show _ < _; decide) _).mono ?_; rintro e u ⟨rfl, rfl⟩
      go_wp2_with fail
      go_ret
      exact retU_mk (by rw [HV2.out]) (by repeat (first | (with_reducible first | exact Below.refl _ _ | assumption | exact Nat.le_refl _ | refine Below.drew ?_ | refine Below.alloc ?_ ?_ _ | refine Below.setCell ?_ ?_ _ | refine le_alloc ?_ | refine le_set ?_ | refine le_drew ?_ | refine below_step (by assumption) ?_ ?_ | refine le_below (by assumption) ?_) | (dsimp only; omega)))
    · skip
      have HV2 := Lib.hid (HV.out.trans (pair_2 h HA.out))
      go_wp2_with fail
      refine (bits_k h 11 10 2 hh (by decide) (by decide) HA.out _).mono ?_; rintro e u ⟨rfl, rfl⟩
      go_wp2_with fail
      refine (bits_c h 12 12 hh (by decide) (by decide) _).mono ?_; rintro e u ⟨rfl, rfl⟩
      go_wp2_with fail
      refine (bits_c h 6 5 hh (by decide) (by decide) _).mono ?_; rintro e u ⟨rfl, rfl⟩
      go_wp2_with fail
      refine (bits_k h 11 10 2 hh (by decide) (by decide) HA.out _).mono ?_; rintro e u ⟨rfl, rfl⟩
      go_wp2_with fail
      refine (bits_k h 11 10 2 hh (by decide) (by decide) HA.out _).mono ?_; rintro e u ⟨rfl, rfl⟩
      go_wp2_with fail
      refine (bits_k h 11 10 2 hh (by decide) (by decide) HA.out _).mono ?_; rintro e u ⟨rfl, rfl⟩
      go_wp2_with fail
      refine (formI_c (iD h) (xD h) 7 (xD h) 19 (iD_b h) hx (by show _ < _; decide) hx (by show _ < _; decide) _).mono ?_; rintro e u ⟨rfl, rfl⟩
      go_wp2_with fail
      go_ret
      exact retU_mk (by rw [HV2.out]) (by repeat (first | (with_reducible first | exact Below.refl _ _ | assumption | exact Nat.le_refl _ | refine Below.drew ?_ | refine Below.alloc ?_ ?_ _ | refine Below.setCell ?_ ?_ _ | refine le_alloc ?_ | refine le_set ?_ | refine le_drew ?_ | refine below_step (by assumption) ?_ ?_ | refine le_below (by assumption) ?_) | (dsimp only; omega)))
    · skip
      go_wp2_with fail
      refine (bits_k h 11 10 3 hh (by decide) (by decide) HA.out _).mono ?_; rintro e u ⟨rfl, rfl⟩
      go_wp2_with fail
      obtain ⟨b, hb⟩ : ∃ b, bitsD h 12 12 = b := ⟨_, rfl⟩
      have hb2 : b < 2 := by rw [← hb]; exact bitsD_lt h 12 12 2 rfl
      obtain ⟨c, hc⟩ : ∃ c, bitsD h 6 5 = c := ⟨_, rfl⟩
      have hc4 : c < 4 := by rw [← hc]; exact bitsD_lt h 6 5 4 rfl
      have HB := Lib.hid hb
      have HC := Lib.hid hc
      clear hb hc
      have hbc : b = 0 ∨ b = 1 := by omega
      have hcc : c = 0 ∨ c = 1 ∨ c = 2 ∨ c = 3 := by omega
      clear hb2 hc4
      rcases hbc with rfl | rfl
      · skip
        refine (bits_k h 12 12 0 hh (by decide) (by decide) HB.out _).mono ?_; rintro e u ⟨rfl, rfl⟩
        go_wp2_with fail
        rcases hcc with rfl | rfl | rfl | rfl
        · skip
          have HV2 := Lib.hid (HV.out.trans (pair_3_0_0 h HA.out HB.out HC.out))
          refine (bits_k h 6 5 0 hh (by decide) (by decide) HC.out _).mono ?_; rintro e u ⟨rfl, rfl⟩
          go_wp2_with fail
          refine (bits_k h 11 10 3 hh (by decide) (by decide) HA.out _).mono ?_; rintro e u ⟨rfl, rfl⟩
          go_wp2_with fail
          refine (bits_k h 11 10 3 hh (by decide) (by decide) HA.out _).mono ?_; rintro e u ⟨rfl, rfl⟩
          go_wp2_with fail
          refine (bits_k h 11 10 3 hh (by decide) (by decide) HA.out _).mono ?_; rintro e u ⟨rfl, rfl⟩
          go_wp2_with fail
          refine (formR_c 32 (yD h) (xD h) 0 (xD h) 51 (by show _ < _; decide) hy hx (by show _ < _; decide) hx (by show _ < _; decide) _).mono ?_; rintro e u ⟨rfl, rfl⟩
          go_wp2_with fail
          go_ret
          exact retU_mk (by rw [HV2.out]) (by repeat (first | (with_reducible first | exact Below.refl _ _ | assumption | exact Nat.le_refl _ | refine Below.drew ?_ | refine Below.alloc ?_ ?_ _ | refine Below.setCell ?_ ?_ _ | refine le_alloc ?_ | refine le_set ?_ | refine le_drew ?_ | refine below_step (by assumption) ?_ ?_ | refine le_below (by assumption) ?_) | (dsimp only; omega)))
        · skip
          have HV2 := Lib.hid (HV.out.trans (pair_3_0_1 h HA.out HB.out HC.out))
          refine (bits_k h 6 5 1 hh (by decide) (by decide) HC.out _).mono ?_; rintro e u ⟨rfl, rfl⟩
          go_wp2_with fail
          refine (bits_k h 11 10 3 hh (by decide) (by decide) HA.out _).mono ?_; rintro e u ⟨rfl, rfl⟩
          go_wp2_with fail
          refine (bits_k h 11 10 3 hh (by decide) (by decide) HA.out _).mono ?_; rintro e u ⟨rfl, rfl⟩
          go_wp2_with fail
          refine (bits_k h 11 10 3 hh (by decide) (by decide) HA.out _).mono ?_; rintro e u ⟨rfl, rfl⟩
          go_wp2_with fail
          refine (formR_c 0 (yD h) (xD h) 4 (xD h) 51 (by show _ < _; decide) hy hx (by show _ < _; decide) hx (by show _ < _; decide) _).mono ?_; rintro e u ⟨rfl, rfl⟩
          go_wp2_with fail
          go_ret
          exact retU_mk (by rw [HV2.out]) (by repeat (first | (with_reducible first | exact Below.refl _ _ | assumption | exact Nat.le_refl _ | refine Below.drew ?_ | refine Below.alloc ?_ ?_ _ | refine Below.setCell ?_ ?_ _ | refine le_alloc ?_ | refine le_set ?_ | refine le_drew ?_ | refine below_step (by assumption) ?_ ?_ | refine le_below (by assumption) ?_) | (dsimp only; omega)))
        · skip
          have HV2 := Lib.hid (HV.out.trans (pair_3_0_2 h HA.out HB.out HC.out))
          refine (bits_k h 6 5 2 hh (by decide) (by decide) HC.out _).mono ?_; rintro e u ⟨rfl, rfl⟩
          go_wp2_with fail
          refine (bits_k h 11 10 3 hh (by decide) (by decide) HA.out _).mono ?_; rintro e u ⟨rfl, rfl⟩
          go_wp2_with fail
          refine (bits_k h 11 10 3 hh (by decide) (by decide) HA.out _).mono ?_; rintro e u ⟨rfl, rfl⟩
          go_wp2_with fail
          refine (bits_k h 11 10 3 hh (by decide) (by decide) HA.out _).mono ?_; rintro e u ⟨rfl, rfl⟩
          go_wp2_with fail
          refine (formR_c 0 (yD h) (xD h) 6 (xD h) 51 (by show _ < _; decide) hy hx (by show _ < _; decide) hx (by show _ < _; decide) _).mono ?_; rintro e u ⟨rfl, rfl⟩
          go_wp2_with fail
          go_ret
          exact retU_mk (by rw [HV2.out]) (by repeat (first | (with_reducible first | exact Below.refl _ _ | assumption | exact Nat.le_refl _ | refine Below.drew ?_ | refine Below.alloc ?_ ?_ _ | refine Below.setCell ?_ ?_ _ | refine le_alloc ?_ | refine le_set ?_ | refine le_drew ?_ | refine below_step (by assumption) ?_ ?_ | refine le_below (by assumption) ?_) | (dsimp only; omega)))
        · skip
          have HV2 := Lib.hid (HV.out.trans (pair_3_0_3 h HA.out HB.out HC.out))
          refine (bits_k h 6 5 3 hh (by decide) (by decide) HC.out _).mono ?_; rintro e u ⟨rfl, rfl⟩
          go_wp2_with fail
          refine (bits_k h 11 10 3 hh (by decide) (by decide) HA.out _).mono ?_; rintro e u ⟨rfl, rfl⟩
          go_wp2_with fail
          refine (bits_k h 11 10 3 hh (by decide) (by decide) HA.out _).mono ?_; rintro e u ⟨rfl, rfl⟩
          go_wp2_with fail
          refine (bits_k h 11 10 3 hh (by decide) (by decide) HA.out _).mono ?_; rintro e u ⟨rfl, rfl⟩
          go_wp2_with fail
          refine (formR_c 0 (yD h) (xD h) 7 (xD h) 51 (by show _ < _; decide) hy hx (by show _ < _; decide) hx (by show _ < _; decide) _).mono ?_; rintro e u ⟨rfl, rfl⟩
          go_wp2_with fail
          go_ret
          exact retU_mk (by rw [HV2.out]) (by repeat (first | (with_reducible first | exact Below.refl _ _ | assumption | exact Nat.le_refl _ | refine Below.drew ?_ | refine Below.alloc ?_ ?_ _ | refine Below.setCell ?_ ?_ _ | refine le_alloc ?_ | refine le_set ?_ | refine le_drew ?_ | refine below_step (by assumption) ?_ ?_ | refine le_below (by assumption) ?_) | (dsimp only; omega)))
      · skip
        refine (bits_k h 12 12 1 hh (by decide) (by decide) HB.out _).mono ?_; rintro e u ⟨rfl, rfl⟩
        go_wp2_with fail
        rcases hcc with rfl | rfl | rfl | rfl
        · skip
          have HV2 := Lib.hid (HV.out.trans (pair_3_1_0 h HA.out HB.out HC.out))
          refine (bits_k h 6 5 0 hh (by decide) (by decide) HC.out _).mono ?_; rintro e u ⟨rfl, rfl⟩
          go_wp2_with fail
          refine (bits_k h 11 10 3 hh (by decide) (by decide) HA.out _).mono ?_; rintro e u ⟨rfl, rfl⟩
          go_wp2_with fail
          refine (bits_k h 11 10 3 hh (by decide) (by decide) HA.out _).mono ?_; rintro e u ⟨rfl, rfl⟩
          go_wp2_with fail
          refine (bits_k h 11 10 3 hh (by decide) (by decide) HA.out _).mono ?_; rintro e u ⟨rfl, rfl⟩
          go_wp2_with fail
          refine (formR_c 32 (yD h) (xD h) 0 (xD h) 59 (by show _ < _; decide) hy hx (by show _ < _; decide) hx (by show _ < _; decide) _).mono ?_; rintro e u ⟨rfl, rfl⟩
          go_wp2_with fail
          go_ret
          exact retU_mk (by rw [HV2.out]) (by repeat (first | (with_reducible first | exact Below.refl _ _ | assumption | exact Nat.le_refl _ | refine Below.drew ?_ | refine Below.alloc ?_ ?_ _ | refine Below.setCell ?_ ?_ _ | refine le_alloc ?_ | refine le_set ?_ | refine le_drew ?_ | refine below_step (by assumption) ?_ ?_ | refine le_below (by assumption) ?_) | (dsimp only; omega)))
        · skip
          have HV2 := Lib.hid (HV.out.trans (pair_3_1_1 h HA.out HB.out HC.out))
          refine (bits_k h 6 5 1 hh (by decide) (by decide) HC.out _).mono ?_; rintro e u ⟨rfl, rfl⟩
          go_wp2_with fail
          refine (bits_k h 11 10 3 hh (by decide) (by decide) HA.out _).mono ?_; rintro e u ⟨rfl, rfl⟩
          go_wp2_with fail
          refine (bits_k h 11 10 3 hh (by decide) (by decide) HA.out _).mono ?_; rintro e u ⟨rfl, rfl⟩
          go_wp2_with fail
          refine (bits_k h 11 10 3 hh (by decide) (by decide) HA.out _).mono ?_; rintro e u ⟨rfl, rfl⟩
          go_wp2_with fail
          refine (formR_c 0 (yD h) (xD h) 0 (xD h) 59 (by show _ < _; decide) hy hx (by show _ < _; decide) hx (by show _ < _; decide) _).mono ?_; rintro e u ⟨rfl, rfl⟩
          go_wp2_with fail
          go_ret
          exact retU_mk (by rw [HV2.out]) (by repeat (first | (with_reducible first | exact Below.refl _ _ | assumption | exact Nat.le_refl _ | refine Below.drew ?_ | refine Below.alloc ?_ ?_ _ | refine Below.setCell ?_ ?_ _ | refine le_alloc ?_ | refine le_set ?_ | refine le_drew ?_ | refine below_step (by assumption) ?_ ?_ | refine le_below (by assumption) ?_) | (dsimp only; omega)))
        · skip
          have HV2 := Lib.hid (HV.out.trans (pair_3_1_2 h HA.out HB.out HC.out))
          refine (bits_k h 6 5 2 hh (by decide) (by decide) HC.out _).mono ?_; rintro e u ⟨rfl, rfl⟩
          go_wp2_with fail
          refine (bits_k h 11 10 3 hh (by decide) (by decide) HA.out _).mono ?_; rintro e u ⟨rfl, rfl⟩
          go_wp2_with fail
          refine (bits_k h 11 10 3 hh (by decide) (by decide) HA.out _).mono ?_; rintro e u ⟨rfl, rfl⟩
          go_wp2_with fail
          refine (bits_k h 11 10 3 hh (by decide) (by decide) HA.out _).mono ?_; rintro e u ⟨rfl, rfl⟩
          go_wp2_with fail
          go_ret
          exact retU_mk (by rw [HV2.out]; rfl) (by repeat (first | (with_reducible first | exact Below.refl _ _ | assumption | exact Nat.le_refl _ | refine Below.drew ?_ | refine Below.alloc ?_ ?_ _ | refine Below.setCell ?_ ?_ _ | refine le_alloc ?_ | refine le_set ?_ | refine le_drew ?_ | refine below_step (by assumption) ?_ ?_ | refine le_below (by assumption) ?_) | (dsimp only; omega)))
        · skip
          have HV2 := Lib.hid (HV.out.trans (pair_3_1_3 h HA.out HB.out HC.out))
          refine (bits_k h 6 5 3 hh (by decide) (by decide) HC.out _).mono ?_; rintro e u ⟨rfl, rfl⟩
          go_wp2_with fail
          refine (bits_k h 11 10 3 hh (by decide) (by decide) HA.out _).mono ?_; rintro e u ⟨rfl, rfl⟩
          go_wp2_with fail
          refine (bits_k h 11 10 3 hh (by decide) (by decide) HA.out _).mono ?_; rintro e u ⟨rfl, rfl⟩
          go_wp2_with fail
          refine (bits_k h 11 10 3 hh (by decide) (by decide) HA.out _).mono ?_; rintro e u ⟨rfl, rfl⟩
          go_wp2_with fail
          go_ret
          exact retU_mk (by rw [HV2.out]; rfl) (by repeat (first | (with_reducible first | exact Below.refl _ _ | assumption | exact Nat.le_refl _ | refine Below.drew ?_ | refine Below.alloc ?_ ?_ _ | refine Below.setCell ?_ ?_ _ | refine le_alloc ?_ | refine le_set ?_ | refine le_drew ?_ | refine below_step (by assumption) ?_ ?_ | refine le_below (by assumption) ?_) | (dsimp only; omega)))
  · skip
    have HV := Lib.hid (one_5 h HK.out)
    go_wp2_with fail
    refine (jumpL_n _).mono ?_; rintro e w6 ⟨g6, c6, rfl, N6, hb6⟩
    have NlowL_6 := Lib.hid (nums_below (by first | exact NlowL_5.out | exact nums_alloc NlowL_5.out _) hb6 (Nat.le_refl _))
    have NawayL_6 := Lib.hid (nums_below (by first | exact NawayL_5.out | exact nums_alloc NawayL_5.out _) hb6 (Nat.le_refl _))
    have hw6 : Below w.heap.size w w6 := (by repeat (first | (with_reducible first | exact Below.refl _ _ | assumption | exact Nat.le_refl _ | refine Below.drew ?_ | refine Below.alloc ?_ ?_ _ | refine Below.setCell ?_ ?_ _ | refine le_alloc ?_ | refine le_set ?_ | refine le_drew ?_ | refine below_step (by assumption) ?_ ?_ | refine le_below (by assumption) ?_) | (dsimp only; omega)))
    go_wp2_with fail
    refine (jD_i h hh _ _ _ _ _ (by first | exact N6.out | exact nums_alloc N6.out _) (nums_built _ _ _ [11, 4, 9, 8, 10, 6, 7, 3, 2, 1, 5] rfl)).mono ?_; rintro e w7 ⟨rfl, hb7⟩
    have NlowL_7 := Lib.hid (nums_below (by first | exact NlowL_6.out | exact nums_alloc NlowL_6.out _) hb7 (Nat.le_refl _))
    have NawayL_7 := Lib.hid (nums_below (by first | exact NawayL_6.out | exact nums_alloc NawayL_6.out _) hb7 (Nat.le_refl _))
    have NjumpL_7 := Lib.hid (nums_below (by first | exact N6.out | exact nums_alloc N6.out _) hb7 (Nat.le_refl _))
    have hw7 : Below w.heap.size w w7 := (by repeat (first | (with_reducible first | exact Below.refl _ _ | assumption | exact Nat.le_refl _ | refine Below.drew ?_ | refine Below.alloc ?_ ?_ _ | refine Below.setCell ?_ ?_ _ | refine le_alloc ?_ | refine le_set ?_ | refine le_drew ?_ | refine below_step (by assumption) ?_ ?_ | refine le_below (by assumption) ?_) | (dsimp only; omega)))
    go_wp2_with fail
    refine (formJ_c (jD h) 0 111 (jD_b h) (by show _ < _; decide) (by show _ < _; decide) _).mono ?_; rintro e u ⟨rfl, rfl⟩
    go_wp2_with fail
    go_ret
    exact retU_mk (by rw [HV.out]) (by repeat (first | (with_reducible first | exact Below.refl _ _ | assumption | exact Nat.le_refl _ | refine Below.drew ?_ | refine Below.alloc ?_ ?_ _ | refine Below.setCell ?_ ?_ _ | refine le_alloc ?_ | refine le_set ?_ | refine le_drew ?_ | refine below_step (by assumption) ?_ ?_ | refine le_below (by assumption) ?_) | (dsimp only; omega)))
  · skip
    have HV := Lib.hid (one_6 h HK.out)
    go_wp2_with fail
    refine (formB_c (awD h) 0 (xD h) 0 99 (awD_b h) (by show _ < _; decide) hx (by show _ < _; decide) (by show _ < _; decide) _).mono ?_; rintro e u ⟨rfl, rfl⟩
    go_wp2_with fail
    go_ret
    exact retU_mk (by rw [HV.out]) (by repeat (first | (with_reducible first | exact Below.refl _ _ | assumption | exact Nat.le_refl _ | refine Below.drew ?_ | refine Below.alloc ?_ ?_ _ | refine Below.setCell ?_ ?_ _ | refine le_alloc ?_ | refine le_set ?_ | refine le_drew ?_ | refine below_step (by assumption) ?_ ?_ | refine le_below (by assumption) ?_) | (dsimp only; omega)))
  · skip
    have HV := Lib.hid (one_7 h HK.out)
    go_wp2_with fail
    refine (formB_c (awD h) 0 (xD h) 1 99 (awD_b h) (by show _ < _; decide) hx (by show _ < _; decide) (by show _ < _; decide) _).mono ?_; rintro e u ⟨rfl, rfl⟩
    go_wp2_with fail
    go_ret
    exact retU_mk (by rw [HV.out]) (by repeat (first | (with_reducible first | exact Below.refl _ _ | assumption | exact Nat.le_refl _ | refine Below.drew ?_ | refine Below.alloc ?_ ?_ _ | refine Below.setCell ?_ ?_ _ | refine le_alloc ?_ | refine le_set ?_ | refine le_drew ?_ | refine below_step (by assumption) ?_ ?_ | refine le_below (by assumption) ?_) | (dsimp only; omega)))
end Go.Proofs.YtcfeeookjgdkmaaDoor
