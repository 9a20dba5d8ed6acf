/- The document's own answers: the first column. -/
import Derived.Test.YtcfeeookjgdkmaaDoorR4
namespace Go.Proofs.YtcfeeookjgdkmaaDoor
open Go.ChangeShapes Go.WideShapes Go.ChangeAt Go.RowKit
set_option linter.unusedVariables false
set_option linter.unusedSimpArgs false

theorem zero_0 (h : Nat) (hk : kD h = 0) : zeroD h = sel (wD h) 0 0 (formID (wD h) 2 0 (yD h) 19) := by
  unfold zeroD
  rw [sel_at _ _ hk]
theorem zero_1 (h : Nat) (hk : kD h = 1) : zeroD h = formID (eD h) (xD h) 3 (yD h) 7 := by
  unfold zeroD
  rw [sel_ne _ _ (by rw [hk]; decide), sel_at _ _ hk]
theorem zero_2 (h : Nat) (hk : kD h = 2) : zeroD h = formID (fD h) (xD h) 2 (yD h) 3 := by
  unfold zeroD
  rw [sel_ne _ _ (by rw [hk]; decide), sel_ne _ _ (by rw [hk]; decide), sel_at _ _ hk]
theorem zero_3 (h : Nat) (hk : kD h = 3) : zeroD h = formID (eD h) (xD h) 3 (yD h) 3 := by
  unfold zeroD
  rw [sel_ne _ _ (by rw [hk]; decide), sel_ne _ _ (by rw [hk]; decide), sel_ne _ _ (by rw [hk]; decide), sel_at _ _ hk]
theorem zero_4 (h : Nat) (hk : kD h = 4) : zeroD h = 0 := by
  unfold zeroD
  rw [sel_ne _ _ (by rw [hk]; decide), sel_ne _ _ (by rw [hk]; decide), sel_ne _ _ (by rw [hk]; decide), sel_ne _ _ (by rw [hk]; decide), sel_ne _ _ (by rw [hk]; decide), sel_ne _ _ (by rw [hk]; decide), sel_ne _ _ (by rw [hk]; decide)]
theorem zero_5 (h : Nat) (hk : kD h = 5) : zeroD h = formSD (eD h) (yD h) (xD h) 3 39 := by
  unfold zeroD
  rw [sel_ne _ _ (by rw [hk]; decide), sel_ne _ _ (by rw [hk]; decide), sel_ne _ _ (by rw [hk]; decide), sel_ne _ _ (by rw [hk]; decide), sel_at _ _ hk]
theorem zero_6 (h : Nat) (hk : kD h = 6) : zeroD h = formSD (fD h) (yD h) (xD h) 2 35 := by
  unfold zeroD
  rw [sel_ne _ _ (by rw [hk]; decide), sel_ne _ _ (by rw [hk]; decide), sel_ne _ _ (by rw [hk]; decide), sel_ne _ _ (by rw [hk]; decide), sel_ne _ _ (by rw [hk]; decide), sel_at _ _ hk]
theorem zero_7 (h : Nat) (hk : kD h = 7) : zeroD h = formSD (eD h) (yD h) (xD h) 3 35 := by
  unfold zeroD
  rw [sel_ne _ _ (by rw [hk]; decide), sel_ne _ _ (by rw [hk]; decide), sel_ne _ _ (by rw [hk]; decide), sel_ne _ _ (by rw [hk]; decide), sel_ne _ _ (by rw [hk]; decide), sel_ne _ _ (by rw [hk]; decide), sel_at _ _ hk]
set_option maxRecDepth 100000 in
set_option maxHeartbeats 1000000 in
theorem zero_c (h : Nat) (hh : Hid (h < 65536)) (w : World) : Calls Tryd.prog 17 #[.int .u16 h] w (RetU (zeroD h) w) := by
  have hx : Hid (xD h < 32) := by show 8 + bitsD h 9 7 < 32; have := bitsD_lt h 9 7 8 rfl; omega
  have hy : Hid (yD h < 32) := by show 8 + bitsD h 4 2 < 32; have := bitsD_lt h 4 2 8 rfl; omega
  have ex : (8 : Int) + (bitsD h 9 7 : Nat) = (xD h : Nat) := by unfold xD; omega
  have ey : (8 : Int) + (bitsD h 4 2 : Nat) = (yD h : Nat) := by unfold yD; omega
  have lx := bitsD_lt h 9 7 8 rfl
  have ly := bitsD_lt h 4 2 8 rfl
  have hk8 := Lib.hid (bitsD_lt h 15 13 8 rfl)
  go_enter Tryd.func17, Tryd.ntmps17
  go_wp2_with fail
  refine (bits_c h 9 7 hh (by decide) (by decide) _).mono ?_; rintro e u ⟨rfl, rfl⟩
  go_wp2_with fail
  refine (bits_c h 4 2 hh (by decide) (by decide) _).mono ?_; rintro e u ⟨rfl, rfl⟩
  go_wp2_with fail
  refine (farL_n _).mono ?_; rintro e w1 ⟨g1, c1, rfl, N1, hb1⟩
  have hw1 : Below w.heap.size w w1 := (by repeat (first | (with_reducible first | exact Below.refl _ _ | assumption | exact Nat.le_refl _ | refine Below.drew ?_ | refine Below.alloc ?_ ?_ _ | refine Below.setCell ?_ ?_ _ | refine le_alloc ?_ | refine le_set ?_ | refine le_drew ?_ | refine below_step (by assumption) ?_ ?_ | refine le_below (by assumption) ?_) | (dsimp only; omega)))
  go_wp2_with fail
  refine (eight_n _).mono ?_; rintro e w2 ⟨g2, c2, rfl, N2, hb2⟩
  have NfarL_2 := Lib.hid (nums_below (by first | exact N1.out | exact nums_alloc N1.out _) hb2 (Nat.le_refl _))
  have hw2 : Below w.heap.size w w2 := (by repeat (first | (with_reducible first | exact Below.refl _ _ | assumption | exact Nat.le_refl _ | refine Below.drew ?_ | refine Below.alloc ?_ ?_ _ | refine Below.setCell ?_ ?_ _ | refine le_alloc ?_ | refine le_set ?_ | refine le_drew ?_ | refine below_step (by assumption) ?_ ?_ | refine le_below (by assumption) ?_) | (dsimp only; omega)))
  go_wp2_with fail
  refine (eD_i h hh _ _ _ _ _ (by first | exact NfarL_2.out | exact nums_alloc NfarL_2.out _) (by first | exact N2.out | exact nums_alloc N2.out _)).mono ?_; rintro e w3 ⟨rfl, hb3⟩
  have NfarL_3 := Lib.hid (nums_below (by first | exact NfarL_2.out | exact nums_alloc NfarL_2.out _) hb3 (Nat.le_refl _))
  have hw3 : Below w.heap.size w w3 := (by repeat (first | (with_reducible first | exact Below.refl _ _ | assumption | exact Nat.le_refl _ | refine Below.drew ?_ | refine Below.alloc ?_ ?_ _ | refine Below.setCell ?_ ?_ _ | refine le_alloc ?_ | refine le_set ?_ | refine le_drew ?_ | refine below_step (by assumption) ?_ ?_ | refine le_below (by assumption) ?_) | (dsimp only; omega)))
  go_wp2_with fail
  refine (four_n _).mono ?_; rintro e w4 ⟨g4, c4, rfl, N4, hb4⟩
  have NfarL_4 := Lib.hid (nums_below (by first | exact NfarL_3.out | exact nums_alloc NfarL_3.out _) hb4 (Nat.le_refl _))
  have hw4 : Below w.heap.size w w4 := (by repeat (first | (with_reducible first | exact Below.refl _ _ | assumption | exact Nat.le_refl _ | refine Below.drew ?_ | refine Below.alloc ?_ ?_ _ | refine Below.setCell ?_ ?_ _ | refine le_alloc ?_ | refine le_set ?_ | refine le_drew ?_ | refine below_step (by assumption) ?_ ?_ | refine le_below (by assumption) ?_) | (dsimp only; omega)))
  go_wp2_with fail
  refine (fD_i h hh _ _ _ _ _ (by first | exact NfarL_4.out | exact nums_alloc NfarL_4.out _) (by first | exact N4.out | exact nums_alloc N4.out _)).mono ?_; rintro e w5 ⟨rfl, hb5⟩
  have NfarL_5 := Lib.hid (nums_below (by first | exact NfarL_4.out | exact nums_alloc NfarL_4.out _) hb5 (Nat.le_refl _))
  have hw5 : Below w.heap.size w w5 := (by repeat (first | (with_reducible first | exact Below.refl _ _ | assumption | exact Nat.le_refl _ | refine Below.drew ?_ | refine Below.alloc ?_ ?_ _ | refine Below.setCell ?_ ?_ _ | refine le_alloc ?_ | refine le_set ?_ | refine le_drew ?_ | refine below_step (by assumption) ?_ ?_ | refine le_below (by assumption) ?_) | (dsimp only; omega)))
  go_wp2_with fail
  refine (bits_c h 15 13 hh (by decide) (by decide) _).mono ?_; rintro e u ⟨rfl, rfl⟩
  obtain ⟨k, hk⟩ : ∃ k, k = bitsD h 15 13 := ⟨_, rfl⟩
  have HK := Lib.hid hk.symm
  have hk7 : k < 8 := by rw [hk]; exact hk8.out
  rw [← hk]
  clear hk hk8
  have hc : k = 0 ∨ k = 1 ∨ k = 2 ∨ k = 3 ∨ k = 4 ∨ k = 5 ∨ k = 6 ∨ k = 7 := by omega
  clear hk7
  rcases hc with rfl | rfl | rfl | rfl | rfl | rfl | rfl | rfl
  · skip
    have HV := Lib.hid (zero_0 h HK.out)
    go_wp2_with fail
    refine (wideL_n _).mono ?_; rintro e w6 ⟨g6, c6, rfl, N6, hb6⟩
    have NfarL_6 := Lib.hid (nums_below (by first | exact NfarL_5.out | exact nums_alloc NfarL_5.out _) hb6 (Nat.le_refl _))
    have hw6 : Below w.heap.size w w6 := (by repeat (first | (with_reducible first | exact Below.refl _ _ | assumption | exact Nat.le_refl _ | refine Below.drew ?_ | refine Below.alloc ?_ ?_ _ | refine Below.setCell ?_ ?_ _ | refine le_alloc ?_ | refine le_set ?_ | refine le_drew ?_ | refine below_step (by assumption) ?_ ?_ | refine le_below (by assumption) ?_) | (dsimp only; omega)))
    go_wp2_with fail
    refine (wD_i h hh _ _ _ _ _ (by first | exact N6.out | exact nums_alloc N6.out _) (nums_built _ _ _ [5, 4, 9, 8, 7, 6, 2, 3] rfl)).mono ?_; rintro e w7 ⟨rfl, hb7⟩
    have NfarL_7 := Lib.hid (nums_below (by first | exact NfarL_6.out | exact nums_alloc NfarL_6.out _) hb7 (Nat.le_refl _))
    have NwideL_7 := Lib.hid (nums_below (by first | exact N6.out | exact nums_alloc N6.out _) hb7 (Nat.le_refl _))
    have hw7 : Below w.heap.size w w7 := (by repeat (first | (with_reducible first | exact Below.refl _ _ | assumption | exact Nat.le_refl _ | refine Below.drew ?_ | refine Below.alloc ?_ ?_ _ | refine Below.setCell ?_ ?_ _ | refine le_alloc ?_ | refine le_set ?_ | refine le_drew ?_ | refine below_step (by assumption) ?_ ?_ | refine le_below (by assumption) ?_) | (dsimp only; omega)))
    obtain ⟨v, hv⟩ : ∃ v, v = wD h := ⟨_, rfl⟩
    rw [← hv] at HV ⊢
    have hvb : Hid (v < 4294967296) := by rw [hv]; exact wD_b h
    by_cases v0 : v = 0
    · skip
      subst v0
      have HV2 := HV.out.trans (sel_same 0 _ _)
      clear hv
      go_wp2_with fail
      go_ret
      exact retU_mk (by rw [HV2]; rfl) (by repeat (first | (with_reducible first | exact Below.refl _ _ | assumption | exact Nat.le_refl _ | refine Below.drew ?_ | refine Below.alloc ?_ ?_ _ | refine Below.setCell ?_ ?_ _ | refine le_alloc ?_ | refine le_set ?_ | refine le_drew ?_ | refine below_step (by assumption) ?_ ?_ | refine le_below (by assumption) ?_) | (dsimp only; omega)))
    · skip
      have HV2 := Lib.hid (HV.out.trans (sel_ne _ _ v0))
      have hvz : ((v : Int) == 0) = false := by rw [beq_eq_false_iff_ne]; omega
      clear hv v0 HV
      go_wp2_with fail
      refine (formI_c (v) (2) 0 (yD h) 19 hvb (by show _ < _; decide) (by show _ < _; decide) hy (by show _ < _; decide) _).mono ?_; rintro e u ⟨rfl, rfl⟩
      go_wp2_with fail
      go_ret
      exact retU_mk (by rw [HV2.out]) (by repeat (first | (with_reducible first | exact Below.refl _ _ | assumption | exact Nat.le_refl _ | refine Below.drew ?_ | refine Below.alloc ?_ ?_ _ | refine Below.setCell ?_ ?_ _ | refine le_alloc ?_ | refine le_set ?_ | refine le_drew ?_ | refine below_step (by assumption) ?_ ?_ | refine le_below (by assumption) ?_) | (dsimp only; omega)))
  · skip
    have HV := Lib.hid (zero_1 h HK.out)
    go_wp2_with fail
    refine (formI_c (eD h) (xD h) 3 (yD h) 7 (eD_b h) hx (by show _ < _; decide) hy (by show _ < _; decide) _).mono ?_; rintro e u ⟨rfl, rfl⟩
    go_wp2_with fail
    go_ret
    exact retU_mk (by rw [HV.out]) (by repeat (first | (with_reducible first | exact Below.refl _ _ | assumption | exact Nat.le_refl _ | refine Below.drew ?_ | refine Below.alloc ?_ ?_ _ | refine Below.setCell ?_ ?_ _ | refine le_alloc ?_ | refine le_set ?_ | refine le_drew ?_ | refine below_step (by assumption) ?_ ?_ | refine le_below (by assumption) ?_) | (dsimp only; omega)))
  · skip
    have HV := Lib.hid (zero_2 h HK.out)
    go_wp2_with fail
    refine (formI_c (fD h) (xD h) 2 (yD h) 3 (fD_b h) hx (by show _ < _; decide) hy (by show _ < _; decide) _).mono ?_; rintro e u ⟨rfl, rfl⟩
    go_wp2_with fail
    go_ret
    exact retU_mk (by rw [HV.out]) (by repeat (first | (with_reducible first | exact Below.refl _ _ | assumption | exact Nat.le_refl _ | refine Below.drew ?_ | refine Below.alloc ?_ ?_ _ | refine Below.setCell ?_ ?_ _ | refine le_alloc ?_ | refine le_set ?_ | refine le_drew ?_ | refine below_step (by assumption) ?_ ?_ | refine le_below (by assumption) ?_) | (dsimp only; omega)))
  · skip
    have HV := Lib.hid (zero_3 h HK.out)
    go_wp2_with fail
    refine (formI_c (eD h) (xD h) 3 (yD h) 3 (eD_b h) hx (by show _ < _; decide) hy (by show _ < _; decide) _).mono ?_; rintro e u ⟨rfl, rfl⟩
    go_wp2_with fail
    go_ret
    exact retU_mk (by rw [HV.out]) (by repeat (first | (with_reducible first | exact Below.refl _ _ | assumption | exact Nat.le_refl _ | refine Below.drew ?_ | refine Below.alloc ?_ ?_ _ | refine Below.setCell ?_ ?_ _ | refine le_alloc ?_ | refine le_set ?_ | refine le_drew ?_ | refine below_step (by assumption) ?_ ?_ | refine le_below (by assumption) ?_) | (dsimp only; omega)))
  · skip
    have HV := Lib.hid (zero_4 h HK.out)
    go_wp2_with fail
    go_ret
    exact retU_mk (by rw [HV.out]; rfl) (by repeat (first | (with_reducible first | exact Below.refl _ _ | assumption | exact Nat.le_refl _ | refine Below.drew ?_ | refine Below.alloc ?_ ?_ _ | refine Below.setCell ?_ ?_ _ | refine le_alloc ?_ | refine le_set ?_ | refine le_drew ?_ | refine below_step (by assumption) ?_ ?_ | refine le_below (by assumption) ?_) | (dsimp only; omega)))
  · skip
    have HV := Lib.hid (zero_5 h HK.out)
    go_wp2_with fail
    refine (formS_c (eD h) (yD h) (xD h) 3 39 (eD_b h) hy hx (by show _ < _; decide) (by show _ < _; decide) _).mono ?_; rintro e u ⟨rfl, rfl⟩
    go_wp2_with fail
    go_ret
    exact retU_mk (by rw [HV.out]) (by repeat (first | (with_reducible first | exact Below.refl _ _ | assumption | exact Nat.le_refl _ | refine Below.drew ?_ | refine Below.alloc ?_ ?_ _ | refine Below.setCell ?_ ?_ _ | refine le_alloc ?_ | refine le_set ?_ | refine le_drew ?_ | refine below_step (by assumption) ?_ ?_ | refine le_below (by assumption) ?_) | (dsimp only; omega)))
  · skip
    have HV := Lib.hid (zero_6 h HK.out)
    go_wp2_with fail
    refine (formS_c (fD h) (yD h) (xD h) 2 35 (fD_b h) hy hx (by show _ < _; decide) (by show _ < _; decide) _).mono ?_; rintro e u ⟨rfl, rfl⟩
    go_wp2_with fail
    go_ret
    exact retU_mk (by rw [HV.out]) (by repeat (first | (with_reducible first | exact Below.refl _ _ | assumption | exact Nat.le_refl _ | refine Below.drew ?_ | refine Below.alloc ?_ ?_ _ | refine Below.setCell ?_ ?_ _ | refine le_alloc ?_ | refine le_set ?_ | refine le_drew ?_ | refine below_step (by assumption) ?_ ?_ | refine le_below (by assumption) ?_) | (dsimp only; omega)))
  · skip
    have HV := Lib.hid (zero_7 h HK.out)
    go_wp2_with fail
    refine (formS_c (eD h) (yD h) (xD h) 3 35 (eD_b h) hy hx (by show _ < _; decide) (by show _ < _; decide) _).mono ?_; rintro e u ⟨rfl, rfl⟩
    go_wp2_with fail
    go_ret
    exact retU_mk (by rw [HV.out]) (by repeat (first | (with_reducible first | exact Below.refl _ _ | assumption | exact Nat.le_refl _ | refine Below.drew ?_ | refine Below.alloc ?_ ?_ _ | refine Below.setCell ?_ ?_ _ | refine le_alloc ?_ | refine le_set ?_ | refine le_drew ?_ | refine below_step (by assumption) ?_ ?_ | refine le_below (by assumption) ?_) | (dsimp only; omega)))
end Go.Proofs.YtcfeeookjgdkmaaDoor
