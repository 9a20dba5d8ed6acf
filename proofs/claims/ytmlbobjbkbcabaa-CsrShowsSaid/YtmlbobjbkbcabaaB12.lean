/- The code's Write. -/
import Derived.Test.YtmlbobjbkbcabaaB11
namespace Go.Proofs.Ytmlbobjbkbcabaa
open Go.ChangeShapes Go.WideShapes Go.ChangeAt Go.RowKit P
set_option linter.unusedVariables false
set_option linter.unusedSimpArgs false
theorem not_bit (m i : Nat) (hm : m < 18446744073709551616) (hi : i < 64) : (18446744073709551615 - m).testBit i = !m.testBit i := by
  have e : 18446744073709551615 - m = 2 ^ 64 - (m + 1) := by omega
  rw [e, Nat.testBit_two_pow_sub_succ hm]
  simp [hi]
theorem flt_mix (s : Nat) (hs : s < 18446744073709551616) : mixN s (s ||| 24576) 811298 = s ||| 24576 := by
  refine ext64 (mix_lt _ _ _ hs (or_lt hs (by decide))) (or_lt hs (by decide)) (fun i hi => ?_)
  unfold mixN
  simp only [Nat.testBit_and, Nat.testBit_or]
  obtain ⟨j, rfl⟩ : ∃ j : Fin 64, j.val = i := ⟨⟨i, hi⟩, rfl⟩
  generalize s.testBit j.val = a
  clear hi hs s
  revert j a
  decide +kernel
theorem flt_fld (s : Nat) : fldN (mixN (s ||| 24576) s 6144) = fldN (s ||| 24576) := by
  refine ext64 (fld_lt _) (fld_lt _) (fun i hi => ?_)
  unfold fldN mixN
  simp only [Nat.testBit_and, Nat.testBit_or]
  obtain ⟨j, rfl⟩ : ∃ j : Fin 64, j.val = i := ⟨⟨i, hi⟩, rfl⟩
  generalize s.testBit j.val = a
  clear hi s
  revert j a
  decide +kernel
theorem sup_fld (s v : Nat) : fldN (mixN (mixN s v 811298) s 6144) = fldN (mixN s v 811298) := by
  refine ext64 (fld_lt _) (fld_lt _) (fun i hi => ?_)
  unfold fldN mixN
  simp only [Nat.testBit_and, Nat.testBit_or]
  obtain ⟨j, rfl⟩ : ∃ j : Fin 64, j.val = i := ⟨⟨i, hi⟩, rfl⟩
  generalize s.testBit j.val = a
  generalize v.testBit j.val = b
  clear hi s v
  revert j a b
  decide +kernel
theorem stB_of {s u : Nat} (h : fldN (mixN u s 6144) = fldN u) : stB s u = stlN u := by
  unfold stB
  cases u &&& 6144 == 4096
  · rfl
  · exact stl_congr h
theorem flt_stat (s : Nat) (hs : s < 18446744073709551616) : stB s (mixN s (s ||| 24576) 811298) = stlN (s ||| 24576) := by
  rw [flt_mix s hs]; exact stB_of (flt_fld s)
theorem sup_stat (s v : Nat) : stB s (mixN s v 811298) = stlN (mixN s v 811298) := stB_of (sup_fld s v)
theorem mip_mix (s v d : Nat) (hs : s < 18446744073709551616) (hv : v < 18446744073709551616) (hd : d < 18446744073709551616) : mixN s (mixN s v (d &&& 2)) 546 = mixN s v (2 &&& d) := by
  refine ext64 (mix_lt _ _ _ hs (mix_lt _ _ _ hs hv)) (mix_lt _ _ _ hs hv) (fun i hi => ?_)
  unfold mixN
  simp only [Nat.testBit_and, Nat.testBit_or]
  rw [not_bit (d &&& 2) i (and_lt _ _ hd) hi, not_bit (2 &&& d) i (and_lt2 _ _ hd) hi]
  simp only [Nat.testBit_and]
  obtain ⟨j, rfl⟩ : ∃ j : Fin 64, j.val = i := ⟨⟨i, hi⟩, rfl⟩
  generalize s.testBit j.val = a
  generalize v.testBit j.val = b
  generalize d.testBit j.val = c
  clear hi hs hv hd s v d
  revert j a b c
  decide +kernel
theorem lfM_lt (n : Int) : lfM n < 18446744073709551616 := by
  by_cases h0 : n = 261
  · subst h0; decide
  by_cases h1 : n = 773
  · subst h1; decide
  by_cases h2 : n = 321
  · subst h2; decide
  by_cases h3 : n = 833
  · subst h3; decide
  by_cases h4 : n = 262
  · subst h4; decide
  by_cases h5 : n = 774
  · subst h5; decide
  by_cases h6 : n = 800
  · subst h6; decide
  by_cases h7 : n = 770
  · subst h7; decide
  by_cases h8 : n = 771
  · subst h8; decide
  unfold lfM; rw [if_neg h0, if_neg h1, if_neg h2, if_neg h3, if_neg h4, if_neg h5, if_neg h6, if_neg h7, if_neg h8]; decide
set_option maxRecDepth 100000 in
theorem w_768 (S : Nat → Nat) (v : Nat) (hS : Hid (OkS S)) (hv : Hid (v < 18446744073709551616)) (w : World) : Calls Try.prog 18 #[.agg (cs S), .int .i64 768, .int .u64 v] w (RetS (wrF S 768 v) w) := by
  have HO := Lib.hid (fun u => readOnly_c 768 u)
  rw [show fixB 768 = false by decide] at HO
  have HW : Hid (wrF S 768 v = setN S 0 (stB (S 0) v)) := rfl
  have g0 : (cs S)[0]? = some (.int .u64 (S 0 : Nat)) := rfl
  have HT := Lib.hid (fun u => status_c (S 0) v (hS.out.u 0 (by decide)) hv u)
  obtain ⟨x, hx⟩ : ∃ x, stB (S 0) v = x := ⟨_, rfl⟩
  rw [hx] at HT HW
  have gs := cs_set S 0 x (by unfold isU; decide)
  obtain ⟨T, hT⟩ : ∃ T, setN S 0 x = T := ⟨_, rfl⟩
  rw [hT] at gs HW
  clear hx hS hv hT
  obtain ⟨R1, R2⟩ := two_rows w T Z38
  replace R1 := Lib.hid R1; replace R2 := Lib.hid R2
  have hB : Hid (Below w.heap.size w ((w.alloc (Obj.cells (cs T) 26)).alloc (Obj.cells (cs Z38) 26))) := by show Below _ _ _; exact (by repeat (first | (with_reducible first | exact Below.refl _ _ | assumption | exact Nat.le_refl _ | refine Below.drew ?_ | refine Below.alloc ?_ ?_ _ | refine Below.setCell ?_ ?_ _ | refine le_alloc ?_ | refine le_set ?_ | refine le_drew ?_ | refine below_step (by assumption) ?_ ?_ | refine le_below (by assumption) ?_) | (dsimp only; omega)))
  go_enter Try.func18, Try.ntmps18
  go_wp2_with fail
  refine (HO.out _).mono ?_; rintro e w1 ⟨rfl, h⟩; replace h := h.symm; subst h
  go_wp2_with fail
  refine (HT.out _).mono ?_; rintro e w1 ⟨rfl, h⟩; replace h := h.symm; subst h
  go_wp2_with (first
    | (refine wpList_load_row rfl 26 _ rfl w.heap.size rfl 26 (cs T) (0, 0) _ R1.out Try.underlying26 rfl (infoS _) ?_)
    | (refine wpList_store_row rfl 26 _ _ rfl (w.heap.size + 1) (cs T) rfl rfl 26 (cs Z38) R2.out (infoS _) rfl (oneS _) ?_))
  refine bodyPost_ret (results_cell_row rfl _ _ (w.heap.size + 1) 26 (cs T) (0, 0) _ rfl (R2.out.setRow _) Try.underlying26 rfl (infoS _)) rfl ?_
  exact ⟨by rw [HW.out], below_setRow hB.out (by omega) _⟩
set_option maxRecDepth 100000 in
theorem w_256 (S : Nat → Nat) (v : Nat) (hS : Hid (OkS S)) (hv : Hid (v < 18446744073709551616)) (w : World) : Calls Try.prog 18 #[.agg (cs S), .int .i64 256, .int .u64 v] w (RetS (wrF S 256 v) w) := by
  have HO := Lib.hid (fun u => readOnly_c 256 u)
  rw [show fixB 256 = false by decide] at HO
  have HW : Hid (wrF S 256 v = setN S 0 (stlN (mixN (S 0) v 811298))) := rfl
  have g0 : (cs S)[0]? = some (.int .u64 (S 0 : Nat)) := rfl
  have HM := Lib.hid (fun u => mix_c (S 0) v 811298 (hS.out.u 0 (by decide)) hv (by show _ < _; decide) u)
  have HT := Lib.hid (fun u => status_c (S 0) (mixN (S 0) v 811298) (hS.out.u 0 (by decide)) (mix_lt _ _ _ (hS.out.u 0 (by decide)) hv.out) u)
  rw [sup_stat] at HT
  obtain ⟨x, hx⟩ : ∃ x, stlN (mixN (S 0) v 811298) = x := ⟨_, rfl⟩
  rw [hx] at HT HW
  obtain ⟨m, hm⟩ : ∃ m, mixN (S 0) v 811298 = m := ⟨_, rfl⟩
  rw [hm] at HM HT
  have gs := cs_set S 0 x (by unfold isU; decide)
  obtain ⟨T, hT⟩ : ∃ T, setN S 0 x = T := ⟨_, rfl⟩
  rw [hT] at gs HW
  clear hm hx hS hv hT
  obtain ⟨R1, R2⟩ := two_rows w T Z38
  replace R1 := Lib.hid R1; replace R2 := Lib.hid R2
  have hB : Hid (Below w.heap.size w ((w.alloc (Obj.cells (cs T) 26)).alloc (Obj.cells (cs Z38) 26))) := by show Below _ _ _; exact (by repeat (first | (with_reducible first | exact Below.refl _ _ | assumption | exact Nat.le_refl _ | refine Below.drew ?_ | refine Below.alloc ?_ ?_ _ | refine Below.setCell ?_ ?_ _ | refine le_alloc ?_ | refine le_set ?_ | refine le_drew ?_ | refine below_step (by assumption) ?_ ?_ | refine le_below (by assumption) ?_) | (dsimp only; omega)))
  go_enter Try.func18, Try.ntmps18
  go_wp2_with fail
  refine (HO.out _).mono ?_; rintro e w1 ⟨rfl, h⟩; replace h := h.symm; subst h
  go_wp2_with fail
  refine (HM.out _).mono ?_; rintro e w1 ⟨rfl, h⟩; replace h := h.symm; subst h
  go_wp2_with fail
  refine (HT.out _).mono ?_; rintro e w1 ⟨rfl, h⟩; replace h := h.symm; subst h
  go_wp2_with (first
    | (refine wpList_load_row rfl 26 _ rfl w.heap.size rfl 26 (cs T) (0, 0) _ R1.out Try.underlying26 rfl (infoS _) ?_)
    | (refine wpList_store_row rfl 26 _ _ rfl (w.heap.size + 1) (cs T) rfl rfl 26 (cs Z38) R2.out (infoS _) rfl (oneS _) ?_))
  refine bodyPost_ret (results_cell_row rfl _ _ (w.heap.size + 1) 26 (cs T) (0, 0) _ rfl (R2.out.setRow _) Try.underlying26 rfl (infoS _)) rfl ?_
  exact ⟨by rw [HW.out], below_setRow hB.out (by omega) _⟩
set_option maxRecDepth 100000 in
theorem w_260 (S : Nat → Nat) (v : Nat) (hS : Hid (OkS S)) (hv : Hid (v < 18446744073709551616)) (w : World) : Calls Try.prog 18 #[.agg (cs S), .int .i64 260, .int .u64 v] w (RetS (wrF S 260 v) w) := by
  have HO := Lib.hid (fun u => readOnly_c 260 u)
  rw [show fixB 260 = false by decide] at HO
  have HW : Hid (wrF S 260 v = setN S 4 (mixN (S 4) v (S 3))) := rfl
  have g4 : (cs S)[4]? = some (.int .u64 (S 4 : Nat)) := rfl
  have g3 : (cs S)[3]? = some (.int .u64 (S 3 : Nat)) := rfl
  have HM := Lib.hid (fun u => mix_c (S 4) v (S 3) (hS.out.u 4 (by decide)) hv (hS.out.u 3 (by decide)) u)
  obtain ⟨x, hx⟩ : ∃ x, mixN (S 4) v (S 3) = x := ⟨_, rfl⟩
  rw [hx] at HM HW
  have gs := cs_set S 4 x (by unfold isU; decide)
  obtain ⟨T, hT⟩ : ∃ T, setN S 4 x = T := ⟨_, rfl⟩
  rw [hT] at gs HW
  clear hx hS hv hT
  obtain ⟨R1, R2⟩ := two_rows w T Z38
  replace R1 := Lib.hid R1; replace R2 := Lib.hid R2
  have hB : Hid (Below w.heap.size w ((w.alloc (Obj.cells (cs T) 26)).alloc (Obj.cells (cs Z38) 26))) := by show Below _ _ _; exact (by repeat (first | (with_reducible first | exact Below.refl _ _ | assumption | exact Nat.le_refl _ | refine Below.drew ?_ | refine Below.alloc ?_ ?_ _ | refine Below.setCell ?_ ?_ _ | refine le_alloc ?_ | refine le_set ?_ | refine le_drew ?_ | refine below_step (by assumption) ?_ ?_ | refine le_below (by assumption) ?_) | (dsimp only; omega)))
  go_enter Try.func18, Try.ntmps18
  go_wp2_with fail
  refine (HO.out _).mono ?_; rintro e w1 ⟨rfl, h⟩; replace h := h.symm; subst h
  go_wp2_with fail
  refine (HM.out _).mono ?_; rintro e w1 ⟨rfl, h⟩; replace h := h.symm; subst h
  go_wp2_with (first
    | (refine wpList_load_row rfl 26 _ rfl w.heap.size rfl 26 (cs T) (0, 0) _ R1.out Try.underlying26 rfl (infoS _) ?_)
    | (refine wpList_store_row rfl 26 _ _ rfl (w.heap.size + 1) (cs T) rfl rfl 26 (cs Z38) R2.out (infoS _) rfl (oneS _) ?_))
  refine bodyPost_ret (results_cell_row rfl _ _ (w.heap.size + 1) 26 (cs T) (0, 0) _ rfl (R2.out.setRow _) Try.underlying26 rfl (infoS _)) rfl ?_
  exact ⟨by rw [HW.out], below_setRow hB.out (by omega) _⟩
set_option maxRecDepth 100000 in
theorem w_772 (S : Nat → Nat) (v : Nat) (hS : Hid (OkS S)) (hv : Hid (v < 18446744073709551616)) (w : World) : Calls Try.prog 18 #[.agg (cs S), .int .i64 772, .int .u64 v] w (RetS (wrF S 772 v) w) := by
  have HO := Lib.hid (fun u => readOnly_c 772 u)
  rw [show fixB 772 = false by decide] at HO
  have HW : Hid (wrF S 772 v = setN S 4 (v &&& 2730)) := rfl
  have a1 : bits .and .u64 (v : Int) 2730 = ((v &&& 2730 : Nat) : Int) := u_and v 2730 hv.out (by decide)
  obtain ⟨x, hx⟩ : ∃ x, v &&& 2730 = x := ⟨_, rfl⟩
  rw [hx] at a1 HW
  have gs := cs_set S 4 x (by unfold isU; decide)
  obtain ⟨T, hT⟩ : ∃ T, setN S 4 x = T := ⟨_, rfl⟩
  rw [hT] at gs HW
  clear hx hS hv hT
  obtain ⟨R1, R2⟩ := two_rows w T Z38
  replace R1 := Lib.hid R1; replace R2 := Lib.hid R2
  have hB : Hid (Below w.heap.size w ((w.alloc (Obj.cells (cs T) 26)).alloc (Obj.cells (cs Z38) 26))) := by show Below _ _ _; exact (by repeat (first | (with_reducible first | exact Below.refl _ _ | assumption | exact Nat.le_refl _ | refine Below.drew ?_ | refine Below.alloc ?_ ?_ _ | refine Below.setCell ?_ ?_ _ | refine le_alloc ?_ | refine le_set ?_ | refine le_drew ?_ | refine below_step (by assumption) ?_ ?_ | refine le_below (by assumption) ?_) | (dsimp only; omega)))
  go_enter Try.func18, Try.ntmps18
  go_wp2_with fail
  refine (HO.out _).mono ?_; rintro e w1 ⟨rfl, h⟩; replace h := h.symm; subst h
  go_wp2_with (first
    | (refine wpList_load_row rfl 26 _ rfl w.heap.size rfl 26 (cs T) (0, 0) _ R1.out Try.underlying26 rfl (infoS _) ?_)
    | (refine wpList_store_row rfl 26 _ _ rfl (w.heap.size + 1) (cs T) rfl rfl 26 (cs Z38) R2.out (infoS _) rfl (oneS _) ?_))
  refine bodyPost_ret (results_cell_row rfl _ _ (w.heap.size + 1) 26 (cs T) (0, 0) _ rfl (R2.out.setRow _) Try.underlying26 rfl (infoS _)) rfl ?_
  exact ⟨by rw [HW.out], below_setRow hB.out (by omega) _⟩
set_option maxRecDepth 100000 in
theorem w_324 (S : Nat → Nat) (v : Nat) (hS : Hid (OkS S)) (hv : Hid (v < 18446744073709551616)) (w : World) : Calls Try.prog 18 #[.agg (cs S), .int .i64 324, .int .u64 v] w (RetS (wrF S 324 v) w) := by
  have HO := Lib.hid (fun u => readOnly_c 324 u)
  rw [show fixB 324 = false by decide] at HO
  have HW : Hid (wrF S 324 v = setN S 5 (mixN (S 5) v (2 &&& S 3))) := rfl
  have g5 : (cs S)[5]? = some (.int .u64 (S 5 : Nat)) := rfl
  have g3 : (cs S)[3]? = some (.int .u64 (S 3 : Nat)) := rfl
  have a1 : bits .and .u64 (S 3 : Int) 2 = ((S 3 &&& 2 : Nat) : Int) := u_and (S 3) 2 (hS.out.u 3 (by decide)) (by decide)
  have HM := Lib.hid (fun u => mix_c (S 5) v (S 3 &&& 2) (hS.out.u 5 (by decide)) hv (and_lt _ _ (hS.out.u 3 (by decide))) u)
  have HN := Lib.hid (fun u => mix_c (S 5) (mixN (S 5) v (S 3 &&& 2)) 546 (hS.out.u 5 (by decide)) (mix_lt _ _ _ (hS.out.u 5 (by decide)) hv.out) (by show _ < _; decide) u)
  rw [mip_mix (S 5) v (S 3) (hS.out.u 5 (by decide)) hv.out (hS.out.u 3 (by decide))] at HN
  obtain ⟨q, hq⟩ : ∃ q, S 3 &&& 2 = q := ⟨_, rfl⟩
  rw [hq] at a1 HM HN
  obtain ⟨m, hm⟩ : ∃ m, mixN (S 5) v q = m := ⟨_, rfl⟩
  rw [hm] at HM HN
  clear hq hm
  obtain ⟨x, hx⟩ : ∃ x, mixN (S 5) v (2 &&& S 3) = x := ⟨_, rfl⟩
  rw [hx] at HN HW
  have gs := cs_set S 5 x (by unfold isU; decide)
  obtain ⟨T, hT⟩ : ∃ T, setN S 5 x = T := ⟨_, rfl⟩
  rw [hT] at gs HW
  clear hx hS hv hT
  obtain ⟨R1, R2⟩ := two_rows w T Z38
  replace R1 := Lib.hid R1; replace R2 := Lib.hid R2
  have hB : Hid (Below w.heap.size w ((w.alloc (Obj.cells (cs T) 26)).alloc (Obj.cells (cs Z38) 26))) := by show Below _ _ _; exact (by repeat (first | (with_reducible first | exact Below.refl _ _ | assumption | exact Nat.le_refl _ | refine Below.drew ?_ | refine Below.alloc ?_ ?_ _ | refine Below.setCell ?_ ?_ _ | refine le_alloc ?_ | refine le_set ?_ | refine le_drew ?_ | refine below_step (by assumption) ?_ ?_ | refine le_below (by assumption) ?_) | (dsimp only; omega)))
  go_enter Try.func18, Try.ntmps18
  go_wp2_with fail
  refine (HO.out _).mono ?_; rintro e w1 ⟨rfl, h⟩; replace h := h.symm; subst h
  go_wp2_with fail
  refine (HM.out _).mono ?_; rintro e w1 ⟨rfl, h⟩; replace h := h.symm; subst h
  go_wp2_with fail
  refine (HN.out _).mono ?_; rintro e w1 ⟨rfl, h⟩; replace h := h.symm; subst h
  go_wp2_with (first
    | (refine wpList_load_row rfl 26 _ rfl w.heap.size rfl 26 (cs T) (0, 0) _ R1.out Try.underlying26 rfl (infoS _) ?_)
    | (refine wpList_store_row rfl 26 _ _ rfl (w.heap.size + 1) (cs T) rfl rfl 26 (cs Z38) R2.out (infoS _) rfl (oneS _) ?_))
  refine bodyPost_ret (results_cell_row rfl _ _ (w.heap.size + 1) 26 (cs T) (0, 0) _ rfl (R2.out.setRow _) Try.underlying26 rfl (infoS _)) rfl ?_
  exact ⟨by rw [HW.out], below_setRow hB.out (by omega) _⟩
set_option maxRecDepth 100000 in
theorem w_836 (S : Nat → Nat) (v : Nat) (hS : Hid (OkS S)) (hv : Hid (v < 18446744073709551616)) (w : World) : Calls Try.prog 18 #[.agg (cs S), .int .i64 836, .int .u64 v] w (RetS (wrF S 836 v) w) := by
  have HO := Lib.hid (fun u => readOnly_c 836 u)
  rw [show fixB 836 = false by decide] at HO
  have HW : Hid (wrF S 836 v = setN S 5 (mixN (S 5) v 546)) := rfl
  have g5 : (cs S)[5]? = some (.int .u64 (S 5 : Nat)) := rfl
  have HM := Lib.hid (fun u => mix_c (S 5) v 546 (hS.out.u 5 (by decide)) hv (by show _ < _; decide) u)
  obtain ⟨x, hx⟩ : ∃ x, mixN (S 5) v 546 = x := ⟨_, rfl⟩
  rw [hx] at HM HW
  have gs := cs_set S 5 x (by unfold isU; decide)
  obtain ⟨T, hT⟩ : ∃ T, setN S 5 x = T := ⟨_, rfl⟩
  rw [hT] at gs HW
  clear hx hS hv hT
  obtain ⟨R1, R2⟩ := two_rows w T Z38
  replace R1 := Lib.hid R1; replace R2 := Lib.hid R2
  have hB : Hid (Below w.heap.size w ((w.alloc (Obj.cells (cs T) 26)).alloc (Obj.cells (cs Z38) 26))) := by show Below _ _ _; exact (by repeat (first | (with_reducible first | exact Below.refl _ _ | assumption | exact Nat.le_refl _ | refine Below.drew ?_ | refine Below.alloc ?_ ?_ _ | refine Below.setCell ?_ ?_ _ | refine le_alloc ?_ | refine le_set ?_ | refine le_drew ?_ | refine below_step (by assumption) ?_ ?_ | refine le_below (by assumption) ?_) | (dsimp only; omega)))
  go_enter Try.func18, Try.ntmps18
  go_wp2_with fail
  refine (HO.out _).mono ?_; rintro e w1 ⟨rfl, h⟩; replace h := h.symm; subst h
  go_wp2_with fail
  refine (HM.out _).mono ?_; rintro e w1 ⟨rfl, h⟩; replace h := h.symm; subst h
  go_wp2_with (first
    | (refine wpList_load_row rfl 26 _ rfl w.heap.size rfl 26 (cs T) (0, 0) _ R1.out Try.underlying26 rfl (infoS _) ?_)
    | (refine wpList_store_row rfl 26 _ _ rfl (w.heap.size + 1) (cs T) rfl rfl 26 (cs Z38) R2.out (infoS _) rfl (oneS _) ?_))
  refine bodyPost_ret (results_cell_row rfl _ _ (w.heap.size + 1) 26 (cs T) (0, 0) _ rfl (R2.out.setRow _) Try.underlying26 rfl (infoS _)) rfl ?_
  exact ⟨by rw [HW.out], below_setRow hB.out (by omega) _⟩
set_option maxRecDepth 100000 in
theorem w_1 (S : Nat → Nat) (v : Nat) (hS : Hid (OkS S)) (hv : Hid (v < 18446744073709551616)) (w : World) : Calls Try.prog 18 #[.agg (cs S), .int .i64 1, .int .u64 v] w (RetS (wrF S 1 v) w) := by
  have HO := Lib.hid (fun u => readOnly_c 1 u)
  rw [show fixB 1 = false by decide] at HO
  have HW : Hid (wrF S 1 v = setN (setN S 21 (mixN (S 21) v 31)) 0 (stlN (S 0 ||| 24576))) := rfl
  have g21 : (cs S)[21]? = some (.int .u64 (S 21 : Nat)) := rfl
  have g0 : (cs S)[0]? = some (.int .u64 (S 0 : Nat)) := rfl
  have HL := Lib.hid (fun u => floats_1 (S 21) v (hS.out.u 21 (by decide)) hv u)
  have o1 : bits .or .u64 (S 0 : Int) 24576 = ((S 0 ||| 24576 : Nat) : Int) := u_or (S 0) 24576 (hS.out.u 0 (by decide)) (by decide)
  have ol : S 0 ||| 24576 < 18446744073709551616 := or_lt (hS.out.u 0 (by decide)) (by decide)
  have HM := Lib.hid (fun u => mix_c (S 0) (S 0 ||| 24576) 811298 (hS.out.u 0 (by decide)) ol (by show _ < _; decide) u)
  have HT := Lib.hid (fun u => status_c (S 0) (mixN (S 0) (S 0 ||| 24576) 811298) (hS.out.u 0 (by decide)) (mix_lt _ _ _ (hS.out.u 0 (by decide)) ol) u)
  rw [flt_stat (S 0) (hS.out.u 0 (by decide))] at HT
  have ex : flN (S 21) 1 v = mixN (S 21) v 31 := rfl
  rw [ex] at HL
  obtain ⟨x, hx⟩ : ∃ x, mixN (S 21) v 31 = x := ⟨_, rfl⟩
  rw [hx] at HL HW
  obtain ⟨y, hy⟩ : ∃ y, stlN (S 0 ||| 24576) = y := ⟨_, rfl⟩
  rw [hy] at HT HW
  obtain ⟨m, hm⟩ : ∃ m, mixN (S 0) (S 0 ||| 24576) 811298 = m := ⟨_, rfl⟩
  rw [hm] at HM HT
  obtain ⟨q, hq⟩ : ∃ q, S 0 ||| 24576 = q := ⟨_, rfl⟩
  rw [hq] at HM o1
  have gs := cs_set S 21 x (by unfold isU; decide)
  have gt := cs_set (setN S 21 x) 0 y (by unfold isU; decide)
  have g9 : (cs (setN S 21 x))[0]? = some (.int .u64 (S 0 : Nat)) := rfl
  obtain ⟨T1, hT1⟩ : ∃ T1, setN S 21 x = T1 := ⟨_, rfl⟩
  rw [hT1] at gs gt g9 HW
  obtain ⟨T, hT⟩ : ∃ T, setN T1 0 y = T := ⟨_, rfl⟩
  rw [hT] at gt HW
  clear hx hS hv hT hT1 hy hm hq ol ex
  obtain ⟨R1, R2⟩ := two_rows w T Z38
  replace R1 := Lib.hid R1; replace R2 := Lib.hid R2
  have hB : Hid (Below w.heap.size w ((w.alloc (Obj.cells (cs T) 26)).alloc (Obj.cells (cs Z38) 26))) := by show Below _ _ _; exact (by repeat (first | (with_reducible first | exact Below.refl _ _ | assumption | exact Nat.le_refl _ | refine Below.drew ?_ | refine Below.alloc ?_ ?_ _ | refine Below.setCell ?_ ?_ _ | refine le_alloc ?_ | refine le_set ?_ | refine le_drew ?_ | refine below_step (by assumption) ?_ ?_ | refine le_below (by assumption) ?_) | (dsimp only; omega)))
  go_enter Try.func18, Try.ntmps18
  go_wp2_with fail
  refine (HO.out _).mono ?_; rintro e w1 ⟨rfl, h⟩; replace h := h.symm; subst h
  go_wp2_with fail
  refine (HL.out _).mono ?_; rintro e w1 ⟨rfl, h⟩; replace h := h.symm; subst h
  go_wp2_with fail
  refine (HM.out _).mono ?_; rintro e w1 ⟨rfl, h⟩; replace h := h.symm; subst h
  go_wp2_with fail
  refine (HT.out _).mono ?_; rintro e w1 ⟨rfl, h⟩; replace h := h.symm; subst h
  go_wp2_with (first
    | (refine wpList_load_row rfl 26 _ rfl w.heap.size rfl 26 (cs T) (0, 0) _ R1.out Try.underlying26 rfl (infoS _) ?_)
    | (refine wpList_store_row rfl 26 _ _ rfl (w.heap.size + 1) (cs T) rfl rfl 26 (cs Z38) R2.out (infoS _) rfl (oneS _) ?_))
  refine bodyPost_ret (results_cell_row rfl _ _ (w.heap.size + 1) 26 (cs T) (0, 0) _ rfl (R2.out.setRow _) Try.underlying26 rfl (infoS _)) rfl ?_
  exact ⟨by rw [HW.out], below_setRow hB.out (by omega) _⟩
set_option maxRecDepth 100000 in
theorem w_2 (S : Nat → Nat) (v : Nat) (hS : Hid (OkS S)) (hv : Hid (v < 18446744073709551616)) (w : World) : Calls Try.prog 18 #[.agg (cs S), .int .i64 2, .int .u64 v] w (RetS (wrF S 2 v) w) := by
  have HO := Lib.hid (fun u => readOnly_c 2 u)
  rw [show fixB 2 = false by decide] at HO
  have HW : Hid (wrF S 2 v = setN (setN S 21 (mixN (S 21) (v * 32 % 18446744073709551616) 224)) 0 (stlN (S 0 ||| 24576))) := rfl
  have g21 : (cs S)[21]? = some (.int .u64 (S 21 : Nat)) := rfl
  have g0 : (cs S)[0]? = some (.int .u64 (S 0 : Nat)) := rfl
  have HL := Lib.hid (fun u => floats_2 (S 21) v (hS.out.u 21 (by decide)) hv u)
  have o1 : bits .or .u64 (S 0 : Int) 24576 = ((S 0 ||| 24576 : Nat) : Int) := u_or (S 0) 24576 (hS.out.u 0 (by decide)) (by decide)
  have ol : S 0 ||| 24576 < 18446744073709551616 := or_lt (hS.out.u 0 (by decide)) (by decide)
  have HM := Lib.hid (fun u => mix_c (S 0) (S 0 ||| 24576) 811298 (hS.out.u 0 (by decide)) ol (by show _ < _; decide) u)
  have HT := Lib.hid (fun u => status_c (S 0) (mixN (S 0) (S 0 ||| 24576) 811298) (hS.out.u 0 (by decide)) (mix_lt _ _ _ (hS.out.u 0 (by decide)) ol) u)
  rw [flt_stat (S 0) (hS.out.u 0 (by decide))] at HT
  have ex : flN (S 21) 2 v = mixN (S 21) (v * 32 % 18446744073709551616) 224 := rfl
  rw [ex] at HL
  obtain ⟨x, hx⟩ : ∃ x, mixN (S 21) (v * 32 % 18446744073709551616) 224 = x := ⟨_, rfl⟩
  rw [hx] at HL HW
  obtain ⟨y, hy⟩ : ∃ y, stlN (S 0 ||| 24576) = y := ⟨_, rfl⟩
  rw [hy] at HT HW
  obtain ⟨m, hm⟩ : ∃ m, mixN (S 0) (S 0 ||| 24576) 811298 = m := ⟨_, rfl⟩
  rw [hm] at HM HT
  obtain ⟨q, hq⟩ : ∃ q, S 0 ||| 24576 = q := ⟨_, rfl⟩
  rw [hq] at HM o1
  have gs := cs_set S 21 x (by unfold isU; decide)
  have gt := cs_set (setN S 21 x) 0 y (by unfold isU; decide)
  have g9 : (cs (setN S 21 x))[0]? = some (.int .u64 (S 0 : Nat)) := rfl
  obtain ⟨T1, hT1⟩ : ∃ T1, setN S 21 x = T1 := ⟨_, rfl⟩
  rw [hT1] at gs gt g9 HW
  obtain ⟨T, hT⟩ : ∃ T, setN T1 0 y = T := ⟨_, rfl⟩
  rw [hT] at gt HW
  clear hx hS hv hT hT1 hy hm hq ol ex
  obtain ⟨R1, R2⟩ := two_rows w T Z38
  replace R1 := Lib.hid R1; replace R2 := Lib.hid R2
  have hB : Hid (Below w.heap.size w ((w.alloc (Obj.cells (cs T) 26)).alloc (Obj.cells (cs Z38) 26))) := by show Below _ _ _; exact (by repeat (first | (with_reducible first | exact Below.refl _ _ | assumption | exact Nat.le_refl _ | refine Below.drew ?_ | refine Below.alloc ?_ ?_ _ | refine Below.setCell ?_ ?_ _ | refine le_alloc ?_ | refine le_set ?_ | refine le_drew ?_ | refine below_step (by assumption) ?_ ?_ | refine le_below (by assumption) ?_) | (dsimp only; omega)))
  go_enter Try.func18, Try.ntmps18
  go_wp2_with fail
  refine (HO.out _).mono ?_; rintro e w1 ⟨rfl, h⟩; replace h := h.symm; subst h
  go_wp2_with fail
  refine (HL.out _).mono ?_; rintro e w1 ⟨rfl, h⟩; replace h := h.symm; subst h
  go_wp2_with fail
  refine (HM.out _).mono ?_; rintro e w1 ⟨rfl, h⟩; replace h := h.symm; subst h
  go_wp2_with fail
  refine (HT.out _).mono ?_; rintro e w1 ⟨rfl, h⟩; replace h := h.symm; subst h
  go_wp2_with (first
    | (refine wpList_load_row rfl 26 _ rfl w.heap.size rfl 26 (cs T) (0, 0) _ R1.out Try.underlying26 rfl (infoS _) ?_)
    | (refine wpList_store_row rfl 26 _ _ rfl (w.heap.size + 1) (cs T) rfl rfl 26 (cs Z38) R2.out (infoS _) rfl (oneS _) ?_))
  refine bodyPost_ret (results_cell_row rfl _ _ (w.heap.size + 1) 26 (cs T) (0, 0) _ rfl (R2.out.setRow _) Try.underlying26 rfl (infoS _)) rfl ?_
  exact ⟨by rw [HW.out], below_setRow hB.out (by omega) _⟩
set_option maxRecDepth 100000 in
theorem w_3 (S : Nat → Nat) (v : Nat) (hS : Hid (OkS S)) (hv : Hid (v < 18446744073709551616)) (w : World) : Calls Try.prog 18 #[.agg (cs S), .int .i64 3, .int .u64 v] w (RetS (wrF S 3 v) w) := by
  have HO := Lib.hid (fun u => readOnly_c 3 u)
  rw [show fixB 3 = false by decide] at HO
  have HW : Hid (wrF S 3 v = setN (setN S 21 (v &&& 255)) 0 (stlN (S 0 ||| 24576))) := rfl
  have g21 : (cs S)[21]? = some (.int .u64 (S 21 : Nat)) := rfl
  have g0 : (cs S)[0]? = some (.int .u64 (S 0 : Nat)) := rfl
  have HL := Lib.hid (fun u => floats_3 (S 21) v (hS.out.u 21 (by decide)) hv u)
  have o1 : bits .or .u64 (S 0 : Int) 24576 = ((S 0 ||| 24576 : Nat) : Int) := u_or (S 0) 24576 (hS.out.u 0 (by decide)) (by decide)
  have ol : S 0 ||| 24576 < 18446744073709551616 := or_lt (hS.out.u 0 (by decide)) (by decide)
  have HM := Lib.hid (fun u => mix_c (S 0) (S 0 ||| 24576) 811298 (hS.out.u 0 (by decide)) ol (by show _ < _; decide) u)
  have HT := Lib.hid (fun u => status_c (S 0) (mixN (S 0) (S 0 ||| 24576) 811298) (hS.out.u 0 (by decide)) (mix_lt _ _ _ (hS.out.u 0 (by decide)) ol) u)
  rw [flt_stat (S 0) (hS.out.u 0 (by decide))] at HT
  have ex : flN (S 21) 3 v = v &&& 255 := rfl
  rw [ex] at HL
  obtain ⟨x, hx⟩ : ∃ x, v &&& 255 = x := ⟨_, rfl⟩
  rw [hx] at HL HW
  obtain ⟨y, hy⟩ : ∃ y, stlN (S 0 ||| 24576) = y := ⟨_, rfl⟩
  rw [hy] at HT HW
  obtain ⟨m, hm⟩ : ∃ m, mixN (S 0) (S 0 ||| 24576) 811298 = m := ⟨_, rfl⟩
  rw [hm] at HM HT
  obtain ⟨q, hq⟩ : ∃ q, S 0 ||| 24576 = q := ⟨_, rfl⟩
  rw [hq] at HM o1
  have gs := cs_set S 21 x (by unfold isU; decide)
  have gt := cs_set (setN S 21 x) 0 y (by unfold isU; decide)
  have g9 : (cs (setN S 21 x))[0]? = some (.int .u64 (S 0 : Nat)) := rfl
  obtain ⟨T1, hT1⟩ : ∃ T1, setN S 21 x = T1 := ⟨_, rfl⟩
  rw [hT1] at gs gt g9 HW
  obtain ⟨T, hT⟩ : ∃ T, setN T1 0 y = T := ⟨_, rfl⟩
  rw [hT] at gt HW
  clear hx hS hv hT hT1 hy hm hq ol ex
  obtain ⟨R1, R2⟩ := two_rows w T Z38
  replace R1 := Lib.hid R1; replace R2 := Lib.hid R2
  have hB : Hid (Below w.heap.size w ((w.alloc (Obj.cells (cs T) 26)).alloc (Obj.cells (cs Z38) 26))) := by show Below _ _ _; exact (by repeat (first | (with_reducible first | exact Below.refl _ _ | assumption | exact Nat.le_refl _ | refine Below.drew ?_ | refine Below.alloc ?_ ?_ _ | refine Below.setCell ?_ ?_ _ | refine le_alloc ?_ | refine le_set ?_ | refine le_drew ?_ | refine below_step (by assumption) ?_ ?_ | refine le_below (by assumption) ?_) | (dsimp only; omega)))
  go_enter Try.func18, Try.ntmps18
  go_wp2_with fail
  refine (HO.out _).mono ?_; rintro e w1 ⟨rfl, h⟩; replace h := h.symm; subst h
  go_wp2_with fail
  refine (HL.out _).mono ?_; rintro e w1 ⟨rfl, h⟩; replace h := h.symm; subst h
  go_wp2_with fail
  refine (HM.out _).mono ?_; rintro e w1 ⟨rfl, h⟩; replace h := h.symm; subst h
  go_wp2_with fail
  refine (HT.out _).mono ?_; rintro e w1 ⟨rfl, h⟩; replace h := h.symm; subst h
  go_wp2_with (first
    | (refine wpList_load_row rfl 26 _ rfl w.heap.size rfl 26 (cs T) (0, 0) _ R1.out Try.underlying26 rfl (infoS _) ?_)
    | (refine wpList_store_row rfl 26 _ _ rfl (w.heap.size + 1) (cs T) rfl rfl 26 (cs Z38) R2.out (infoS _) rfl (oneS _) ?_))
  refine bodyPost_ret (results_cell_row rfl _ _ (w.heap.size + 1) 26 (cs T) (0, 0) _ rfl (R2.out.setRow _) Try.underlying26 rfl (infoS _)) rfl ?_
  exact ⟨by rw [HW.out], below_setRow hB.out (by omega) _⟩
set_option maxRecDepth 100000 in
theorem w_928 (S : Nat → Nat) (v : Nat) (hS : Hid (OkS S)) (hv : Hid (v < 18446744073709551616)) (w : World) : Calls Try.prog 18 #[.agg (cs S), .int .i64 928, .int .u64 v] w (RetS (wrF S 928 v) w) := by
  have HO := Lib.hid (fun u => readOnly_c 928 u)
  rw [show fixB 928 = false by decide] at HO
  have HC := Lib.hid (fun u => Config_c (cfO S) v hS.out.c hv u)
  have HW : Hid (wrF S 928 v = setC S (cfgF (cfO S) v)) := rfl
  obtain ⟨F, hF⟩ : ∃ F, cfgF (cfO S) v = F := ⟨_, rfl⟩
  rw [hF] at HC HW
  clear hF hS
  obtain ⟨R1, R2⟩ := two_rows w S Z38
  replace R1 := Lib.hid R1; replace R2 := Lib.hid R2
  have hB : Hid (Below w.heap.size w ((w.alloc (Obj.cells (cs S) 26)).alloc (Obj.cells (cs Z38) 26))) := by show Below _ _ _; exact (by repeat (first | (with_reducible first | exact Below.refl _ _ | assumption | exact Nat.le_refl _ | refine Below.drew ?_ | refine Below.alloc ?_ ?_ _ | refine Below.setCell ?_ ?_ _ | refine le_alloc ?_ | refine le_set ?_ | refine le_drew ?_ | refine below_step (by assumption) ?_ ?_ | refine le_below (by assumption) ?_) | (dsimp only; omega)))
  have hz : Hid (((w.alloc (Obj.cells (cs S) 26)).alloc (Obj.cells (cs Z38) 26)).heap.size = w.heap.size + 2) := by show _ = _; simp only [sz_alloc]
  have i0 : w.heap.size ≠ w.heap.size + 1 := by omega
  go_enter Try.func18, Try.ntmps18
  go_wp2_with fail
  refine (HO.out _).mono ?_; rintro e w1 ⟨rfl, h⟩; replace h := h.symm; subst h
  go_wp2_with (first | (refine wpList_load_at rfl 23 _ rfl w.heap.size 22 rfl (u8s (cfO S)) _ (cfg_cells R1.out) Try.underlying23 rfl (info8c _) ?_) | (refine wpList_load_at rfl 24 _ rfl w.heap.size 30 rfl (u64s (adO S)) _ (adr_cells R1.out) Try.underlying24 rfl (info8a _) ?_))
  refine (HC.out ((w.alloc (Obj.cells (cs S) 26)).alloc (Obj.cells (cs Z38) 26))).mono ?_; rintro e w1 ⟨rfl, hb⟩
  replace R1 := Lib.hid (R1.out.below hb (by rw [hz.out]; omega))
  replace R2 := Lib.hid (R2.out.below hb (by rw [hz.out]; omega))
  replace hB := Lib.hid (below_step hb hB.out hB.out.size)
  clear hb hz
  have RN := Lib.hid (R1.out.setRow (cs (setC S F)))
  have R2N := Lib.hid (R2.out.setRow_ne (b' := w.heap.size) i0 (cs (setC S F)))
  have HBN := Lib.hid (below_setRow hB.out (Nat.le_refl _) (cs (setC S F)))
  clear R2 hB
  go_wp2_with (first
    | (refine wpList_store_at rfl 23 _ _ rfl w.heap.size 22 (u8s F) rfl rfl 26 (cs S) (cs (setC S F)) R1.out (info8c F) (by show 30 ≤ 38; decide) (new_c S F) (one8c F) ?_)
    | (refine wpList_load_row rfl 26 _ rfl w.heap.size rfl 26 (cs (setC S F)) (0, 0) _ RN.out Try.underlying26 rfl (infoS _) ?_)
    | (refine wpList_store_row rfl 26 _ _ rfl (w.heap.size + 1) (cs (setC S F)) rfl rfl 26 (cs Z38) R2N.out (infoS _) rfl (oneS _) ?_))
  refine bodyPost_ret (results_cell_row rfl _ _ (w.heap.size + 1) 26 (cs (setC S F)) (0, 0) _ rfl (R2N.out.setRow _) Try.underlying26 rfl (infoS _)) rfl ?_
  exact ⟨by rw [HW.out], below_setRow HBN.out (by omega) _⟩
set_option maxRecDepth 100000 in
theorem w_944 (S : Nat → Nat) (v : Nat) (hS : Hid (OkS S)) (hv : Hid (v < 18446744073709551616)) (w : World) : Calls Try.prog 18 #[.agg (cs S), .int .i64 944, .int .u64 v] w (RetS (wrF S 944 v) w) := by
  have HO := Lib.hid (fun u => readOnly_c 944 u)
  rw [show fixB 944 = false by decide] at HO
  have HC := Lib.hid (fun u => Address_c (cfO S) (adO S) 0 v (by decide) hS.out.c hS.out.a hv u)
  have HW : Hid (wrF S 944 v = setA S (adrF (cfO S) (adO S) 0 v)) := rfl
  obtain ⟨F, hF⟩ : ∃ F, adrF (cfO S) (adO S) 0 v = F := ⟨_, rfl⟩
  rw [hF] at HC HW
  clear hF hS
  obtain ⟨R1, R2⟩ := two_rows w S Z38
  replace R1 := Lib.hid R1; replace R2 := Lib.hid R2
  have hB : Hid (Below w.heap.size w ((w.alloc (Obj.cells (cs S) 26)).alloc (Obj.cells (cs Z38) 26))) := by show Below _ _ _; exact (by repeat (first | (with_reducible first | exact Below.refl _ _ | assumption | exact Nat.le_refl _ | refine Below.drew ?_ | refine Below.alloc ?_ ?_ _ | refine Below.setCell ?_ ?_ _ | refine le_alloc ?_ | refine le_set ?_ | refine le_drew ?_ | refine below_step (by assumption) ?_ ?_ | refine le_below (by assumption) ?_) | (dsimp only; omega)))
  have hz : Hid (((w.alloc (Obj.cells (cs S) 26)).alloc (Obj.cells (cs Z38) 26)).heap.size = w.heap.size + 2) := by show _ = _; simp only [sz_alloc]
  have i0 : w.heap.size ≠ w.heap.size + 1 := by omega
  go_enter Try.func18, Try.ntmps18
  go_wp2_with fail
  refine (HO.out _).mono ?_; rintro e w1 ⟨rfl, h⟩; replace h := h.symm; subst h
  go_wp2_with (first | (refine wpList_load_at rfl 23 _ rfl w.heap.size 22 rfl (u8s (cfO S)) _ (cfg_cells R1.out) Try.underlying23 rfl (info8c _) ?_) | (refine wpList_load_at rfl 24 _ rfl w.heap.size 30 rfl (u64s (adO S)) _ (adr_cells R1.out) Try.underlying24 rfl (info8a _) ?_))
  refine (HC.out ((w.alloc (Obj.cells (cs S) 26)).alloc (Obj.cells (cs Z38) 26))).mono ?_; rintro e w1 ⟨rfl, hb⟩
  replace R1 := Lib.hid (R1.out.below hb (by rw [hz.out]; omega))
  replace R2 := Lib.hid (R2.out.below hb (by rw [hz.out]; omega))
  replace hB := Lib.hid (below_step hb hB.out hB.out.size)
  clear hb hz
  have RN := Lib.hid (R1.out.setRow (cs (setA S F)))
  have R2N := Lib.hid (R2.out.setRow_ne (b' := w.heap.size) i0 (cs (setA S F)))
  have HBN := Lib.hid (below_setRow hB.out (Nat.le_refl _) (cs (setA S F)))
  clear R2 hB
  go_wp2_with (first
    | (refine wpList_store_at rfl 24 _ _ rfl w.heap.size 30 (u64s F) rfl rfl 26 (cs S) (cs (setA S F)) R1.out (info8a F) (by show 38 ≤ 38; decide) (new_a S F) (one8a F) ?_)
    | (refine wpList_load_row rfl 26 _ rfl w.heap.size rfl 26 (cs (setA S F)) (0, 0) _ RN.out Try.underlying26 rfl (infoS _) ?_)
    | (refine wpList_store_row rfl 26 _ _ rfl (w.heap.size + 1) (cs (setA S F)) rfl rfl 26 (cs Z38) R2N.out (infoS _) rfl (oneS _) ?_))
  refine bodyPost_ret (results_cell_row rfl _ _ (w.heap.size + 1) 26 (cs (setA S F)) (0, 0) _ rfl (R2N.out.setRow _) Try.underlying26 rfl (infoS _)) rfl ?_
  exact ⟨by rw [HW.out], below_setRow HBN.out (by omega) _⟩
set_option maxRecDepth 100000 in
theorem w_945 (S : Nat → Nat) (v : Nat) (hS : Hid (OkS S)) (hv : Hid (v < 18446744073709551616)) (w : World) : Calls Try.prog 18 #[.agg (cs S), .int .i64 945, .int .u64 v] w (RetS (wrF S 945 v) w) := by
  have HO := Lib.hid (fun u => readOnly_c 945 u)
  rw [show fixB 945 = false by decide] at HO
  have HC := Lib.hid (fun u => Address_c (cfO S) (adO S) 1 v (by decide) hS.out.c hS.out.a hv u)
  have HW : Hid (wrF S 945 v = setA S (adrF (cfO S) (adO S) 1 v)) := rfl
  obtain ⟨F, hF⟩ : ∃ F, adrF (cfO S) (adO S) 1 v = F := ⟨_, rfl⟩
  rw [hF] at HC HW
  clear hF hS
  obtain ⟨R1, R2⟩ := two_rows w S Z38
  replace R1 := Lib.hid R1; replace R2 := Lib.hid R2
  have hB : Hid (Below w.heap.size w ((w.alloc (Obj.cells (cs S) 26)).alloc (Obj.cells (cs Z38) 26))) := by show Below _ _ _; exact (by repeat (first | (with_reducible first | exact Below.refl _ _ | assumption | exact Nat.le_refl _ | refine Below.drew ?_ | refine Below.alloc ?_ ?_ _ | refine Below.setCell ?_ ?_ _ | refine le_alloc ?_ | refine le_set ?_ | refine le_drew ?_ | refine below_step (by assumption) ?_ ?_ | refine le_below (by assumption) ?_) | (dsimp only; omega)))
  have hz : Hid (((w.alloc (Obj.cells (cs S) 26)).alloc (Obj.cells (cs Z38) 26)).heap.size = w.heap.size + 2) := by show _ = _; simp only [sz_alloc]
  have i0 : w.heap.size ≠ w.heap.size + 1 := by omega
  go_enter Try.func18, Try.ntmps18
  go_wp2_with fail
  refine (HO.out _).mono ?_; rintro e w1 ⟨rfl, h⟩; replace h := h.symm; subst h
  go_wp2_with (first | (refine wpList_load_at rfl 23 _ rfl w.heap.size 22 rfl (u8s (cfO S)) _ (cfg_cells R1.out) Try.underlying23 rfl (info8c _) ?_) | (refine wpList_load_at rfl 24 _ rfl w.heap.size 30 rfl (u64s (adO S)) _ (adr_cells R1.out) Try.underlying24 rfl (info8a _) ?_))
  refine (HC.out ((w.alloc (Obj.cells (cs S) 26)).alloc (Obj.cells (cs Z38) 26))).mono ?_; rintro e w1 ⟨rfl, hb⟩
  replace R1 := Lib.hid (R1.out.below hb (by rw [hz.out]; omega))
  replace R2 := Lib.hid (R2.out.below hb (by rw [hz.out]; omega))
  replace hB := Lib.hid (below_step hb hB.out hB.out.size)
  clear hb hz
  have RN := Lib.hid (R1.out.setRow (cs (setA S F)))
  have R2N := Lib.hid (R2.out.setRow_ne (b' := w.heap.size) i0 (cs (setA S F)))
  have HBN := Lib.hid (below_setRow hB.out (Nat.le_refl _) (cs (setA S F)))
  clear R2 hB
  go_wp2_with (first
    | (refine wpList_store_at rfl 24 _ _ rfl w.heap.size 30 (u64s F) rfl rfl 26 (cs S) (cs (setA S F)) R1.out (info8a F) (by show 38 ≤ 38; decide) (new_a S F) (one8a F) ?_)
    | (refine wpList_load_row rfl 26 _ rfl w.heap.size rfl 26 (cs (setA S F)) (0, 0) _ RN.out Try.underlying26 rfl (infoS _) ?_)
    | (refine wpList_store_row rfl 26 _ _ rfl (w.heap.size + 1) (cs (setA S F)) rfl rfl 26 (cs Z38) R2N.out (infoS _) rfl (oneS _) ?_))
  refine bodyPost_ret (results_cell_row rfl _ _ (w.heap.size + 1) 26 (cs (setA S F)) (0, 0) _ rfl (R2N.out.setRow _) Try.underlying26 rfl (infoS _)) rfl ?_
  exact ⟨by rw [HW.out], below_setRow HBN.out (by omega) _⟩
set_option maxRecDepth 100000 in
theorem w_946 (S : Nat → Nat) (v : Nat) (hS : Hid (OkS S)) (hv : Hid (v < 18446744073709551616)) (w : World) : Calls Try.prog 18 #[.agg (cs S), .int .i64 946, .int .u64 v] w (RetS (wrF S 946 v) w) := by
  have HO := Lib.hid (fun u => readOnly_c 946 u)
  rw [show fixB 946 = false by decide] at HO
  have HC := Lib.hid (fun u => Address_c (cfO S) (adO S) 2 v (by decide) hS.out.c hS.out.a hv u)
  have HW : Hid (wrF S 946 v = setA S (adrF (cfO S) (adO S) 2 v)) := rfl
  obtain ⟨F, hF⟩ : ∃ F, adrF (cfO S) (adO S) 2 v = F := ⟨_, rfl⟩
  rw [hF] at HC HW
  clear hF hS
  obtain ⟨R1, R2⟩ := two_rows w S Z38
  replace R1 := Lib.hid R1; replace R2 := Lib.hid R2
  have hB : Hid (Below w.heap.size w ((w.alloc (Obj.cells (cs S) 26)).alloc (Obj.cells (cs Z38) 26))) := by show Below _ _ _; exact (by repeat (first | (with_reducible first | exact Below.refl _ _ | assumption | exact Nat.le_refl _ | refine Below.drew ?_ | refine Below.alloc ?_ ?_ _ | refine Below.setCell ?_ ?_ _ | refine le_alloc ?_ | refine le_set ?_ | refine le_drew ?_ | refine below_step (by assumption) ?_ ?_ | refine le_below (by assumption) ?_) | (dsimp only; omega)))
  have hz : Hid (((w.alloc (Obj.cells (cs S) 26)).alloc (Obj.cells (cs Z38) 26)).heap.size = w.heap.size + 2) := by show _ = _; simp only [sz_alloc]
  have i0 : w.heap.size ≠ w.heap.size + 1 := by omega
  go_enter Try.func18, Try.ntmps18
  go_wp2_with fail
  refine (HO.out _).mono ?_; rintro e w1 ⟨rfl, h⟩; replace h := h.symm; subst h
  go_wp2_with (first | (refine wpList_load_at rfl 23 _ rfl w.heap.size 22 rfl (u8s (cfO S)) _ (cfg_cells R1.out) Try.underlying23 rfl (info8c _) ?_) | (refine wpList_load_at rfl 24 _ rfl w.heap.size 30 rfl (u64s (adO S)) _ (adr_cells R1.out) Try.underlying24 rfl (info8a _) ?_))
  refine (HC.out ((w.alloc (Obj.cells (cs S) 26)).alloc (Obj.cells (cs Z38) 26))).mono ?_; rintro e w1 ⟨rfl, hb⟩
  replace R1 := Lib.hid (R1.out.below hb (by rw [hz.out]; omega))
  replace R2 := Lib.hid (R2.out.below hb (by rw [hz.out]; omega))
  replace hB := Lib.hid (below_step hb hB.out hB.out.size)
  clear hb hz
  have RN := Lib.hid (R1.out.setRow (cs (setA S F)))
  have R2N := Lib.hid (R2.out.setRow_ne (b' := w.heap.size) i0 (cs (setA S F)))
  have HBN := Lib.hid (below_setRow hB.out (Nat.le_refl _) (cs (setA S F)))
  clear R2 hB
  go_wp2_with (first
    | (refine wpList_store_at rfl 24 _ _ rfl w.heap.size 30 (u64s F) rfl rfl 26 (cs S) (cs (setA S F)) R1.out (info8a F) (by show 38 ≤ 38; decide) (new_a S F) (one8a F) ?_)
    | (refine wpList_load_row rfl 26 _ rfl w.heap.size rfl 26 (cs (setA S F)) (0, 0) _ RN.out Try.underlying26 rfl (infoS _) ?_)
    | (refine wpList_store_row rfl 26 _ _ rfl (w.heap.size + 1) (cs (setA S F)) rfl rfl 26 (cs Z38) R2N.out (infoS _) rfl (oneS _) ?_))
  refine bodyPost_ret (results_cell_row rfl _ _ (w.heap.size + 1) 26 (cs (setA S F)) (0, 0) _ rfl (R2N.out.setRow _) Try.underlying26 rfl (infoS _)) rfl ?_
  exact ⟨by rw [HW.out], below_setRow HBN.out (by omega) _⟩
set_option maxRecDepth 100000 in
theorem w_947 (S : Nat → Nat) (v : Nat) (hS : Hid (OkS S)) (hv : Hid (v < 18446744073709551616)) (w : World) : Calls Try.prog 18 #[.agg (cs S), .int .i64 947, .int .u64 v] w (RetS (wrF S 947 v) w) := by
  have HO := Lib.hid (fun u => readOnly_c 947 u)
  rw [show fixB 947 = false by decide] at HO
  have HC := Lib.hid (fun u => Address_c (cfO S) (adO S) 3 v (by decide) hS.out.c hS.out.a hv u)
  have HW : Hid (wrF S 947 v = setA S (adrF (cfO S) (adO S) 3 v)) := rfl
  obtain ⟨F, hF⟩ : ∃ F, adrF (cfO S) (adO S) 3 v = F := ⟨_, rfl⟩
  rw [hF] at HC HW
  clear hF hS
  obtain ⟨R1, R2⟩ := two_rows w S Z38
  replace R1 := Lib.hid R1; replace R2 := Lib.hid R2
  have hB : Hid (Below w.heap.size w ((w.alloc (Obj.cells (cs S) 26)).alloc (Obj.cells (cs Z38) 26))) := by show Below _ _ _; exact (by repeat (first | (with_reducible first | exact Below.refl _ _ | assumption | exact Nat.le_refl _ | refine Below.drew ?_ | refine Below.alloc ?_ ?_ _ | refine Below.setCell ?_ ?_ _ | refine le_alloc ?_ | refine le_set ?_ | refine le_drew ?_ | refine below_step (by assumption) ?_ ?_ | refine le_below (by assumption) ?_) | (dsimp only; omega)))
  have hz : Hid (((w.alloc (Obj.cells (cs S) 26)).alloc (Obj.cells (cs Z38) 26)).heap.size = w.heap.size + 2) := by show _ = _; simp only [sz_alloc]
  have i0 : w.heap.size ≠ w.heap.size + 1 := by omega
  go_enter Try.func18, Try.ntmps18
  go_wp2_with fail
  refine (HO.out _).mono ?_; rintro e w1 ⟨rfl, h⟩; replace h := h.symm; subst h
  go_wp2_with (first | (refine wpList_load_at rfl 23 _ rfl w.heap.size 22 rfl (u8s (cfO S)) _ (cfg_cells R1.out) Try.underlying23 rfl (info8c _) ?_) | (refine wpList_load_at rfl 24 _ rfl w.heap.size 30 rfl (u64s (adO S)) _ (adr_cells R1.out) Try.underlying24 rfl (info8a _) ?_))
  refine (HC.out ((w.alloc (Obj.cells (cs S) 26)).alloc (Obj.cells (cs Z38) 26))).mono ?_; rintro e w1 ⟨rfl, hb⟩
  replace R1 := Lib.hid (R1.out.below hb (by rw [hz.out]; omega))
  replace R2 := Lib.hid (R2.out.below hb (by rw [hz.out]; omega))
  replace hB := Lib.hid (below_step hb hB.out hB.out.size)
  clear hb hz
  have RN := Lib.hid (R1.out.setRow (cs (setA S F)))
  have R2N := Lib.hid (R2.out.setRow_ne (b' := w.heap.size) i0 (cs (setA S F)))
  have HBN := Lib.hid (below_setRow hB.out (Nat.le_refl _) (cs (setA S F)))
  clear R2 hB
  go_wp2_with (first
    | (refine wpList_store_at rfl 24 _ _ rfl w.heap.size 30 (u64s F) rfl rfl 26 (cs S) (cs (setA S F)) R1.out (info8a F) (by show 38 ≤ 38; decide) (new_a S F) (one8a F) ?_)
    | (refine wpList_load_row rfl 26 _ rfl w.heap.size rfl 26 (cs (setA S F)) (0, 0) _ RN.out Try.underlying26 rfl (infoS _) ?_)
    | (refine wpList_store_row rfl 26 _ _ rfl (w.heap.size + 1) (cs (setA S F)) rfl rfl 26 (cs Z38) R2N.out (infoS _) rfl (oneS _) ?_))
  refine bodyPost_ret (results_cell_row rfl _ _ (w.heap.size + 1) 26 (cs (setA S F)) (0, 0) _ rfl (R2N.out.setRow _) Try.underlying26 rfl (infoS _)) rfl ?_
  exact ⟨by rw [HW.out], below_setRow HBN.out (by omega) _⟩
set_option maxRecDepth 100000 in
theorem w_948 (S : Nat → Nat) (v : Nat) (hS : Hid (OkS S)) (hv : Hid (v < 18446744073709551616)) (w : World) : Calls Try.prog 18 #[.agg (cs S), .int .i64 948, .int .u64 v] w (RetS (wrF S 948 v) w) := by
  have HO := Lib.hid (fun u => readOnly_c 948 u)
  rw [show fixB 948 = false by decide] at HO
  have HC := Lib.hid (fun u => Address_c (cfO S) (adO S) 4 v (by decide) hS.out.c hS.out.a hv u)
  have HW : Hid (wrF S 948 v = setA S (adrF (cfO S) (adO S) 4 v)) := rfl
  obtain ⟨F, hF⟩ : ∃ F, adrF (cfO S) (adO S) 4 v = F := ⟨_, rfl⟩
  rw [hF] at HC HW
  clear hF hS
  obtain ⟨R1, R2⟩ := two_rows w S Z38
  replace R1 := Lib.hid R1; replace R2 := Lib.hid R2
  have hB : Hid (Below w.heap.size w ((w.alloc (Obj.cells (cs S) 26)).alloc (Obj.cells (cs Z38) 26))) := by show Below _ _ _; exact (by repeat (first | (with_reducible first | exact Below.refl _ _ | assumption | exact Nat.le_refl _ | refine Below.drew ?_ | refine Below.alloc ?_ ?_ _ | refine Below.setCell ?_ ?_ _ | refine le_alloc ?_ | refine le_set ?_ | refine le_drew ?_ | refine below_step (by assumption) ?_ ?_ | refine le_below (by assumption) ?_) | (dsimp only; omega)))
  have hz : Hid (((w.alloc (Obj.cells (cs S) 26)).alloc (Obj.cells (cs Z38) 26)).heap.size = w.heap.size + 2) := by show _ = _; simp only [sz_alloc]
  have i0 : w.heap.size ≠ w.heap.size + 1 := by omega
  go_enter Try.func18, Try.ntmps18
  go_wp2_with fail
  refine (HO.out _).mono ?_; rintro e w1 ⟨rfl, h⟩; replace h := h.symm; subst h
  go_wp2_with (first | (refine wpList_load_at rfl 23 _ rfl w.heap.size 22 rfl (u8s (cfO S)) _ (cfg_cells R1.out) Try.underlying23 rfl (info8c _) ?_) | (refine wpList_load_at rfl 24 _ rfl w.heap.size 30 rfl (u64s (adO S)) _ (adr_cells R1.out) Try.underlying24 rfl (info8a _) ?_))
  refine (HC.out ((w.alloc (Obj.cells (cs S) 26)).alloc (Obj.cells (cs Z38) 26))).mono ?_; rintro e w1 ⟨rfl, hb⟩
  replace R1 := Lib.hid (R1.out.below hb (by rw [hz.out]; omega))
  replace R2 := Lib.hid (R2.out.below hb (by rw [hz.out]; omega))
  replace hB := Lib.hid (below_step hb hB.out hB.out.size)
  clear hb hz
  have RN := Lib.hid (R1.out.setRow (cs (setA S F)))
  have R2N := Lib.hid (R2.out.setRow_ne (b' := w.heap.size) i0 (cs (setA S F)))
  have HBN := Lib.hid (below_setRow hB.out (Nat.le_refl _) (cs (setA S F)))
  clear R2 hB
  go_wp2_with (first
    | (refine wpList_store_at rfl 24 _ _ rfl w.heap.size 30 (u64s F) rfl rfl 26 (cs S) (cs (setA S F)) R1.out (info8a F) (by show 38 ≤ 38; decide) (new_a S F) (one8a F) ?_)
    | (refine wpList_load_row rfl 26 _ rfl w.heap.size rfl 26 (cs (setA S F)) (0, 0) _ RN.out Try.underlying26 rfl (infoS _) ?_)
    | (refine wpList_store_row rfl 26 _ _ rfl (w.heap.size + 1) (cs (setA S F)) rfl rfl 26 (cs Z38) R2N.out (infoS _) rfl (oneS _) ?_))
  refine bodyPost_ret (results_cell_row rfl _ _ (w.heap.size + 1) 26 (cs (setA S F)) (0, 0) _ rfl (R2N.out.setRow _) Try.underlying26 rfl (infoS _)) rfl ?_
  exact ⟨by rw [HW.out], below_setRow HBN.out (by omega) _⟩
set_option maxRecDepth 100000 in
theorem w_949 (S : Nat → Nat) (v : Nat) (hS : Hid (OkS S)) (hv : Hid (v < 18446744073709551616)) (w : World) : Calls Try.prog 18 #[.agg (cs S), .int .i64 949, .int .u64 v] w (RetS (wrF S 949 v) w) := by
  have HO := Lib.hid (fun u => readOnly_c 949 u)
  rw [show fixB 949 = false by decide] at HO
  have HC := Lib.hid (fun u => Address_c (cfO S) (adO S) 5 v (by decide) hS.out.c hS.out.a hv u)
  have HW : Hid (wrF S 949 v = setA S (adrF (cfO S) (adO S) 5 v)) := rfl
  obtain ⟨F, hF⟩ : ∃ F, adrF (cfO S) (adO S) 5 v = F := ⟨_, rfl⟩
  rw [hF] at HC HW
  clear hF hS
  obtain ⟨R1, R2⟩ := two_rows w S Z38
  replace R1 := Lib.hid R1; replace R2 := Lib.hid R2
  have hB : Hid (Below w.heap.size w ((w.alloc (Obj.cells (cs S) 26)).alloc (Obj.cells (cs Z38) 26))) := by show Below _ _ _; exact (by repeat (first | (with_reducible first | exact Below.refl _ _ | assumption | exact Nat.le_refl _ | refine Below.drew ?_ | refine Below.alloc ?_ ?_ _ | refine Below.setCell ?_ ?_ _ | refine le_alloc ?_ | refine le_set ?_ | refine le_drew ?_ | refine below_step (by assumption) ?_ ?_ | refine le_below (by assumption) ?_) | (dsimp only; omega)))
  have hz : Hid (((w.alloc (Obj.cells (cs S) 26)).alloc (Obj.cells (cs Z38) 26)).heap.size = w.heap.size + 2) := by show _ = _; simp only [sz_alloc]
  have i0 : w.heap.size ≠ w.heap.size + 1 := by omega
  go_enter Try.func18, Try.ntmps18
  go_wp2_with fail
  refine (HO.out _).mono ?_; rintro e w1 ⟨rfl, h⟩; replace h := h.symm; subst h
  go_wp2_with (first | (refine wpList_load_at rfl 23 _ rfl w.heap.size 22 rfl (u8s (cfO S)) _ (cfg_cells R1.out) Try.underlying23 rfl (info8c _) ?_) | (refine wpList_load_at rfl 24 _ rfl w.heap.size 30 rfl (u64s (adO S)) _ (adr_cells R1.out) Try.underlying24 rfl (info8a _) ?_))
  refine (HC.out ((w.alloc (Obj.cells (cs S) 26)).alloc (Obj.cells (cs Z38) 26))).mono ?_; rintro e w1 ⟨rfl, hb⟩
  replace R1 := Lib.hid (R1.out.below hb (by rw [hz.out]; omega))
  replace R2 := Lib.hid (R2.out.below hb (by rw [hz.out]; omega))
  replace hB := Lib.hid (below_step hb hB.out hB.out.size)
  clear hb hz
  have RN := Lib.hid (R1.out.setRow (cs (setA S F)))
  have R2N := Lib.hid (R2.out.setRow_ne (b' := w.heap.size) i0 (cs (setA S F)))
  have HBN := Lib.hid (below_setRow hB.out (Nat.le_refl _) (cs (setA S F)))
  clear R2 hB
  go_wp2_with (first
    | (refine wpList_store_at rfl 24 _ _ rfl w.heap.size 30 (u64s F) rfl rfl 26 (cs S) (cs (setA S F)) R1.out (info8a F) (by show 38 ≤ 38; decide) (new_a S F) (one8a F) ?_)
    | (refine wpList_load_row rfl 26 _ rfl w.heap.size rfl 26 (cs (setA S F)) (0, 0) _ RN.out Try.underlying26 rfl (infoS _) ?_)
    | (refine wpList_store_row rfl 26 _ _ rfl (w.heap.size + 1) (cs (setA S F)) rfl rfl 26 (cs Z38) R2N.out (infoS _) rfl (oneS _) ?_))
  refine bodyPost_ret (results_cell_row rfl _ _ (w.heap.size + 1) 26 (cs (setA S F)) (0, 0) _ rfl (R2N.out.setRow _) Try.underlying26 rfl (infoS _)) rfl ?_
  exact ⟨by rw [HW.out], below_setRow HBN.out (by omega) _⟩
set_option maxRecDepth 100000 in
theorem w_950 (S : Nat → Nat) (v : Nat) (hS : Hid (OkS S)) (hv : Hid (v < 18446744073709551616)) (w : World) : Calls Try.prog 18 #[.agg (cs S), .int .i64 950, .int .u64 v] w (RetS (wrF S 950 v) w) := by
  have HO := Lib.hid (fun u => readOnly_c 950 u)
  rw [show fixB 950 = false by decide] at HO
  have HC := Lib.hid (fun u => Address_c (cfO S) (adO S) 6 v (by decide) hS.out.c hS.out.a hv u)
  have HW : Hid (wrF S 950 v = setA S (adrF (cfO S) (adO S) 6 v)) := rfl
  obtain ⟨F, hF⟩ : ∃ F, adrF (cfO S) (adO S) 6 v = F := ⟨_, rfl⟩
  rw [hF] at HC HW
  clear hF hS
  obtain ⟨R1, R2⟩ := two_rows w S Z38
  replace R1 := Lib.hid R1; replace R2 := Lib.hid R2
  have hB : Hid (Below w.heap.size w ((w.alloc (Obj.cells (cs S) 26)).alloc (Obj.cells (cs Z38) 26))) := by show Below _ _ _; exact (by repeat (first | (with_reducible first | exact Below.refl _ _ | assumption | exact Nat.le_refl _ | refine Below.drew ?_ | refine Below.alloc ?_ ?_ _ | refine Below.setCell ?_ ?_ _ | refine le_alloc ?_ | refine le_set ?_ | refine le_drew ?_ | refine below_step (by assumption) ?_ ?_ | refine le_below (by assumption) ?_) | (dsimp only; omega)))
  have hz : Hid (((w.alloc (Obj.cells (cs S) 26)).alloc (Obj.cells (cs Z38) 26)).heap.size = w.heap.size + 2) := by show _ = _; simp only [sz_alloc]
  have i0 : w.heap.size ≠ w.heap.size + 1 := by omega
  go_enter Try.func18, Try.ntmps18
  go_wp2_with fail
  refine (HO.out _).mono ?_; rintro e w1 ⟨rfl, h⟩; replace h := h.symm; subst h
  go_wp2_with (first | (refine wpList_load_at rfl 23 _ rfl w.heap.size 22 rfl (u8s (cfO S)) _ (cfg_cells R1.out) Try.underlying23 rfl (info8c _) ?_) | (refine wpList_load_at rfl 24 _ rfl w.heap.size 30 rfl (u64s (adO S)) _ (adr_cells R1.out) Try.underlying24 rfl (info8a _) ?_))
  refine (HC.out ((w.alloc (Obj.cells (cs S) 26)).alloc (Obj.cells (cs Z38) 26))).mono ?_; rintro e w1 ⟨rfl, hb⟩
  replace R1 := Lib.hid (R1.out.below hb (by rw [hz.out]; omega))
  replace R2 := Lib.hid (R2.out.below hb (by rw [hz.out]; omega))
  replace hB := Lib.hid (below_step hb hB.out hB.out.size)
  clear hb hz
  have RN := Lib.hid (R1.out.setRow (cs (setA S F)))
  have R2N := Lib.hid (R2.out.setRow_ne (b' := w.heap.size) i0 (cs (setA S F)))
  have HBN := Lib.hid (below_setRow hB.out (Nat.le_refl _) (cs (setA S F)))
  clear R2 hB
  go_wp2_with (first
    | (refine wpList_store_at rfl 24 _ _ rfl w.heap.size 30 (u64s F) rfl rfl 26 (cs S) (cs (setA S F)) R1.out (info8a F) (by show 38 ≤ 38; decide) (new_a S F) (one8a F) ?_)
    | (refine wpList_load_row rfl 26 _ rfl w.heap.size rfl 26 (cs (setA S F)) (0, 0) _ RN.out Try.underlying26 rfl (infoS _) ?_)
    | (refine wpList_store_row rfl 26 _ _ rfl (w.heap.size + 1) (cs (setA S F)) rfl rfl 26 (cs Z38) R2N.out (infoS _) rfl (oneS _) ?_))
  refine bodyPost_ret (results_cell_row rfl _ _ (w.heap.size + 1) 26 (cs (setA S F)) (0, 0) _ rfl (R2N.out.setRow _) Try.underlying26 rfl (infoS _)) rfl ?_
  exact ⟨by rw [HW.out], below_setRow HBN.out (by omega) _⟩
set_option maxRecDepth 100000 in
theorem w_951 (S : Nat → Nat) (v : Nat) (hS : Hid (OkS S)) (hv : Hid (v < 18446744073709551616)) (w : World) : Calls Try.prog 18 #[.agg (cs S), .int .i64 951, .int .u64 v] w (RetS (wrF S 951 v) w) := by
  have HO := Lib.hid (fun u => readOnly_c 951 u)
  rw [show fixB 951 = false by decide] at HO
  have HC := Lib.hid (fun u => Address_c (cfO S) (adO S) 7 v (by decide) hS.out.c hS.out.a hv u)
  have HW : Hid (wrF S 951 v = setA S (adrF (cfO S) (adO S) 7 v)) := rfl
  obtain ⟨F, hF⟩ : ∃ F, adrF (cfO S) (adO S) 7 v = F := ⟨_, rfl⟩
  rw [hF] at HC HW
  clear hF hS
  obtain ⟨R1, R2⟩ := two_rows w S Z38
  replace R1 := Lib.hid R1; replace R2 := Lib.hid R2
  have hB : Hid (Below w.heap.size w ((w.alloc (Obj.cells (cs S) 26)).alloc (Obj.cells (cs Z38) 26))) := by show Below _ _ _; exact (by repeat (first | (with_reducible first | exact Below.refl _ _ | assumption | exact Nat.le_refl _ | refine Below.drew ?_ | refine Below.alloc ?_ ?_ _ | refine Below.setCell ?_ ?_ _ | refine le_alloc ?_ | refine le_set ?_ | refine le_drew ?_ | refine below_step (by assumption) ?_ ?_ | refine le_below (by assumption) ?_) | (dsimp only; omega)))
  have hz : Hid (((w.alloc (Obj.cells (cs S) 26)).alloc (Obj.cells (cs Z38) 26)).heap.size = w.heap.size + 2) := by show _ = _; simp only [sz_alloc]
  have i0 : w.heap.size ≠ w.heap.size + 1 := by omega
  go_enter Try.func18, Try.ntmps18
  go_wp2_with fail
  refine (HO.out _).mono ?_; rintro e w1 ⟨rfl, h⟩; replace h := h.symm; subst h
  go_wp2_with (first | (refine wpList_load_at rfl 23 _ rfl w.heap.size 22 rfl (u8s (cfO S)) _ (cfg_cells R1.out) Try.underlying23 rfl (info8c _) ?_) | (refine wpList_load_at rfl 24 _ rfl w.heap.size 30 rfl (u64s (adO S)) _ (adr_cells R1.out) Try.underlying24 rfl (info8a _) ?_))
  refine (HC.out ((w.alloc (Obj.cells (cs S) 26)).alloc (Obj.cells (cs Z38) 26))).mono ?_; rintro e w1 ⟨rfl, hb⟩
  replace R1 := Lib.hid (R1.out.below hb (by rw [hz.out]; omega))
  replace R2 := Lib.hid (R2.out.below hb (by rw [hz.out]; omega))
  replace hB := Lib.hid (below_step hb hB.out hB.out.size)
  clear hb hz
  have RN := Lib.hid (R1.out.setRow (cs (setA S F)))
  have R2N := Lib.hid (R2.out.setRow_ne (b' := w.heap.size) i0 (cs (setA S F)))
  have HBN := Lib.hid (below_setRow hB.out (Nat.le_refl _) (cs (setA S F)))
  clear R2 hB
  go_wp2_with (first
    | (refine wpList_store_at rfl 24 _ _ rfl w.heap.size 30 (u64s F) rfl rfl 26 (cs S) (cs (setA S F)) R1.out (info8a F) (by show 38 ≤ 38; decide) (new_a S F) (one8a F) ?_)
    | (refine wpList_load_row rfl 26 _ rfl w.heap.size rfl 26 (cs (setA S F)) (0, 0) _ RN.out Try.underlying26 rfl (infoS _) ?_)
    | (refine wpList_store_row rfl 26 _ _ rfl (w.heap.size + 1) (cs (setA S F)) rfl rfl 26 (cs Z38) R2N.out (infoS _) rfl (oneS _) ?_))
  refine bodyPost_ret (results_cell_row rfl _ _ (w.heap.size + 1) 26 (cs (setA S F)) (0, 0) _ rfl (R2N.out.setRow _) Try.underlying26 rfl (infoS _)) rfl ?_
  exact ⟨by rw [HW.out], below_setRow HBN.out (by omega) _⟩
set_option maxRecDepth 100000 in
theorem w_ro (S : Nat → Nat) (n : Int) (v : Nat) (hS : Hid (OkS S)) (hv : Hid (v < 18446744073709551616)) (hf : Hid (fixB n = true)) (w : World) : Calls Try.prog 18 #[.agg (cs S), .int .i64 n, .int .u64 v] w (RetS (wrF S n v) w) := by
  have HO := Lib.hid (fun u => readOnly_c n u)
  rw [hf.out] at HO
  have HW : Hid (wrF S n v = S) := by show _ = _; unfold wrF; rw [if_pos hf.out]
  clear hf hS hv
  obtain ⟨R1, R2⟩ := two_rows w S Z38
  replace R1 := Lib.hid R1; replace R2 := Lib.hid R2
  have hB : Hid (Below w.heap.size w ((w.alloc (Obj.cells (cs S) 26)).alloc (Obj.cells (cs Z38) 26))) := by show Below _ _ _; exact (by repeat (first | (with_reducible first | exact Below.refl _ _ | assumption | exact Nat.le_refl _ | refine Below.drew ?_ | refine Below.alloc ?_ ?_ _ | refine Below.setCell ?_ ?_ _ | refine le_alloc ?_ | refine le_set ?_ | refine le_drew ?_ | refine below_step (by assumption) ?_ ?_ | refine le_below (by assumption) ?_) | (dsimp only; omega)))
  go_enter Try.func18, Try.ntmps18
  go_wp2_with fail
  refine (HO.out _).mono ?_; rintro e w1 ⟨rfl, h⟩; replace h := h.symm; subst h
  go_wp2_with (first
    | (refine wpList_load_row rfl 26 _ rfl w.heap.size rfl 26 (cs S) (0, 0) _ R1.out Try.underlying26 rfl (infoS _) ?_)
    | (refine wpList_store_row rfl 26 _ _ rfl (w.heap.size + 1) (cs S) rfl rfl 26 (cs Z38) R2.out (infoS _) rfl (oneS _) ?_))
  refine bodyPost_ret (results_cell_row rfl _ _ (w.heap.size + 1) 26 (cs S) (0, 0) _ rfl (R2.out.setRow _) Try.underlying26 rfl (infoS _)) rfl ?_
  exact ⟨by rw [HW.out], below_setRow hB.out (by omega) _⟩
set_option maxRecDepth 100000 in
theorem w_none (S : Nat → Nat) (n : Int) (v : Nat) (hS : Hid (OkS S)) (hv : Hid (v < 18446744073709551616)) (h0 : ¬ n = 1) (h1 : ¬ n = 2) (h2 : ¬ n = 3) (h3 : ¬ n = 256) (h4 : ¬ n = 768) (h5 : ¬ n = 260) (h6 : ¬ n = 772) (h7 : ¬ n = 324) (h8 : ¬ n = 836) (h9 : ¬ n = 928) (h10 : ¬ n = 944) (h11 : ¬ n = 945) (h12 : ¬ n = 946) (h13 : ¬ n = 947) (h14 : ¬ n = 948) (h15 : ¬ n = 949) (h16 : ¬ n = 950) (h17 : ¬ n = 951) (hf : Hid (fixB n = false)) (hp : Hid (plK n = 38)) (w : World) : Calls Try.prog 18 #[.agg (cs S), .int .i64 n, .int .u64 v] w (RetS (wrF S n v) w) := by
  have HO := Lib.hid (fun u => readOnly_c n u)
  rw [hf.out] at HO
  have HW : Hid (wrF S n v = S) := by show _ = _; unfold wrF; rw [if_neg (by rw [hf.out]; decide), if_neg h0, if_neg h1, if_neg h2, if_neg h3, if_neg h4, if_neg h5, if_neg h6, if_neg h7, if_neg h8, if_neg h9, if_neg (by omega), if_pos hp.out]
  have HP := Lib.hid (fun u => plain_n w.heap.size n hp.out u)
  have e0 : (n == 1) = false := by rw [beq_eq_false_iff_ne]; exact h0
  have e1 : (n == 2) = false := by rw [beq_eq_false_iff_ne]; exact h1
  have e2 : (n == 3) = false := by rw [beq_eq_false_iff_ne]; exact h2
  have e3 : (n == 256) = false := by rw [beq_eq_false_iff_ne]; exact h3
  have e4 : (n == 768) = false := by rw [beq_eq_false_iff_ne]; exact h4
  have e5 : (n == 260) = false := by rw [beq_eq_false_iff_ne]; exact h5
  have e6 : (n == 772) = false := by rw [beq_eq_false_iff_ne]; exact h6
  have e7 : (n == 324) = false := by rw [beq_eq_false_iff_ne]; exact h7
  have e8 : (n == 836) = false := by rw [beq_eq_false_iff_ne]; exact h8
  have e9 : (n == 928) = false := by rw [beq_eq_false_iff_ne]; exact h9
  have e10 : (n == 944) = false := by rw [beq_eq_false_iff_ne]; exact h10
  have e11 : (n == 945) = false := by rw [beq_eq_false_iff_ne]; exact h11
  have e12 : (n == 946) = false := by rw [beq_eq_false_iff_ne]; exact h12
  have e13 : (n == 947) = false := by rw [beq_eq_false_iff_ne]; exact h13
  have e14 : (n == 948) = false := by rw [beq_eq_false_iff_ne]; exact h14
  have e15 : (n == 949) = false := by rw [beq_eq_false_iff_ne]; exact h15
  have e16 : (n == 950) = false := by rw [beq_eq_false_iff_ne]; exact h16
  have e17 : (n == 951) = false := by rw [beq_eq_false_iff_ne]; exact h17
  clear hf hp hS hv h0 h1 h2 h3 h4 h5 h6 h7 h8 h9 h10 h11 h12 h13 h14 h15 h16 h17
  obtain ⟨R1, R2⟩ := two_rows w S Z38
  replace R1 := Lib.hid R1; replace R2 := Lib.hid R2
  have hB : Hid (Below w.heap.size w ((w.alloc (Obj.cells (cs S) 26)).alloc (Obj.cells (cs Z38) 26))) := by show Below _ _ _; exact (by repeat (first | (with_reducible first | exact Below.refl _ _ | assumption | exact Nat.le_refl _ | refine Below.drew ?_ | refine Below.alloc ?_ ?_ _ | refine Below.setCell ?_ ?_ _ | refine le_alloc ?_ | refine le_set ?_ | refine le_drew ?_ | refine below_step (by assumption) ?_ ?_ | refine le_below (by assumption) ?_) | (dsimp only; omega)))
  go_enter Try.func18, Try.ntmps18
  go_wp2_with fail
  refine (HO.out _).mono ?_; rintro e w1 ⟨rfl, h⟩; replace h := h.symm; subst h
  go_wp2_with fail
  refine (HP.out _).mono ?_; rintro e w1 ⟨rfl, h⟩; replace h := h.symm; subst h
  go_wp2_with (first
    | (refine wpList_load_row rfl 26 _ rfl w.heap.size rfl 26 (cs S) (0, 0) _ R1.out Try.underlying26 rfl (infoS _) ?_)
    | (refine wpList_store_row rfl 26 _ _ rfl (w.heap.size + 1) (cs S) rfl rfl 26 (cs Z38) R2.out (infoS _) rfl (oneS _) ?_))
  refine bodyPost_ret (results_cell_row rfl _ _ (w.heap.size + 1) 26 (cs S) (0, 0) _ rfl (R2.out.setRow _) Try.underlying26 rfl (infoS _)) rfl ?_
  exact ⟨by rw [HW.out], below_setRow hB.out (by omega) _⟩
set_option maxRecDepth 100000 in
theorem w_unfit (S : Nat → Nat) (n : Int) (v : Nat) (hS : Hid (OkS S)) (hv : Hid (v < 18446744073709551616)) (h0 : ¬ n = 1) (h1 : ¬ n = 2) (h2 : ¬ n = 3) (h3 : ¬ n = 256) (h4 : ¬ n = 768) (h5 : ¬ n = 260) (h6 : ¬ n = 772) (h7 : ¬ n = 324) (h8 : ¬ n = 836) (h9 : ¬ n = 928) (h10 : ¬ n = 944) (h11 : ¬ n = 945) (h12 : ¬ n = 946) (h13 : ¬ n = 947) (h14 : ¬ n = 948) (h15 : ¬ n = 949) (h16 : ¬ n = 950) (h17 : ¬ n = 951) (hf : Hid (fixB n = false)) (hp : Hid (plK n ≠ 38)) (hq : Hid (fitB n v = false)) (w : World) : Calls Try.prog 18 #[.agg (cs S), .int .i64 n, .int .u64 v] w (RetS (wrF S n v) w) := by
  have HO := Lib.hid (fun u => readOnly_c n u)
  rw [hf.out] at HO
  have HW : Hid (wrF S n v = S) := by show _ = _; unfold wrF; rw [if_neg (by rw [hf.out]; decide), if_neg h0, if_neg h1, if_neg h2, if_neg h3, if_neg h4, if_neg h5, if_neg h6, if_neg h7, if_neg h8, if_neg h9, if_neg (by omega), if_neg hp.out, if_neg (by rw [hq.out]; decide)]
  have HP := Lib.hid (fun u => plain_y w.heap.size n hp.out u)
  have HQ := Lib.hid (fun u => fits_c n v u)
  rw [hq.out] at HQ
  obtain ⟨k, hk⟩ : ∃ k, plK n = k := ⟨_, rfl⟩
  rw [hk] at HP
  have e0 : (n == 1) = false := by rw [beq_eq_false_iff_ne]; exact h0
  have e1 : (n == 2) = false := by rw [beq_eq_false_iff_ne]; exact h1
  have e2 : (n == 3) = false := by rw [beq_eq_false_iff_ne]; exact h2
  have e3 : (n == 256) = false := by rw [beq_eq_false_iff_ne]; exact h3
  have e4 : (n == 768) = false := by rw [beq_eq_false_iff_ne]; exact h4
  have e5 : (n == 260) = false := by rw [beq_eq_false_iff_ne]; exact h5
  have e6 : (n == 772) = false := by rw [beq_eq_false_iff_ne]; exact h6
  have e7 : (n == 324) = false := by rw [beq_eq_false_iff_ne]; exact h7
  have e8 : (n == 836) = false := by rw [beq_eq_false_iff_ne]; exact h8
  have e9 : (n == 928) = false := by rw [beq_eq_false_iff_ne]; exact h9
  have e10 : (n == 944) = false := by rw [beq_eq_false_iff_ne]; exact h10
  have e11 : (n == 945) = false := by rw [beq_eq_false_iff_ne]; exact h11
  have e12 : (n == 946) = false := by rw [beq_eq_false_iff_ne]; exact h12
  have e13 : (n == 947) = false := by rw [beq_eq_false_iff_ne]; exact h13
  have e14 : (n == 948) = false := by rw [beq_eq_false_iff_ne]; exact h14
  have e15 : (n == 949) = false := by rw [beq_eq_false_iff_ne]; exact h15
  have e16 : (n == 950) = false := by rw [beq_eq_false_iff_ne]; exact h16
  have e17 : (n == 951) = false := by rw [beq_eq_false_iff_ne]; exact h17
  clear hf hp hq hS hv hk h0 h1 h2 h3 h4 h5 h6 h7 h8 h9 h10 h11 h12 h13 h14 h15 h16 h17
  obtain ⟨R1, R2⟩ := two_rows w S Z38
  replace R1 := Lib.hid R1; replace R2 := Lib.hid R2
  have hB : Hid (Below w.heap.size w ((w.alloc (Obj.cells (cs S) 26)).alloc (Obj.cells (cs Z38) 26))) := by show Below _ _ _; exact (by repeat (first | (with_reducible first | exact Below.refl _ _ | assumption | exact Nat.le_refl _ | refine Below.drew ?_ | refine Below.alloc ?_ ?_ _ | refine Below.setCell ?_ ?_ _ | refine le_alloc ?_ | refine le_set ?_ | refine le_drew ?_ | refine below_step (by assumption) ?_ ?_ | refine le_below (by assumption) ?_) | (dsimp only; omega)))
  go_enter Try.func18, Try.ntmps18
  go_wp2_with fail
  refine (HO.out _).mono ?_; rintro e w1 ⟨rfl, h⟩; replace h := h.symm; subst h
  go_wp2_with fail
  refine (HP.out _).mono ?_; rintro e w1 ⟨rfl, h⟩; replace h := h.symm; subst h
  go_wp2_with fail
  refine (HQ.out _).mono ?_; rintro e w1 ⟨rfl, h⟩; replace h := h.symm; subst h
  go_wp2_with (first
    | (refine wpList_load_row rfl 26 _ rfl w.heap.size rfl 26 (cs S) (0, 0) _ R1.out Try.underlying26 rfl (infoS _) ?_)
    | (refine wpList_store_row rfl 26 _ _ rfl (w.heap.size + 1) (cs S) rfl rfl 26 (cs Z38) R2.out (infoS _) rfl (oneS _) ?_))
  refine bodyPost_ret (results_cell_row rfl _ _ (w.heap.size + 1) 26 (cs S) (0, 0) _ rfl (R2.out.setRow _) Try.underlying26 rfl (infoS _)) rfl ?_
  exact ⟨by rw [HW.out], below_setRow hB.out (by omega) _⟩
set_option maxRecDepth 100000 in
theorem w_fit (S : Nat → Nat) (n : Int) (v : Nat) (hS : Hid (OkS S)) (hv : Hid (v < 18446744073709551616)) (h0 : ¬ n = 1) (h1 : ¬ n = 2) (h2 : ¬ n = 3) (h3 : ¬ n = 256) (h4 : ¬ n = 768) (h5 : ¬ n = 260) (h6 : ¬ n = 772) (h7 : ¬ n = 324) (h8 : ¬ n = 836) (h9 : ¬ n = 928) (h10 : ¬ n = 944) (h11 : ¬ n = 945) (h12 : ¬ n = 946) (h13 : ¬ n = 947) (h14 : ¬ n = 948) (h15 : ¬ n = 949) (h16 : ¬ n = 950) (h17 : ¬ n = 951) (hf : Hid (fixB n = false)) (hp : Hid (plK n ≠ 38)) (hq : Hid (fitB n v = true)) (w : World) : Calls Try.prog 18 #[.agg (cs S), .int .i64 n, .int .u64 v] w (RetS (wrF S n v) w) := by
  have HO := Lib.hid (fun u => readOnly_c n u)
  rw [hf.out] at HO
  have HW : Hid (wrF S n v = setN S (plK n) (v &&& lfM n)) := by show _ = _; unfold wrF; rw [if_neg (by rw [hf.out]; decide), if_neg h0, if_neg h1, if_neg h2, if_neg h3, if_neg h4, if_neg h5, if_neg h6, if_neg h7, if_neg h8, if_neg h9, if_neg (by omega), if_neg hp.out, if_pos hq.out]
  have HP := Lib.hid (fun u => plain_y w.heap.size n hp.out u)
  have HQ := Lib.hid (fun u => fits_c n v u)
  rw [hq.out] at HQ
  have HF := Lib.hid (fun u => left_c n u)
  have a1 := u_and v (lfM n) hv.out (lfM_lt n)
  have gk := cs_u S (plK n) (pl_isU hp.out).1
  have gs := cs_set S (plK n) (v &&& lfM n) (pl_isU hp.out).1
  obtain ⟨k, hk⟩ : ∃ k, plK n = k := ⟨_, rfl⟩
  rw [hk] at HP gs gk HW
  obtain ⟨f, hf'⟩ : ∃ f, lfM n = f := ⟨_, rfl⟩
  rw [hf'] at HF a1 gs HW
  obtain ⟨x, hx⟩ : ∃ x, v &&& f = x := ⟨_, rfl⟩
  rw [hx] at a1 gs HW
  obtain ⟨T, hT⟩ : ∃ T, setN S k x = T := ⟨_, rfl⟩
  rw [hT] at gs HW
  have e0 : (n == 1) = false := by rw [beq_eq_false_iff_ne]; exact h0
  have e1 : (n == 2) = false := by rw [beq_eq_false_iff_ne]; exact h1
  have e2 : (n == 3) = false := by rw [beq_eq_false_iff_ne]; exact h2
  have e3 : (n == 256) = false := by rw [beq_eq_false_iff_ne]; exact h3
  have e4 : (n == 768) = false := by rw [beq_eq_false_iff_ne]; exact h4
  have e5 : (n == 260) = false := by rw [beq_eq_false_iff_ne]; exact h5
  have e6 : (n == 772) = false := by rw [beq_eq_false_iff_ne]; exact h6
  have e7 : (n == 324) = false := by rw [beq_eq_false_iff_ne]; exact h7
  have e8 : (n == 836) = false := by rw [beq_eq_false_iff_ne]; exact h8
  have e9 : (n == 928) = false := by rw [beq_eq_false_iff_ne]; exact h9
  have e10 : (n == 944) = false := by rw [beq_eq_false_iff_ne]; exact h10
  have e11 : (n == 945) = false := by rw [beq_eq_false_iff_ne]; exact h11
  have e12 : (n == 946) = false := by rw [beq_eq_false_iff_ne]; exact h12
  have e13 : (n == 947) = false := by rw [beq_eq_false_iff_ne]; exact h13
  have e14 : (n == 948) = false := by rw [beq_eq_false_iff_ne]; exact h14
  have e15 : (n == 949) = false := by rw [beq_eq_false_iff_ne]; exact h15
  have e16 : (n == 950) = false := by rw [beq_eq_false_iff_ne]; exact h16
  have e17 : (n == 951) = false := by rw [beq_eq_false_iff_ne]; exact h17
  clear hf hp hq hS hv hk hx hf' hT h0 h1 h2 h3 h4 h5 h6 h7 h8 h9 h10 h11 h12 h13 h14 h15 h16 h17
  obtain ⟨R1, R2⟩ := two_rows w T Z38
  replace R1 := Lib.hid R1; replace R2 := Lib.hid R2
  have hB : Hid (Below w.heap.size w ((w.alloc (Obj.cells (cs T) 26)).alloc (Obj.cells (cs Z38) 26))) := by show Below _ _ _; exact (by repeat (first | (with_reducible first | exact Below.refl _ _ | assumption | exact Nat.le_refl _ | refine Below.drew ?_ | refine Below.alloc ?_ ?_ _ | refine Below.setCell ?_ ?_ _ | refine le_alloc ?_ | refine le_set ?_ | refine le_drew ?_ | refine below_step (by assumption) ?_ ?_ | refine le_below (by assumption) ?_) | (dsimp only; omega)))
  go_enter Try.func18, Try.ntmps18
  go_wp2_with fail
  refine (HO.out _).mono ?_; rintro e w1 ⟨rfl, h⟩; replace h := h.symm; subst h
  go_wp2_with fail
  refine (HP.out _).mono ?_; rintro e w1 ⟨rfl, h⟩; replace h := h.symm; subst h
  go_wp2_with fail
  refine (HQ.out _).mono ?_; rintro e w1 ⟨rfl, h⟩; replace h := h.symm; subst h
  go_wp2_with fail
  refine (HF.out _).mono ?_; rintro e w1 ⟨rfl, h⟩; replace h := h.symm; subst h
  go_wp2_with (first
    | (refine wpList_load_row rfl 26 _ rfl w.heap.size rfl 26 (cs T) (0, 0) _ R1.out Try.underlying26 rfl (infoS _) ?_)
    | (refine wpList_store_row rfl 26 _ _ rfl (w.heap.size + 1) (cs T) rfl rfl 26 (cs Z38) R2.out (infoS _) rfl (oneS _) ?_))
  refine bodyPost_ret (results_cell_row rfl _ _ (w.heap.size + 1) 26 (cs T) (0, 0) _ rfl (R2.out.setRow _) Try.underlying26 rfl (infoS _)) rfl ?_
  exact ⟨by rw [HW.out], below_setRow hB.out (by omega) _⟩
theorem write_c (S : Nat → Nat) (n : Int) (v : Nat) (hS : Hid (OkS S)) (hv : Hid (v < 18446744073709551616)) (w : World) : Calls Try.prog 18 #[.agg (cs S), .int .i64 n, .int .u64 v] w (RetS (wrF S n v) w) := by
  by_cases h0 : n = 1
  · subst h0; exact w_1 S v hS hv w
  by_cases h1 : n = 2
  · subst h1; exact w_2 S v hS hv w
  by_cases h2 : n = 3
  · subst h2; exact w_3 S v hS hv w
  by_cases h3 : n = 256
  · subst h3; exact w_256 S v hS hv w
  by_cases h4 : n = 768
  · subst h4; exact w_768 S v hS hv w
  by_cases h5 : n = 260
  · subst h5; exact w_260 S v hS hv w
  by_cases h6 : n = 772
  · subst h6; exact w_772 S v hS hv w
  by_cases h7 : n = 324
  · subst h7; exact w_324 S v hS hv w
  by_cases h8 : n = 836
  · subst h8; exact w_836 S v hS hv w
  by_cases h9 : n = 928
  · subst h9; exact w_928 S v hS hv w
  by_cases h10 : n = 944
  · subst h10; exact w_944 S v hS hv w
  by_cases h11 : n = 945
  · subst h11; exact w_945 S v hS hv w
  by_cases h12 : n = 946
  · subst h12; exact w_946 S v hS hv w
  by_cases h13 : n = 947
  · subst h13; exact w_947 S v hS hv w
  by_cases h14 : n = 948
  · subst h14; exact w_948 S v hS hv w
  by_cases h15 : n = 949
  · subst h15; exact w_949 S v hS hv w
  by_cases h16 : n = 950
  · subst h16; exact w_950 S v hS hv w
  by_cases h17 : n = 951
  · subst h17; exact w_951 S v hS hv w
  cases hf : fixB n with
  | true => exact w_ro S n v hS hv hf w
  | false =>
    by_cases hp : plK n = 38
    · exact w_none S n v hS hv h0 h1 h2 h3 h4 h5 h6 h7 h8 h9 h10 h11 h12 h13 h14 h15 h16 h17 hf hp w
    · cases hq : fitB n v with
      | false => exact w_unfit S n v hS hv h0 h1 h2 h3 h4 h5 h6 h7 h8 h9 h10 h11 h12 h13 h14 h15 h16 h17 hf hp hq w
      | true => exact w_fit S n v hS hv h0 h1 h2 h3 h4 h5 h6 h7 h8 h9 h10 h11 h12 h13 h14 h15 h16 h17 hf hp hq w
end Go.Proofs.Ytmlbobjbkbcabaa
