/- What a write leaves; the reference's Write. -/
import Derived.Test.YtmlbobjbkbcabaaB3
import Derived.Test.YtmlbobjbkbcabaaB4
namespace Go.Proofs.Ytmlbobjbkbcabaa
open Go.ChangeShapes Go.WideShapes Go.ChangeAt Go.RowKit P
set_option linter.unusedVariables false
set_option linter.unusedSimpArgs false
/-- What a write leaves. -/
def wrF (S : Nat → Nat) (n : Int) (v : Nat) : Nat → Nat :=
  if fixB n = true then S
  else if n = 1 then setN (setN S 21 (mixN (S 21) v 31)) 0 (stlN (S 0 ||| 24576))
  else if n = 2 then setN (setN S 21 (mixN (S 21) (v * 32 % 18446744073709551616) 224)) 0 (stlN (S 0 ||| 24576))
  else if n = 3 then setN (setN S 21 (v &&& 255)) 0 (stlN (S 0 ||| 24576))
  else if n = 256 then setN S 0 (stlN (mixN (S 0) v 811298))
  else if n = 768 then setN S 0 (stB (S 0) v)
  else if n = 260 then setN S 4 (mixN (S 4) v (S 3))
  else if n = 772 then setN S 4 (v &&& 2730)
  else if n = 324 then setN S 5 (mixN (S 5) v (2 &&& S 3))
  else if n = 836 then setN S 5 (mixN (S 5) v 546)
  else if n = 928 then setC S (cfgF (cfO S) v)
  else if 944 ≤ n ∧ n ≤ 951 then setA S (adrF (cfO S) (adO S) (n - 944).toNat v)
  else if plK n = 38 then S
  else if fitB n v = true then setN S (plK n) (v &&& lfM n) else S
def WR : List Int := [1, 2, 3, 256, 768, 260, 772, 324, 836, 928]
theorem and_ones_n (x : Nat) (hx : x < 18446744073709551616) : x &&& 18446744073709551615 = x := by
  rw [show (18446744073709551615 : Nat) = 2 ^ 64 - 1 from rfl, Nat.and_two_pow_sub_one_eq_mod, Nat.mod_eq_of_lt hx]
theorem wr_other (S : Nat → Nat) (n : Int) (v : Nat) (h0 : ¬ n = 1) (h1 : ¬ n = 2) (h2 : ¬ n = 3) (h3 : ¬ n = 256) (h4 : ¬ n = 260) (h5 : ¬ n = 261) (h6 : ¬ n = 262) (h7 : ¬ n = 320) (h8 : ¬ n = 321) (h9 : ¬ n = 322) (h10 : ¬ n = 323) (h11 : ¬ n = 324) (h12 : ¬ n = 384) (h13 : ¬ n = 768) (h14 : ¬ n = 770) (h15 : ¬ n = 771) (h16 : ¬ n = 772) (h17 : ¬ n = 773) (h18 : ¬ n = 774) (h19 : ¬ n = 800) (h20 : ¬ n = 832) (h21 : ¬ n = 833) (h22 : ¬ n = 834) (h23 : ¬ n = 835) (h24 : ¬ n = 836) (h25 : ¬ n = 928) (h26 : ¬ n = 2816) (h27 : ¬ n = 2818) (hp : ¬ (944 ≤ n ∧ n ≤ 951)) : wrF S n v = S := by
  unfold wrF
  cases hf : fixB n
  · have hpl : plK n = 38 := by
      have g1 : ¬ n = 3072 := fun e => by subst e; exact absurd hf (by decide)
      have g2 : ¬ n = 3074 := fun e => by subst e; exact absurd hf (by decide)
      unfold plK
      rw [if_neg h5, if_neg h6, if_neg h7, if_neg h8, if_neg h9, if_neg h10, if_neg h12, if_neg h14, if_neg h15, if_neg h17, if_neg h18, if_neg h19, if_neg h20, if_neg h21, if_neg h22, if_neg h23, if_neg (by omega), if_neg (by omega), if_neg (by omega), if_neg (by omega), if_neg (by omega), if_neg (by omega), if_neg (by omega), if_neg (by omega), if_neg h26, if_neg g1, if_neg h27, if_neg g2]
    rw [if_neg (by decide), if_neg h0, if_neg h1, if_neg h2, if_neg h3, if_neg h13, if_neg h4, if_neg h16, if_neg h11, if_neg h24, if_neg h25, if_neg hp, if_pos hpl]
  · rw [if_pos rfl]
set_option maxRecDepth 100000 in
theorem Write_256 (S : Nat → Nat) (v : Nat) (hS : Hid (OkS S)) (hv : Hid (v < 18446744073709551616)) (w : World) : Calls Try.prog 19 #[.agg (cs S), .int .i64 256, .int .u64 v] w (RetS (wrF S 256 v) w) := by
  have HW : Hid (wrF S 256 v = setN S 0 (stlN (mixN (S 0) v 811298))) := rfl
  have g0 : (cs S)[0]? = some (.int .u64 (S 0 : Nat)) := rfl
  have HM := Lib.hid (fun u => mixr_c (S 0) v 811298 (hS.out.u 0 (by decide)) hv (by show _ < _; decide) u)
  have HT := Lib.hid (fun u => settle_c (mixN (S 0) v 811298) (mix_lt _ _ _ (hS.out.u 0 (by decide)) hv.out) u)
  obtain ⟨m, hm⟩ : ∃ m, mixN (S 0) v 811298 = m := ⟨_, rfl⟩
  rw [hm] at HM HT HW
  clear hm
  obtain ⟨x, hx⟩ : ∃ x, stlN m = x := ⟨_, rfl⟩
  rw [hx] at HT HW
  have gs := cs_set S 0 x (by unfold isU; decide)
  obtain ⟨T, hT⟩ : ∃ T, setN S 0 x = T := ⟨_, rfl⟩
  rw [hT] at gs HW
  clear hx hS hv hT
  obtain ⟨R1, R2⟩ := two_rows w T Z38
  replace R1 := Lib.hid R1; replace R2 := Lib.hid R2
  have hB : Hid (Below w.heap.size w ((w.alloc (Obj.cells (cs T) 26)).alloc (Obj.cells (cs Z38) 26))) := by show Below _ _ _; exact (by repeat (first | (with_reducible first | exact Below.refl _ _ | assumption | exact Nat.le_refl _ | refine Below.drew ?_ | refine Below.alloc ?_ ?_ _ | refine Below.setCell ?_ ?_ _ | refine le_alloc ?_ | refine le_set ?_ | refine le_drew ?_ | refine below_step (by assumption) ?_ ?_ | refine le_below (by assumption) ?_) | (dsimp only; omega)))
  go_enter Try.func19, Try.ntmps19
  go_wp2_with fail
  refine (HM.out _).mono ?_; rintro e w1 ⟨rfl, h⟩; replace h := h.symm; subst h
  go_wp2_with fail
  refine (HT.out _).mono ?_; rintro e w1 ⟨rfl, h⟩; replace h := h.symm; subst h
  go_wp2_with (first
    | (refine wpList_load_row rfl 26 _ rfl w.heap.size rfl 26 (cs T) (0, 0) _ R1.out Try.underlying26 rfl (infoS _) ?_)
    | (refine wpList_store_row rfl 26 _ _ rfl (w.heap.size + 1) (cs T) rfl rfl 26 (cs Z38) R2.out (infoS _) rfl (oneS _) ?_))
  refine bodyPost_ret (results_cell_row rfl _ _ (w.heap.size + 1) 26 (cs T) (0, 0) _ rfl (R2.out.setRow _) Try.underlying26 rfl (infoS _)) rfl ?_
  exact ⟨by rw [HW.out], below_setRow hB.out (by omega) _⟩
set_option maxRecDepth 100000 in
theorem Write_260 (S : Nat → Nat) (v : Nat) (hS : Hid (OkS S)) (hv : Hid (v < 18446744073709551616)) (w : World) : Calls Try.prog 19 #[.agg (cs S), .int .i64 260, .int .u64 v] w (RetS (wrF S 260 v) w) := by
  have HW : Hid (wrF S 260 v = setN S 4 (mixN (S 4) v (S 3))) := rfl
  have g4 : (cs S)[4]? = some (.int .u64 (S 4 : Nat)) := rfl
  have g3 : (cs S)[3]? = some (.int .u64 (S 3 : Nat)) := rfl
  have HM := Lib.hid (fun u => mixr_c (S 4) v (S 3) (hS.out.u 4 (by decide)) hv (hS.out.u 3 (by decide)) u)
  obtain ⟨x, hx⟩ : ∃ x, mixN (S 4) v (S 3) = x := ⟨_, rfl⟩
  rw [hx] at HM HW
  have gs := cs_set S 4 x (by unfold isU; decide)
  obtain ⟨T, hT⟩ : ∃ T, setN S 4 x = T := ⟨_, rfl⟩
  rw [hT] at gs HW
  clear hx hS hv hT
  obtain ⟨R1, R2⟩ := two_rows w T Z38
  replace R1 := Lib.hid R1; replace R2 := Lib.hid R2
  have hB : Hid (Below w.heap.size w ((w.alloc (Obj.cells (cs T) 26)).alloc (Obj.cells (cs Z38) 26))) := by show Below _ _ _; exact (by repeat (first | (with_reducible first | exact Below.refl _ _ | assumption | exact Nat.le_refl _ | refine Below.drew ?_ | refine Below.alloc ?_ ?_ _ | refine Below.setCell ?_ ?_ _ | refine le_alloc ?_ | refine le_set ?_ | refine le_drew ?_ | refine below_step (by assumption) ?_ ?_ | refine le_below (by assumption) ?_) | (dsimp only; omega)))
  go_enter Try.func19, Try.ntmps19
  go_wp2_with fail
  refine (HM.out _).mono ?_; rintro e w1 ⟨rfl, h⟩; replace h := h.symm; subst h
  go_wp2_with (first
    | (refine wpList_load_row rfl 26 _ rfl w.heap.size rfl 26 (cs T) (0, 0) _ R1.out Try.underlying26 rfl (infoS _) ?_)
    | (refine wpList_store_row rfl 26 _ _ rfl (w.heap.size + 1) (cs T) rfl rfl 26 (cs Z38) R2.out (infoS _) rfl (oneS _) ?_))
  refine bodyPost_ret (results_cell_row rfl _ _ (w.heap.size + 1) 26 (cs T) (0, 0) _ rfl (R2.out.setRow _) Try.underlying26 rfl (infoS _)) rfl ?_
  exact ⟨by rw [HW.out], below_setRow hB.out (by omega) _⟩
set_option maxRecDepth 100000 in
theorem Write_261 (S : Nat → Nat) (v : Nat) (hS : Hid (OkS S)) (hv : Hid (v < 18446744073709551616)) (w : World) : Calls Try.prog 19 #[.agg (cs S), .int .i64 261, .int .u64 v] w (RetS (wrF S 261 v) w) := by
  have HW : Hid (wrF S 261 v = setN S 14 (v &&& 18446744073709551613)) := rfl
  have a1 : bits .andNot .u64 (v : Int) 2 = ((v &&& 18446744073709551613 : Nat) : Int) := u_andNot v 2 hv.out (by decide)
  obtain ⟨x, hx⟩ : ∃ x, v &&& 18446744073709551613 = x := ⟨_, rfl⟩
  rw [hx] at a1 HW
  have gs := cs_set S 14 x (by unfold isU; decide)
  obtain ⟨T, hT⟩ : ∃ T, setN S 14 x = T := ⟨_, rfl⟩
  rw [hT] at gs HW
  clear hx hS hv hT
  obtain ⟨R1, R2⟩ := two_rows w T Z38
  replace R1 := Lib.hid R1; replace R2 := Lib.hid R2
  have hB : Hid (Below w.heap.size w ((w.alloc (Obj.cells (cs T) 26)).alloc (Obj.cells (cs Z38) 26))) := by show Below _ _ _; exact (by repeat (first | (with_reducible first | exact Below.refl _ _ | assumption | exact Nat.le_refl _ | refine Below.drew ?_ | refine Below.alloc ?_ ?_ _ | refine Below.setCell ?_ ?_ _ | refine le_alloc ?_ | refine le_set ?_ | refine le_drew ?_ | refine below_step (by assumption) ?_ ?_ | refine le_below (by assumption) ?_) | (dsimp only; omega)))
  go_enter Try.func19, Try.ntmps19
  go_wp2_with (first
    | (refine wpList_load_row rfl 26 _ rfl w.heap.size rfl 26 (cs T) (0, 0) _ R1.out Try.underlying26 rfl (infoS _) ?_)
    | (refine wpList_store_row rfl 26 _ _ rfl (w.heap.size + 1) (cs T) rfl rfl 26 (cs Z38) R2.out (infoS _) rfl (oneS _) ?_))
  refine bodyPost_ret (results_cell_row rfl _ _ (w.heap.size + 1) 26 (cs T) (0, 0) _ rfl (R2.out.setRow _) Try.underlying26 rfl (infoS _)) rfl ?_
  exact ⟨by rw [HW.out], below_setRow hB.out (by omega) _⟩
set_option maxRecDepth 100000 in
theorem Write_262 (S : Nat → Nat) (v : Nat) (hS : Hid (OkS S)) (hv : Hid (v < 18446744073709551616)) (w : World) : Calls Try.prog 19 #[.agg (cs S), .int .i64 262, .int .u64 v] w (RetS (wrF S 262 v) w) := by
  have HW : Hid (wrF S 262 v = setN S 19 (v &&& 7)) := rfl
  have a1 : bits .and .u64 (v : Int) 7 = ((v &&& 7 : Nat) : Int) := u_and v 7 hv.out (by decide)
  obtain ⟨x, hx⟩ : ∃ x, v &&& 7 = x := ⟨_, rfl⟩
  rw [hx] at a1 HW
  have gs := cs_set S 19 x (by unfold isU; decide)
  obtain ⟨T, hT⟩ : ∃ T, setN S 19 x = T := ⟨_, rfl⟩
  rw [hT] at gs HW
  clear hx hS hv hT
  obtain ⟨R1, R2⟩ := two_rows w T Z38
  replace R1 := Lib.hid R1; replace R2 := Lib.hid R2
  have hB : Hid (Below w.heap.size w ((w.alloc (Obj.cells (cs T) 26)).alloc (Obj.cells (cs Z38) 26))) := by show Below _ _ _; exact (by repeat (first | (with_reducible first | exact Below.refl _ _ | assumption | exact Nat.le_refl _ | refine Below.drew ?_ | refine Below.alloc ?_ ?_ _ | refine Below.setCell ?_ ?_ _ | refine le_alloc ?_ | refine le_set ?_ | refine le_drew ?_ | refine below_step (by assumption) ?_ ?_ | refine le_below (by assumption) ?_) | (dsimp only; omega)))
  go_enter Try.func19, Try.ntmps19
  go_wp2_with (first
    | (refine wpList_load_row rfl 26 _ rfl w.heap.size rfl 26 (cs T) (0, 0) _ R1.out Try.underlying26 rfl (infoS _) ?_)
    | (refine wpList_store_row rfl 26 _ _ rfl (w.heap.size + 1) (cs T) rfl rfl 26 (cs Z38) R2.out (infoS _) rfl (oneS _) ?_))
  refine bodyPost_ret (results_cell_row rfl _ _ (w.heap.size + 1) 26 (cs T) (0, 0) _ rfl (R2.out.setRow _) Try.underlying26 rfl (infoS _)) rfl ?_
  exact ⟨by rw [HW.out], below_setRow hB.out (by omega) _⟩
set_option maxRecDepth 100000 in
theorem Write_320 (S : Nat → Nat) (v : Nat) (hS : Hid (OkS S)) (hv : Hid (v < 18446744073709551616)) (w : World) : Calls Try.prog 19 #[.agg (cs S), .int .i64 320, .int .u64 v] w (RetS (wrF S 320 v) w) := by
  have HW : Hid (wrF S 320 v = setN S 18 (v)) := by show setN S 18 (v &&& 18446744073709551615) = _; rw [and_ones_n v hv.out]
  have hx := hv.out
  have gs := cs_set S 18 v (by unfold isU; decide)
  obtain ⟨T, hT⟩ : ∃ T, setN S 18 v = T := ⟨_, rfl⟩
  rw [hT] at gs HW
  clear hx hS hv hT
  obtain ⟨R1, R2⟩ := two_rows w T Z38
  replace R1 := Lib.hid R1; replace R2 := Lib.hid R2
  have hB : Hid (Below w.heap.size w ((w.alloc (Obj.cells (cs T) 26)).alloc (Obj.cells (cs Z38) 26))) := by show Below _ _ _; exact (by repeat (first | (with_reducible first | exact Below.refl _ _ | assumption | exact Nat.le_refl _ | refine Below.drew ?_ | refine Below.alloc ?_ ?_ _ | refine Below.setCell ?_ ?_ _ | refine le_alloc ?_ | refine le_set ?_ | refine le_drew ?_ | refine below_step (by assumption) ?_ ?_ | refine le_below (by assumption) ?_) | (dsimp only; omega)))
  go_enter Try.func19, Try.ntmps19
  go_wp2_with (first
    | (refine wpList_load_row rfl 26 _ rfl w.heap.size rfl 26 (cs T) (0, 0) _ R1.out Try.underlying26 rfl (infoS _) ?_)
    | (refine wpList_store_row rfl 26 _ _ rfl (w.heap.size + 1) (cs T) rfl rfl 26 (cs Z38) R2.out (infoS _) rfl (oneS _) ?_))
  refine bodyPost_ret (results_cell_row rfl _ _ (w.heap.size + 1) 26 (cs T) (0, 0) _ rfl (R2.out.setRow _) Try.underlying26 rfl (infoS _)) rfl ?_
  exact ⟨by rw [HW.out], below_setRow hB.out (by omega) _⟩
set_option maxRecDepth 100000 in
theorem Write_321 (S : Nat → Nat) (v : Nat) (hS : Hid (OkS S)) (hv : Hid (v < 18446744073709551616)) (w : World) : Calls Try.prog 19 #[.agg (cs S), .int .i64 321, .int .u64 v] w (RetS (wrF S 321 v) w) := by
  have HW : Hid (wrF S 321 v = setN S 15 (v &&& 18446744073709551614)) := rfl
  have a1 : bits .andNot .u64 (v : Int) 1 = ((v &&& 18446744073709551614 : Nat) : Int) := u_andNot v 1 hv.out (by decide)
  obtain ⟨x, hx⟩ : ∃ x, v &&& 18446744073709551614 = x := ⟨_, rfl⟩
  rw [hx] at a1 HW
  have gs := cs_set S 15 x (by unfold isU; decide)
  obtain ⟨T, hT⟩ : ∃ T, setN S 15 x = T := ⟨_, rfl⟩
  rw [hT] at gs HW
  clear hx hS hv hT
  obtain ⟨R1, R2⟩ := two_rows w T Z38
  replace R1 := Lib.hid R1; replace R2 := Lib.hid R2
  have hB : Hid (Below w.heap.size w ((w.alloc (Obj.cells (cs T) 26)).alloc (Obj.cells (cs Z38) 26))) := by show Below _ _ _; exact (by repeat (first | (with_reducible first | exact Below.refl _ _ | assumption | exact Nat.le_refl _ | refine Below.drew ?_ | refine Below.alloc ?_ ?_ _ | refine Below.setCell ?_ ?_ _ | refine le_alloc ?_ | refine le_set ?_ | refine le_drew ?_ | refine below_step (by assumption) ?_ ?_ | refine le_below (by assumption) ?_) | (dsimp only; omega)))
  go_enter Try.func19, Try.ntmps19
  go_wp2_with (first
    | (refine wpList_load_row rfl 26 _ rfl w.heap.size rfl 26 (cs T) (0, 0) _ R1.out Try.underlying26 rfl (infoS _) ?_)
    | (refine wpList_store_row rfl 26 _ _ rfl (w.heap.size + 1) (cs T) rfl rfl 26 (cs Z38) R2.out (infoS _) rfl (oneS _) ?_))
  refine bodyPost_ret (results_cell_row rfl _ _ (w.heap.size + 1) 26 (cs T) (0, 0) _ rfl (R2.out.setRow _) Try.underlying26 rfl (infoS _)) rfl ?_
  exact ⟨by rw [HW.out], below_setRow hB.out (by omega) _⟩
set_option maxRecDepth 100000 in
theorem Write_322 (S : Nat → Nat) (v : Nat) (hS : Hid (OkS S)) (hv : Hid (v < 18446744073709551616)) (w : World) : Calls Try.prog 19 #[.agg (cs S), .int .i64 322, .int .u64 v] w (RetS (wrF S 322 v) w) := by
  have HW : Hid (wrF S 322 v = setN S 16 (v)) := by show setN S 16 (v &&& 18446744073709551615) = _; rw [and_ones_n v hv.out]
  have hx := hv.out
  have gs := cs_set S 16 v (by unfold isU; decide)
  obtain ⟨T, hT⟩ : ∃ T, setN S 16 v = T := ⟨_, rfl⟩
  rw [hT] at gs HW
  clear hx hS hv hT
  obtain ⟨R1, R2⟩ := two_rows w T Z38
  replace R1 := Lib.hid R1; replace R2 := Lib.hid R2
  have hB : Hid (Below w.heap.size w ((w.alloc (Obj.cells (cs T) 26)).alloc (Obj.cells (cs Z38) 26))) := by show Below _ _ _; exact (by repeat (first | (with_reducible first | exact Below.refl _ _ | assumption | exact Nat.le_refl _ | refine Below.drew ?_ | refine Below.alloc ?_ ?_ _ | refine Below.setCell ?_ ?_ _ | refine le_alloc ?_ | refine le_set ?_ | refine le_drew ?_ | refine below_step (by assumption) ?_ ?_ | refine le_below (by assumption) ?_) | (dsimp only; omega)))
  go_enter Try.func19, Try.ntmps19
  go_wp2_with (first
    | (refine wpList_load_row rfl 26 _ rfl w.heap.size rfl 26 (cs T) (0, 0) _ R1.out Try.underlying26 rfl (infoS _) ?_)
    | (refine wpList_store_row rfl 26 _ _ rfl (w.heap.size + 1) (cs T) rfl rfl 26 (cs Z38) R2.out (infoS _) rfl (oneS _) ?_))
  refine bodyPost_ret (results_cell_row rfl _ _ (w.heap.size + 1) 26 (cs T) (0, 0) _ rfl (R2.out.setRow _) Try.underlying26 rfl (infoS _)) rfl ?_
  exact ⟨by rw [HW.out], below_setRow hB.out (by omega) _⟩
set_option maxRecDepth 100000 in
theorem Write_323 (S : Nat → Nat) (v : Nat) (hS : Hid (OkS S)) (hv : Hid (v < 18446744073709551616)) (w : World) : Calls Try.prog 19 #[.agg (cs S), .int .i64 323, .int .u64 v] w (RetS (wrF S 323 v) w) := by
  have HW : Hid (wrF S 323 v = setN S 17 (v)) := by show setN S 17 (v &&& 18446744073709551615) = _; rw [and_ones_n v hv.out]
  have hx := hv.out
  have gs := cs_set S 17 v (by unfold isU; decide)
  obtain ⟨T, hT⟩ : ∃ T, setN S 17 v = T := ⟨_, rfl⟩
  rw [hT] at gs HW
  clear hx hS hv hT
  obtain ⟨R1, R2⟩ := two_rows w T Z38
  replace R1 := Lib.hid R1; replace R2 := Lib.hid R2
  have hB : Hid (Below w.heap.size w ((w.alloc (Obj.cells (cs T) 26)).alloc (Obj.cells (cs Z38) 26))) := by show Below _ _ _; exact (by repeat (first | (with_reducible first | exact Below.refl _ _ | assumption | exact Nat.le_refl _ | refine Below.drew ?_ | refine Below.alloc ?_ ?_ _ | refine Below.setCell ?_ ?_ _ | refine le_alloc ?_ | refine le_set ?_ | refine le_drew ?_ | refine below_step (by assumption) ?_ ?_ | refine le_below (by assumption) ?_) | (dsimp only; omega)))
  go_enter Try.func19, Try.ntmps19
  go_wp2_with (first
    | (refine wpList_load_row rfl 26 _ rfl w.heap.size rfl 26 (cs T) (0, 0) _ R1.out Try.underlying26 rfl (infoS _) ?_)
    | (refine wpList_store_row rfl 26 _ _ rfl (w.heap.size + 1) (cs T) rfl rfl 26 (cs Z38) R2.out (infoS _) rfl (oneS _) ?_))
  refine bodyPost_ret (results_cell_row rfl _ _ (w.heap.size + 1) 26 (cs T) (0, 0) _ rfl (R2.out.setRow _) Try.underlying26 rfl (infoS _)) rfl ?_
  exact ⟨by rw [HW.out], below_setRow hB.out (by omega) _⟩
set_option maxRecDepth 100000 in
theorem Write_324 (S : Nat → Nat) (v : Nat) (hS : Hid (OkS S)) (hv : Hid (v < 18446744073709551616)) (w : World) : Calls Try.prog 19 #[.agg (cs S), .int .i64 324, .int .u64 v] w (RetS (wrF S 324 v) w) := by
  have HW : Hid (wrF S 324 v = setN S 5 (mixN (S 5) v (2 &&& S 3))) := rfl
  have g5 : (cs S)[5]? = some (.int .u64 (S 5 : Nat)) := rfl
  have g3 : (cs S)[3]? = some (.int .u64 (S 3 : Nat)) := rfl
  have a2 : bits .and .u64 2 (S 3 : Int) = ((2 &&& S 3 : Nat) : Int) := u_and 2 (S 3) (by decide) (hS.out.u 3 (by decide))
  have HM := Lib.hid (fun u => mixr_c (S 5) v (2 &&& S 3) (hS.out.u 5 (by decide)) hv (and_lt 2 _ (by decide)) u)
  obtain ⟨q, hq⟩ : ∃ q, 2 &&& S 3 = q := ⟨_, rfl⟩
  rw [hq] at a2 HM HW
  clear hq
  obtain ⟨x, hx⟩ : ∃ x, mixN (S 5) v q = x := ⟨_, rfl⟩
  rw [hx] at HM HW
  have gs := cs_set S 5 x (by unfold isU; decide)
  obtain ⟨T, hT⟩ : ∃ T, setN S 5 x = T := ⟨_, rfl⟩
  rw [hT] at gs HW
  clear hx hS hv hT
  obtain ⟨R1, R2⟩ := two_rows w T Z38
  replace R1 := Lib.hid R1; replace R2 := Lib.hid R2
  have hB : Hid (Below w.heap.size w ((w.alloc (Obj.cells (cs T) 26)).alloc (Obj.cells (cs Z38) 26))) := by show Below _ _ _; exact (by repeat (first | (with_reducible first | exact Below.refl _ _ | assumption | exact Nat.le_refl _ | refine Below.drew ?_ | refine Below.alloc ?_ ?_ _ | refine Below.setCell ?_ ?_ _ | refine le_alloc ?_ | refine le_set ?_ | refine le_drew ?_ | refine below_step (by assumption) ?_ ?_ | refine le_below (by assumption) ?_) | (dsimp only; omega)))
  go_enter Try.func19, Try.ntmps19
  go_wp2_with fail
  refine (HM.out _).mono ?_; rintro e w1 ⟨rfl, h⟩; replace h := h.symm; subst h
  go_wp2_with (first
    | (refine wpList_load_row rfl 26 _ rfl w.heap.size rfl 26 (cs T) (0, 0) _ R1.out Try.underlying26 rfl (infoS _) ?_)
    | (refine wpList_store_row rfl 26 _ _ rfl (w.heap.size + 1) (cs T) rfl rfl 26 (cs Z38) R2.out (infoS _) rfl (oneS _) ?_))
  refine bodyPost_ret (results_cell_row rfl _ _ (w.heap.size + 1) 26 (cs T) (0, 0) _ rfl (R2.out.setRow _) Try.underlying26 rfl (infoS _)) rfl ?_
  exact ⟨by rw [HW.out], below_setRow hB.out (by omega) _⟩
theorem ext64 {x y : Nat} (hx : x < 18446744073709551616) (hy : y < 18446744073709551616) (h : ∀ i, i < 64 → x.testBit i = y.testBit i) : x = y := by
  apply Nat.eq_of_testBit_eq
  intro i
  by_cases hi : i < 64
  · exact h i hi
  · have hp : 2 ^ 64 ≤ 2 ^ i := Nat.pow_le_pow_right (by decide) (by omega)
    rw [Nat.testBit_lt_two_pow (Nat.lt_of_lt_of_le hx hp), Nat.testBit_lt_two_pow (Nat.lt_of_lt_of_le hy hp)]
theorem stl_congr {a b : Nat} (h : fldN a = fldN b) : stlN a = stlN b := by unfold stlN; rw [h]
theorem fld_1 (s v : Nat) : fldN (mixN s v 8282538) = fldN (mixN v s 6144) := by
  refine ext64 (fld_lt _) (fld_lt _) (fun i hi => ?_)
  unfold fldN mixN
  simp only [Nat.testBit_and, Nat.testBit_or]
  obtain ⟨j, rfl⟩ : ∃ j : Fin 64, j.val = i := ⟨⟨i, hi⟩, rfl⟩
  generalize s.testBit j.val = a
  generalize v.testBit j.val = b
  clear hi s v
  revert j a b
  decide +kernel
theorem fld_0 (s v : Nat) : fldN (mixN s v 8288682) = fldN v := by
  refine ext64 (fld_lt _) (fld_lt _) (fun i hi => ?_)
  unfold fldN mixN
  simp only [Nat.testBit_and, Nat.testBit_or]
  obtain ⟨j, rfl⟩ : ∃ j : Fin 64, j.val = i := ⟨⟨i, hi⟩, rfl⟩
  generalize s.testBit j.val = a
  generalize v.testBit j.val = b
  clear hi s v
  revert j a b
  decide +kernel
theorem stat_1 (s v : Nat) (h : (v &&& 6144 == 4096) = true) : stlN (mixN s v 8282538) = stB s v := by
  unfold stB; rw [h]; exact stl_congr (fld_1 s v)
theorem stat_0 (s v : Nat) (h : (v &&& 6144 == 4096) = false) : stlN (mixN s v 8288682) = stB s v := by
  unfold stB; rw [h]; exact stl_congr (fld_0 s v)
theorem mpp_2 (v : Nat) : (v &&& 6144 == 4096) = (v / 2048 &&& 3 == 2) := by
  have h1 : (v &&& 6144) / 2048 = v / 2048 &&& 3 := by
    rw [show (2048 : Nat) = 2 ^ 11 from rfl, Nat.and_div_two_pow]
  have h2 : (v &&& 6144) % 2048 = 0 := by
    rw [show (2048 : Nat) = 2 ^ 11 from rfl, ← Nat.and_two_pow_sub_one_eq_mod, Nat.and_assoc, show (6144 &&& 2 ^ 11 - 1 : Nat) = 0 by decide, Nat.and_zero]
  rw [← h1, Bool.eq_iff_iff, beq_iff_eq, beq_iff_eq]
  omega
theorem tst_2 (v : Nat) (hv : v < 18446744073709551616) : bits .and .u64 ((v : Int) / 2048) 3 = ((v / 2048 &&& 3 : Nat) : Int) := by
  have e0 : (v : Int) / 2048 = ((v / 2048 : Nat) : Int) := by omega
  rw [e0]; exact u_and _ 3 (by omega) (by decide)
set_option maxRecDepth 100000 in
theorem above_768_1 (S : Nat → Nat) (v : Nat) (hS : Hid (OkS S)) (hv : Hid (v < 18446744073709551616)) (h2 : (v &&& 6144 == 4096) = true) (w : World) : Calls Try.prog 43 #[.agg (cs S), .int .i64 768, .int .u64 v] w (RetS (wrF S 768 v) w) := by
  have HW : Hid (wrF S 768 v = setN S 0 (stB (S 0) v)) := rfl
  have g0 : (cs S)[0]? = some (.int .u64 (S 0 : Nat)) := rfl
  have HM := Lib.hid (fun u => mixr_c (S 0) v 8282538 (hS.out.u 0 (by decide)) hv (by show _ < _; decide) u)
  have HT := Lib.hid (fun u => settle_c (mixN (S 0) v 8282538) (mix_lt _ _ _ (hS.out.u 0 (by decide)) hv.out) u)
  rw [stat_1 (S 0) v h2] at HT
  have t1 := tst_2 v hv.out
  rw [mpp_2] at h2
  obtain ⟨q, hq⟩ : ∃ q, v / 2048 &&& 3 = q := ⟨_, rfl⟩
  rw [hq] at t1 h2
  have t2 : ((q : Int) == 2) = true := (cast_beq q 2).trans h2
  obtain ⟨m, hm⟩ : ∃ m, mixN (S 0) v 8282538 = m := ⟨_, rfl⟩
  rw [hm] at HM HT
  clear hm hq h2
  obtain ⟨x, hx⟩ : ∃ x, stB (S 0) v = x := ⟨_, rfl⟩
  rw [hx] at HT HW
  have gs := cs_set S 0 x (by unfold isU; decide)
  obtain ⟨T, hT⟩ : ∃ T, setN S 0 x = T := ⟨_, rfl⟩
  rw [hT] at gs HW
  clear hx hS hv hT
  obtain ⟨R1, R2⟩ := two_rows w T Z38
  replace R1 := Lib.hid R1; replace R2 := Lib.hid R2
  have hB : Hid (Below w.heap.size w ((w.alloc (Obj.cells (cs T) 26)).alloc (Obj.cells (cs Z38) 26))) := by show Below _ _ _; exact (by repeat (first | (with_reducible first | exact Below.refl _ _ | assumption | exact Nat.le_refl _ | refine Below.drew ?_ | refine Below.alloc ?_ ?_ _ | refine Below.setCell ?_ ?_ _ | refine le_alloc ?_ | refine le_set ?_ | refine le_drew ?_ | refine below_step (by assumption) ?_ ?_ | refine le_below (by assumption) ?_) | (dsimp only; omega)))
  go_enter Try.func43, Try.ntmps43
  go_wp2_with fail
  refine (HM.out _).mono ?_; rintro e w1 ⟨rfl, h⟩; replace h := h.symm; subst h
  go_wp2_with fail
  refine (HT.out _).mono ?_; rintro e w1 ⟨rfl, h⟩; replace h := h.symm; subst h
  go_wp2_with (first
    | (refine wpList_load_row rfl 26 _ rfl w.heap.size rfl 26 (cs T) (0, 0) _ R1.out Try.underlying26 rfl (infoS _) ?_)
    | (refine wpList_store_row rfl 26 _ _ rfl (w.heap.size + 1) (cs T) rfl rfl 26 (cs Z38) R2.out (infoS _) rfl (oneS _) ?_))
  refine bodyPost_ret (results_cell_row rfl _ _ (w.heap.size + 1) 26 (cs T) (0, 0) _ rfl (R2.out.setRow _) Try.underlying26 rfl (infoS _)) rfl ?_
  exact ⟨by rw [HW.out], below_setRow hB.out (by omega) _⟩
set_option maxRecDepth 100000 in
theorem above_768_0 (S : Nat → Nat) (v : Nat) (hS : Hid (OkS S)) (hv : Hid (v < 18446744073709551616)) (h2 : (v &&& 6144 == 4096) = false) (w : World) : Calls Try.prog 43 #[.agg (cs S), .int .i64 768, .int .u64 v] w (RetS (wrF S 768 v) w) := by
  have HW : Hid (wrF S 768 v = setN S 0 (stB (S 0) v)) := rfl
  have g0 : (cs S)[0]? = some (.int .u64 (S 0 : Nat)) := rfl
  have HM := Lib.hid (fun u => mixr_c (S 0) v 8288682 (hS.out.u 0 (by decide)) hv (by show _ < _; decide) u)
  have HT := Lib.hid (fun u => settle_c (mixN (S 0) v 8288682) (mix_lt _ _ _ (hS.out.u 0 (by decide)) hv.out) u)
  rw [stat_0 (S 0) v h2] at HT
  have t1 := tst_2 v hv.out
  rw [mpp_2] at h2
  obtain ⟨q, hq⟩ : ∃ q, v / 2048 &&& 3 = q := ⟨_, rfl⟩
  rw [hq] at t1 h2
  have t2 : ((q : Int) == 2) = false := (cast_beq q 2).trans h2
  obtain ⟨m, hm⟩ : ∃ m, mixN (S 0) v 8288682 = m := ⟨_, rfl⟩
  rw [hm] at HM HT
  clear hm hq h2
  obtain ⟨x, hx⟩ : ∃ x, stB (S 0) v = x := ⟨_, rfl⟩
  rw [hx] at HT HW
  have gs := cs_set S 0 x (by unfold isU; decide)
  obtain ⟨T, hT⟩ : ∃ T, setN S 0 x = T := ⟨_, rfl⟩
  rw [hT] at gs HW
  clear hx hS hv hT
  obtain ⟨R1, R2⟩ := two_rows w T Z38
  replace R1 := Lib.hid R1; replace R2 := Lib.hid R2
  have hB : Hid (Below w.heap.size w ((w.alloc (Obj.cells (cs T) 26)).alloc (Obj.cells (cs Z38) 26))) := by show Below _ _ _; exact (by repeat (first | (with_reducible first | exact Below.refl _ _ | assumption | exact Nat.le_refl _ | refine Below.drew ?_ | refine Below.alloc ?_ ?_ _ | refine Below.setCell ?_ ?_ _ | refine le_alloc ?_ | refine le_set ?_ | refine le_drew ?_ | refine below_step (by assumption) ?_ ?_ | refine le_below (by assumption) ?_) | (dsimp only; omega)))
  go_enter Try.func43, Try.ntmps43
  go_wp2_with fail
  refine (HM.out _).mono ?_; rintro e w1 ⟨rfl, h⟩; replace h := h.symm; subst h
  go_wp2_with fail
  refine (HT.out _).mono ?_; rintro e w1 ⟨rfl, h⟩; replace h := h.symm; subst h
  go_wp2_with (first
    | (refine wpList_load_row rfl 26 _ rfl w.heap.size rfl 26 (cs T) (0, 0) _ R1.out Try.underlying26 rfl (infoS _) ?_)
    | (refine wpList_store_row rfl 26 _ _ rfl (w.heap.size + 1) (cs T) rfl rfl 26 (cs Z38) R2.out (infoS _) rfl (oneS _) ?_))
  refine bodyPost_ret (results_cell_row rfl _ _ (w.heap.size + 1) 26 (cs T) (0, 0) _ rfl (R2.out.setRow _) Try.underlying26 rfl (infoS _)) rfl ?_
  exact ⟨by rw [HW.out], below_setRow hB.out (by omega) _⟩
theorem above_768 (S : Nat → Nat) (v : Nat) (hS : Hid (OkS S)) (hv : Hid (v < 18446744073709551616)) (w : World) : Calls Try.prog 43 #[.agg (cs S), .int .i64 768, .int .u64 v] w (RetS (wrF S 768 v) w) := by
  cases h : (v &&& 6144 == 4096)
  · exact above_768_0 S v hS hv h w
  · exact above_768_1 S v hS hv h w
set_option maxRecDepth 100000 in
theorem above_770 (S : Nat → Nat) (v : Nat) (hS : Hid (OkS S)) (hv : Hid (v < 18446744073709551616)) (w : World) : Calls Try.prog 43 #[.agg (cs S), .int .i64 770, .int .u64 v] w (RetS (wrF S 770 v) w) := by
  have HW : Hid (wrF S 770 v = setN S 2 (v &&& 46078)) := rfl
  have a1 : bits .and .u64 (v : Int) 46078 = ((v &&& 46078 : Nat) : Int) := u_and v 46078 hv.out (by decide)
  obtain ⟨x, hx⟩ : ∃ x, v &&& 46078 = x := ⟨_, rfl⟩
  rw [hx] at a1 HW
  have gs := cs_set S 2 x (by unfold isU; decide)
  obtain ⟨T, hT⟩ : ∃ T, setN S 2 x = T := ⟨_, rfl⟩
  rw [hT] at gs HW
  clear hx hS hv hT
  obtain ⟨R1, R2⟩ := two_rows w T Z38
  replace R1 := Lib.hid R1; replace R2 := Lib.hid R2
  have hB : Hid (Below w.heap.size w ((w.alloc (Obj.cells (cs T) 26)).alloc (Obj.cells (cs Z38) 26))) := by show Below _ _ _; exact (by repeat (first | (with_reducible first | exact Below.refl _ _ | assumption | exact Nat.le_refl _ | refine Below.drew ?_ | refine Below.alloc ?_ ?_ _ | refine Below.setCell ?_ ?_ _ | refine le_alloc ?_ | refine le_set ?_ | refine le_drew ?_ | refine below_step (by assumption) ?_ ?_ | refine le_below (by assumption) ?_) | (dsimp only; omega)))
  go_enter Try.func43, Try.ntmps43
  go_wp2_with (first
    | (refine wpList_load_row rfl 26 _ rfl w.heap.size rfl 26 (cs T) (0, 0) _ R1.out Try.underlying26 rfl (infoS _) ?_)
    | (refine wpList_store_row rfl 26 _ _ rfl (w.heap.size + 1) (cs T) rfl rfl 26 (cs Z38) R2.out (infoS _) rfl (oneS _) ?_))
  refine bodyPost_ret (results_cell_row rfl _ _ (w.heap.size + 1) 26 (cs T) (0, 0) _ rfl (R2.out.setRow _) Try.underlying26 rfl (infoS _)) rfl ?_
  exact ⟨by rw [HW.out], below_setRow hB.out (by omega) _⟩
set_option maxRecDepth 100000 in
theorem above_771 (S : Nat → Nat) (v : Nat) (hS : Hid (OkS S)) (hv : Hid (v < 18446744073709551616)) (w : World) : Calls Try.prog 43 #[.agg (cs S), .int .i64 771, .int .u64 v] w (RetS (wrF S 771 v) w) := by
  have HW : Hid (wrF S 771 v = setN S 3 (v &&& 546)) := rfl
  have a1 : bits .and .u64 (v : Int) 546 = ((v &&& 546 : Nat) : Int) := u_and v 546 hv.out (by decide)
  obtain ⟨x, hx⟩ : ∃ x, v &&& 546 = x := ⟨_, rfl⟩
  rw [hx] at a1 HW
  have gs := cs_set S 3 x (by unfold isU; decide)
  obtain ⟨T, hT⟩ : ∃ T, setN S 3 x = T := ⟨_, rfl⟩
  rw [hT] at gs HW
  clear hx hS hv hT
  obtain ⟨R1, R2⟩ := two_rows w T Z38
  replace R1 := Lib.hid R1; replace R2 := Lib.hid R2
  have hB : Hid (Below w.heap.size w ((w.alloc (Obj.cells (cs T) 26)).alloc (Obj.cells (cs Z38) 26))) := by show Below _ _ _; exact (by repeat (first | (with_reducible first | exact Below.refl _ _ | assumption | exact Nat.le_refl _ | refine Below.drew ?_ | refine Below.alloc ?_ ?_ _ | refine Below.setCell ?_ ?_ _ | refine le_alloc ?_ | refine le_set ?_ | refine le_drew ?_ | refine below_step (by assumption) ?_ ?_ | refine le_below (by assumption) ?_) | (dsimp only; omega)))
  go_enter Try.func43, Try.ntmps43
  go_wp2_with (first
    | (refine wpList_load_row rfl 26 _ rfl w.heap.size rfl 26 (cs T) (0, 0) _ R1.out Try.underlying26 rfl (infoS _) ?_)
    | (refine wpList_store_row rfl 26 _ _ rfl (w.heap.size + 1) (cs T) rfl rfl 26 (cs Z38) R2.out (infoS _) rfl (oneS _) ?_))
  refine bodyPost_ret (results_cell_row rfl _ _ (w.heap.size + 1) 26 (cs T) (0, 0) _ rfl (R2.out.setRow _) Try.underlying26 rfl (infoS _)) rfl ?_
  exact ⟨by rw [HW.out], below_setRow hB.out (by omega) _⟩
set_option maxRecDepth 100000 in
theorem above_772 (S : Nat → Nat) (v : Nat) (hS : Hid (OkS S)) (hv : Hid (v < 18446744073709551616)) (w : World) : Calls Try.prog 43 #[.agg (cs S), .int .i64 772, .int .u64 v] w (RetS (wrF S 772 v) w) := by
  have HW : Hid (wrF S 772 v = setN S 4 (v &&& 2730)) := rfl
  have a1 : bits .and .u64 (v : Int) 2730 = ((v &&& 2730 : Nat) : Int) := u_and v 2730 hv.out (by decide)
  obtain ⟨x, hx⟩ : ∃ x, v &&& 2730 = x := ⟨_, rfl⟩
  rw [hx] at a1 HW
  have gs := cs_set S 4 x (by unfold isU; decide)
  obtain ⟨T, hT⟩ : ∃ T, setN S 4 x = T := ⟨_, rfl⟩
  rw [hT] at gs HW
  clear hx hS hv hT
  obtain ⟨R1, R2⟩ := two_rows w T Z38
  replace R1 := Lib.hid R1; replace R2 := Lib.hid R2
  have hB : Hid (Below w.heap.size w ((w.alloc (Obj.cells (cs T) 26)).alloc (Obj.cells (cs Z38) 26))) := by show Below _ _ _; exact (by repeat (first | (with_reducible first | exact Below.refl _ _ | assumption | exact Nat.le_refl _ | refine Below.drew ?_ | refine Below.alloc ?_ ?_ _ | refine Below.setCell ?_ ?_ _ | refine le_alloc ?_ | refine le_set ?_ | refine le_drew ?_ | refine below_step (by assumption) ?_ ?_ | refine le_below (by assumption) ?_) | (dsimp only; omega)))
  go_enter Try.func43, Try.ntmps43
  go_wp2_with (first
    | (refine wpList_load_row rfl 26 _ rfl w.heap.size rfl 26 (cs T) (0, 0) _ R1.out Try.underlying26 rfl (infoS _) ?_)
    | (refine wpList_store_row rfl 26 _ _ rfl (w.heap.size + 1) (cs T) rfl rfl 26 (cs Z38) R2.out (infoS _) rfl (oneS _) ?_))
  refine bodyPost_ret (results_cell_row rfl _ _ (w.heap.size + 1) 26 (cs T) (0, 0) _ rfl (R2.out.setRow _) Try.underlying26 rfl (infoS _)) rfl ?_
  exact ⟨by rw [HW.out], below_setRow hB.out (by omega) _⟩
set_option maxRecDepth 100000 in
theorem above_773 (S : Nat → Nat) (v : Nat) (hS : Hid (OkS S)) (hv : Hid (v < 18446744073709551616)) (w : World) : Calls Try.prog 43 #[.agg (cs S), .int .i64 773, .int .u64 v] w (RetS (wrF S 773 v) w) := by
  have HW : Hid (wrF S 773 v = setN S 1 (v &&& 18446744073709551613)) := rfl
  have a1 : bits .andNot .u64 (v : Int) 2 = ((v &&& 18446744073709551613 : Nat) : Int) := u_andNot v 2 hv.out (by decide)
  obtain ⟨x, hx⟩ : ∃ x, v &&& 18446744073709551613 = x := ⟨_, rfl⟩
  rw [hx] at a1 HW
  have gs := cs_set S 1 x (by unfold isU; decide)
  obtain ⟨T, hT⟩ : ∃ T, setN S 1 x = T := ⟨_, rfl⟩
  rw [hT] at gs HW
  clear hx hS hv hT
  obtain ⟨R1, R2⟩ := two_rows w T Z38
  replace R1 := Lib.hid R1; replace R2 := Lib.hid R2
  have hB : Hid (Below w.heap.size w ((w.alloc (Obj.cells (cs T) 26)).alloc (Obj.cells (cs Z38) 26))) := by show Below _ _ _; exact (by repeat (first | (with_reducible first | exact Below.refl _ _ | assumption | exact Nat.le_refl _ | refine Below.drew ?_ | refine Below.alloc ?_ ?_ _ | refine Below.setCell ?_ ?_ _ | refine le_alloc ?_ | refine le_set ?_ | refine le_drew ?_ | refine below_step (by assumption) ?_ ?_ | refine le_below (by assumption) ?_) | (dsimp only; omega)))
  go_enter Try.func43, Try.ntmps43
  go_wp2_with (first
    | (refine wpList_load_row rfl 26 _ rfl w.heap.size rfl 26 (cs T) (0, 0) _ R1.out Try.underlying26 rfl (infoS _) ?_)
    | (refine wpList_store_row rfl 26 _ _ rfl (w.heap.size + 1) (cs T) rfl rfl 26 (cs Z38) R2.out (infoS _) rfl (oneS _) ?_))
  refine bodyPost_ret (results_cell_row rfl _ _ (w.heap.size + 1) 26 (cs T) (0, 0) _ rfl (R2.out.setRow _) Try.underlying26 rfl (infoS _)) rfl ?_
  exact ⟨by rw [HW.out], below_setRow hB.out (by omega) _⟩
set_option maxRecDepth 100000 in
theorem above_774 (S : Nat → Nat) (v : Nat) (hS : Hid (OkS S)) (hv : Hid (v < 18446744073709551616)) (w : World) : Calls Try.prog 43 #[.agg (cs S), .int .i64 774, .int .u64 v] w (RetS (wrF S 774 v) w) := by
  have HW : Hid (wrF S 774 v = setN S 10 (v &&& 7)) := rfl
  have a1 : bits .and .u64 (v : Int) 7 = ((v &&& 7 : Nat) : Int) := u_and v 7 hv.out (by decide)
  obtain ⟨x, hx⟩ : ∃ x, v &&& 7 = x := ⟨_, rfl⟩
  rw [hx] at a1 HW
  have gs := cs_set S 10 x (by unfold isU; decide)
  obtain ⟨T, hT⟩ : ∃ T, setN S 10 x = T := ⟨_, rfl⟩
  rw [hT] at gs HW
  clear hx hS hv hT
  obtain ⟨R1, R2⟩ := two_rows w T Z38
  replace R1 := Lib.hid R1; replace R2 := Lib.hid R2
  have hB : Hid (Below w.heap.size w ((w.alloc (Obj.cells (cs T) 26)).alloc (Obj.cells (cs Z38) 26))) := by show Below _ _ _; exact (by repeat (first | (with_reducible first | exact Below.refl _ _ | assumption | exact Nat.le_refl _ | refine Below.drew ?_ | refine Below.alloc ?_ ?_ _ | refine Below.setCell ?_ ?_ _ | refine le_alloc ?_ | refine le_set ?_ | refine le_drew ?_ | refine below_step (by assumption) ?_ ?_ | refine le_below (by assumption) ?_) | (dsimp only; omega)))
  go_enter Try.func43, Try.ntmps43
  go_wp2_with (first
    | (refine wpList_load_row rfl 26 _ rfl w.heap.size rfl 26 (cs T) (0, 0) _ R1.out Try.underlying26 rfl (infoS _) ?_)
    | (refine wpList_store_row rfl 26 _ _ rfl (w.heap.size + 1) (cs T) rfl rfl 26 (cs Z38) R2.out (infoS _) rfl (oneS _) ?_))
  refine bodyPost_ret (results_cell_row rfl _ _ (w.heap.size + 1) 26 (cs T) (0, 0) _ rfl (R2.out.setRow _) Try.underlying26 rfl (infoS _)) rfl ?_
  exact ⟨by rw [HW.out], below_setRow hB.out (by omega) _⟩
set_option maxRecDepth 100000 in
theorem above_800 (S : Nat → Nat) (v : Nat) (hS : Hid (OkS S)) (hv : Hid (v < 18446744073709551616)) (w : World) : Calls Try.prog 43 #[.agg (cs S), .int .i64 800, .int .u64 v] w (RetS (wrF S 800 v) w) := by
  have HW : Hid (wrF S 800 v = setN S 11 (v &&& 5)) := rfl
  have a1 : bits .and .u64 (v : Int) 5 = ((v &&& 5 : Nat) : Int) := u_and v 5 hv.out (by decide)
  obtain ⟨x, hx⟩ : ∃ x, v &&& 5 = x := ⟨_, rfl⟩
  rw [hx] at a1 HW
  have gs := cs_set S 11 x (by unfold isU; decide)
  obtain ⟨T, hT⟩ : ∃ T, setN S 11 x = T := ⟨_, rfl⟩
  rw [hT] at gs HW
  clear hx hS hv hT
  obtain ⟨R1, R2⟩ := two_rows w T Z38
  replace R1 := Lib.hid R1; replace R2 := Lib.hid R2
  have hB : Hid (Below w.heap.size w ((w.alloc (Obj.cells (cs T) 26)).alloc (Obj.cells (cs Z38) 26))) := by show Below _ _ _; exact (by repeat (first | (with_reducible first | exact Below.refl _ _ | assumption | exact Nat.le_refl _ | refine Below.drew ?_ | refine Below.alloc ?_ ?_ _ | refine Below.setCell ?_ ?_ _ | refine le_alloc ?_ | refine le_set ?_ | refine le_drew ?_ | refine below_step (by assumption) ?_ ?_ | refine le_below (by assumption) ?_) | (dsimp only; omega)))
  go_enter Try.func43, Try.ntmps43
  go_wp2_with (first
    | (refine wpList_load_row rfl 26 _ rfl w.heap.size rfl 26 (cs T) (0, 0) _ R1.out Try.underlying26 rfl (infoS _) ?_)
    | (refine wpList_store_row rfl 26 _ _ rfl (w.heap.size + 1) (cs T) rfl rfl 26 (cs Z38) R2.out (infoS _) rfl (oneS _) ?_))
  refine bodyPost_ret (results_cell_row rfl _ _ (w.heap.size + 1) 26 (cs T) (0, 0) _ rfl (R2.out.setRow _) Try.underlying26 rfl (infoS _)) rfl ?_
  exact ⟨by rw [HW.out], below_setRow hB.out (by omega) _⟩
set_option maxRecDepth 100000 in
theorem above_832 (S : Nat → Nat) (v : Nat) (hS : Hid (OkS S)) (hv : Hid (v < 18446744073709551616)) (w : World) : Calls Try.prog 43 #[.agg (cs S), .int .i64 832, .int .u64 v] w (RetS (wrF S 832 v) w) := by
  have HW : Hid (wrF S 832 v = setN S 9 (v)) := by show setN S 9 (v &&& 18446744073709551615) = _; rw [and_ones_n v hv.out]
  have hx := hv.out
  have gs := cs_set S 9 v (by unfold isU; decide)
  obtain ⟨T, hT⟩ : ∃ T, setN S 9 v = T := ⟨_, rfl⟩
  rw [hT] at gs HW
  clear hx hS hv hT
  obtain ⟨R1, R2⟩ := two_rows w T Z38
  replace R1 := Lib.hid R1; replace R2 := Lib.hid R2
  have hB : Hid (Below w.heap.size w ((w.alloc (Obj.cells (cs T) 26)).alloc (Obj.cells (cs Z38) 26))) := by show Below _ _ _; exact (by repeat (first | (with_reducible first | exact Below.refl _ _ | assumption | exact Nat.le_refl _ | refine Below.drew ?_ | refine Below.alloc ?_ ?_ _ | refine Below.setCell ?_ ?_ _ | refine le_alloc ?_ | refine le_set ?_ | refine le_drew ?_ | refine below_step (by assumption) ?_ ?_ | refine le_below (by assumption) ?_) | (dsimp only; omega)))
  go_enter Try.func43, Try.ntmps43
  go_wp2_with (first
    | (refine wpList_load_row rfl 26 _ rfl w.heap.size rfl 26 (cs T) (0, 0) _ R1.out Try.underlying26 rfl (infoS _) ?_)
    | (refine wpList_store_row rfl 26 _ _ rfl (w.heap.size + 1) (cs T) rfl rfl 26 (cs Z38) R2.out (infoS _) rfl (oneS _) ?_))
  refine bodyPost_ret (results_cell_row rfl _ _ (w.heap.size + 1) 26 (cs T) (0, 0) _ rfl (R2.out.setRow _) Try.underlying26 rfl (infoS _)) rfl ?_
  exact ⟨by rw [HW.out], below_setRow hB.out (by omega) _⟩
set_option maxRecDepth 100000 in
theorem above_833 (S : Nat → Nat) (v : Nat) (hS : Hid (OkS S)) (hv : Hid (v < 18446744073709551616)) (w : World) : Calls Try.prog 43 #[.agg (cs S), .int .i64 833, .int .u64 v] w (RetS (wrF S 833 v) w) := by
  have HW : Hid (wrF S 833 v = setN S 6 (v &&& 18446744073709551614)) := rfl
  have a1 : bits .andNot .u64 (v : Int) 1 = ((v &&& 18446744073709551614 : Nat) : Int) := u_andNot v 1 hv.out (by decide)
  obtain ⟨x, hx⟩ : ∃ x, v &&& 18446744073709551614 = x := ⟨_, rfl⟩
  rw [hx] at a1 HW
  have gs := cs_set S 6 x (by unfold isU; decide)
  obtain ⟨T, hT⟩ : ∃ T, setN S 6 x = T := ⟨_, rfl⟩
  rw [hT] at gs HW
  clear hx hS hv hT
  obtain ⟨R1, R2⟩ := two_rows w T Z38
  replace R1 := Lib.hid R1; replace R2 := Lib.hid R2
  have hB : Hid (Below w.heap.size w ((w.alloc (Obj.cells (cs T) 26)).alloc (Obj.cells (cs Z38) 26))) := by show Below _ _ _; exact (by repeat (first | (with_reducible first | exact Below.refl _ _ | assumption | exact Nat.le_refl _ | refine Below.drew ?_ | refine Below.alloc ?_ ?_ _ | refine Below.setCell ?_ ?_ _ | refine le_alloc ?_ | refine le_set ?_ | refine le_drew ?_ | refine below_step (by assumption) ?_ ?_ | refine le_below (by assumption) ?_) | (dsimp only; omega)))
  go_enter Try.func43, Try.ntmps43
  go_wp2_with (first
    | (refine wpList_load_row rfl 26 _ rfl w.heap.size rfl 26 (cs T) (0, 0) _ R1.out Try.underlying26 rfl (infoS _) ?_)
    | (refine wpList_store_row rfl 26 _ _ rfl (w.heap.size + 1) (cs T) rfl rfl 26 (cs Z38) R2.out (infoS _) rfl (oneS _) ?_))
  refine bodyPost_ret (results_cell_row rfl _ _ (w.heap.size + 1) 26 (cs T) (0, 0) _ rfl (R2.out.setRow _) Try.underlying26 rfl (infoS _)) rfl ?_
  exact ⟨by rw [HW.out], below_setRow hB.out (by omega) _⟩
set_option maxRecDepth 100000 in
theorem above_834 (S : Nat → Nat) (v : Nat) (hS : Hid (OkS S)) (hv : Hid (v < 18446744073709551616)) (w : World) : Calls Try.prog 43 #[.agg (cs S), .int .i64 834, .int .u64 v] w (RetS (wrF S 834 v) w) := by
  have HW : Hid (wrF S 834 v = setN S 7 (v)) := by show setN S 7 (v &&& 18446744073709551615) = _; rw [and_ones_n v hv.out]
  have hx := hv.out
  have gs := cs_set S 7 v (by unfold isU; decide)
  obtain ⟨T, hT⟩ : ∃ T, setN S 7 v = T := ⟨_, rfl⟩
  rw [hT] at gs HW
  clear hx hS hv hT
  obtain ⟨R1, R2⟩ := two_rows w T Z38
  replace R1 := Lib.hid R1; replace R2 := Lib.hid R2
  have hB : Hid (Below w.heap.size w ((w.alloc (Obj.cells (cs T) 26)).alloc (Obj.cells (cs Z38) 26))) := by show Below _ _ _; exact (by repeat (first | (with_reducible first | exact Below.refl _ _ | assumption | exact Nat.le_refl _ | refine Below.drew ?_ | refine Below.alloc ?_ ?_ _ | refine Below.setCell ?_ ?_ _ | refine le_alloc ?_ | refine le_set ?_ | refine le_drew ?_ | refine below_step (by assumption) ?_ ?_ | refine le_below (by assumption) ?_) | (dsimp only; omega)))
  go_enter Try.func43, Try.ntmps43
  go_wp2_with (first
    | (refine wpList_load_row rfl 26 _ rfl w.heap.size rfl 26 (cs T) (0, 0) _ R1.out Try.underlying26 rfl (infoS _) ?_)
    | (refine wpList_store_row rfl 26 _ _ rfl (w.heap.size + 1) (cs T) rfl rfl 26 (cs Z38) R2.out (infoS _) rfl (oneS _) ?_))
  refine bodyPost_ret (results_cell_row rfl _ _ (w.heap.size + 1) 26 (cs T) (0, 0) _ rfl (R2.out.setRow _) Try.underlying26 rfl (infoS _)) rfl ?_
  exact ⟨by rw [HW.out], below_setRow hB.out (by omega) _⟩
set_option maxRecDepth 100000 in
theorem above_835 (S : Nat → Nat) (v : Nat) (hS : Hid (OkS S)) (hv : Hid (v < 18446744073709551616)) (w : World) : Calls Try.prog 43 #[.agg (cs S), .int .i64 835, .int .u64 v] w (RetS (wrF S 835 v) w) := by
  have HW : Hid (wrF S 835 v = setN S 8 (v)) := by show setN S 8 (v &&& 18446744073709551615) = _; rw [and_ones_n v hv.out]
  have hx := hv.out
  have gs := cs_set S 8 v (by unfold isU; decide)
  obtain ⟨T, hT⟩ : ∃ T, setN S 8 v = T := ⟨_, rfl⟩
  rw [hT] at gs HW
  clear hx hS hv hT
  obtain ⟨R1, R2⟩ := two_rows w T Z38
  replace R1 := Lib.hid R1; replace R2 := Lib.hid R2
  have hB : Hid (Below w.heap.size w ((w.alloc (Obj.cells (cs T) 26)).alloc (Obj.cells (cs Z38) 26))) := by show Below _ _ _; exact (by repeat (first | (with_reducible first | exact Below.refl _ _ | assumption | exact Nat.le_refl _ | refine Below.drew ?_ | refine Below.alloc ?_ ?_ _ | refine Below.setCell ?_ ?_ _ | refine le_alloc ?_ | refine le_set ?_ | refine le_drew ?_ | refine below_step (by assumption) ?_ ?_ | refine le_below (by assumption) ?_) | (dsimp only; omega)))
  go_enter Try.func43, Try.ntmps43
  go_wp2_with (first
    | (refine wpList_load_row rfl 26 _ rfl w.heap.size rfl 26 (cs T) (0, 0) _ R1.out Try.underlying26 rfl (infoS _) ?_)
    | (refine wpList_store_row rfl 26 _ _ rfl (w.heap.size + 1) (cs T) rfl rfl 26 (cs Z38) R2.out (infoS _) rfl (oneS _) ?_))
  refine bodyPost_ret (results_cell_row rfl _ _ (w.heap.size + 1) 26 (cs T) (0, 0) _ rfl (R2.out.setRow _) Try.underlying26 rfl (infoS _)) rfl ?_
  exact ⟨by rw [HW.out], below_setRow hB.out (by omega) _⟩
set_option maxRecDepth 100000 in
theorem above_836 (S : Nat → Nat) (v : Nat) (hS : Hid (OkS S)) (hv : Hid (v < 18446744073709551616)) (w : World) : Calls Try.prog 43 #[.agg (cs S), .int .i64 836, .int .u64 v] w (RetS (wrF S 836 v) w) := by
  have HW : Hid (wrF S 836 v = setN S 5 (mixN (S 5) v 546)) := rfl
  have g5 : (cs S)[5]? = some (.int .u64 (S 5 : Nat)) := rfl
  have HM := Lib.hid (fun u => mixr_c (S 5) v 546 (hS.out.u 5 (by decide)) hv (by show _ < _; decide) u)
  obtain ⟨x, hx⟩ : ∃ x, mixN (S 5) v 546 = x := ⟨_, rfl⟩
  rw [hx] at HM HW
  have gs := cs_set S 5 x (by unfold isU; decide)
  obtain ⟨T, hT⟩ : ∃ T, setN S 5 x = T := ⟨_, rfl⟩
  rw [hT] at gs HW
  clear hx hS hv hT
  obtain ⟨R1, R2⟩ := two_rows w T Z38
  replace R1 := Lib.hid R1; replace R2 := Lib.hid R2
  have hB : Hid (Below w.heap.size w ((w.alloc (Obj.cells (cs T) 26)).alloc (Obj.cells (cs Z38) 26))) := by show Below _ _ _; exact (by repeat (first | (with_reducible first | exact Below.refl _ _ | assumption | exact Nat.le_refl _ | refine Below.drew ?_ | refine Below.alloc ?_ ?_ _ | refine Below.setCell ?_ ?_ _ | refine le_alloc ?_ | refine le_set ?_ | refine le_drew ?_ | refine below_step (by assumption) ?_ ?_ | refine le_below (by assumption) ?_) | (dsimp only; omega)))
  go_enter Try.func43, Try.ntmps43
  go_wp2_with fail
  refine (HM.out _).mono ?_; rintro e w1 ⟨rfl, h⟩; replace h := h.symm; subst h
  go_wp2_with (first
    | (refine wpList_load_row rfl 26 _ rfl w.heap.size rfl 26 (cs T) (0, 0) _ R1.out Try.underlying26 rfl (infoS _) ?_)
    | (refine wpList_store_row rfl 26 _ _ rfl (w.heap.size + 1) (cs T) rfl rfl 26 (cs Z38) R2.out (infoS _) rfl (oneS _) ?_))
  refine bodyPost_ret (results_cell_row rfl _ _ (w.heap.size + 1) 26 (cs T) (0, 0) _ rfl (R2.out.setRow _) Try.underlying26 rfl (infoS _)) rfl ?_
  exact ⟨by rw [HW.out], below_setRow hB.out (by omega) _⟩
set_option maxRecDepth 100000 in
theorem above_2816 (S : Nat → Nat) (v : Nat) (hS : Hid (OkS S)) (hv : Hid (v < 18446744073709551616)) (w : World) : Calls Try.prog 43 #[.agg (cs S), .int .i64 2816, .int .u64 v] w (RetS (wrF S 2816 v) w) := by
  have HW : Hid (wrF S 2816 v = setN S 12 (v)) := by show setN S 12 (v &&& 18446744073709551615) = _; rw [and_ones_n v hv.out]
  have hx := hv.out
  have gs := cs_set S 12 v (by unfold isU; decide)
  obtain ⟨T, hT⟩ : ∃ T, setN S 12 v = T := ⟨_, rfl⟩
  rw [hT] at gs HW
  clear hx hS hv hT
  obtain ⟨R1, R2⟩ := two_rows w T Z38
  replace R1 := Lib.hid R1; replace R2 := Lib.hid R2
  have hB : Hid (Below w.heap.size w ((w.alloc (Obj.cells (cs T) 26)).alloc (Obj.cells (cs Z38) 26))) := by show Below _ _ _; exact (by repeat (first | (with_reducible first | exact Below.refl _ _ | assumption | exact Nat.le_refl _ | refine Below.drew ?_ | refine Below.alloc ?_ ?_ _ | refine Below.setCell ?_ ?_ _ | refine le_alloc ?_ | refine le_set ?_ | refine le_drew ?_ | refine below_step (by assumption) ?_ ?_ | refine le_below (by assumption) ?_) | (dsimp only; omega)))
  go_enter Try.func43, Try.ntmps43
  go_wp2_with (first
    | (refine wpList_load_row rfl 26 _ rfl w.heap.size rfl 26 (cs T) (0, 0) _ R1.out Try.underlying26 rfl (infoS _) ?_)
    | (refine wpList_store_row rfl 26 _ _ rfl (w.heap.size + 1) (cs T) rfl rfl 26 (cs Z38) R2.out (infoS _) rfl (oneS _) ?_))
  refine bodyPost_ret (results_cell_row rfl _ _ (w.heap.size + 1) 26 (cs T) (0, 0) _ rfl (R2.out.setRow _) Try.underlying26 rfl (infoS _)) rfl ?_
  exact ⟨by rw [HW.out], below_setRow hB.out (by omega) _⟩
set_option maxRecDepth 100000 in
theorem above_2818 (S : Nat → Nat) (v : Nat) (hS : Hid (OkS S)) (hv : Hid (v < 18446744073709551616)) (w : World) : Calls Try.prog 43 #[.agg (cs S), .int .i64 2818, .int .u64 v] w (RetS (wrF S 2818 v) w) := by
  have HW : Hid (wrF S 2818 v = setN S 13 (v)) := by show setN S 13 (v &&& 18446744073709551615) = _; rw [and_ones_n v hv.out]
  have hx := hv.out
  have gs := cs_set S 13 v (by unfold isU; decide)
  obtain ⟨T, hT⟩ : ∃ T, setN S 13 v = T := ⟨_, rfl⟩
  rw [hT] at gs HW
  clear hx hS hv hT
  obtain ⟨R1, R2⟩ := two_rows w T Z38
  replace R1 := Lib.hid R1; replace R2 := Lib.hid R2
  have hB : Hid (Below w.heap.size w ((w.alloc (Obj.cells (cs T) 26)).alloc (Obj.cells (cs Z38) 26))) := by show Below _ _ _; exact (by repeat (first | (with_reducible first | exact Below.refl _ _ | assumption | exact Nat.le_refl _ | refine Below.drew ?_ | refine Below.alloc ?_ ?_ _ | refine Below.setCell ?_ ?_ _ | refine le_alloc ?_ | refine le_set ?_ | refine le_drew ?_ | refine below_step (by assumption) ?_ ?_ | refine le_below (by assumption) ?_) | (dsimp only; omega)))
  go_enter Try.func43, Try.ntmps43
  go_wp2_with (first
    | (refine wpList_load_row rfl 26 _ rfl w.heap.size rfl 26 (cs T) (0, 0) _ R1.out Try.underlying26 rfl (infoS _) ?_)
    | (refine wpList_store_row rfl 26 _ _ rfl (w.heap.size + 1) (cs T) rfl rfl 26 (cs Z38) R2.out (infoS _) rfl (oneS _) ?_))
  refine bodyPost_ret (results_cell_row rfl _ _ (w.heap.size + 1) 26 (cs T) (0, 0) _ rfl (R2.out.setRow _) Try.underlying26 rfl (infoS _)) rfl ?_
  exact ⟨by rw [HW.out], below_setRow hB.out (by omega) _⟩
end Go.Proofs.Ytmlbobjbkbcabaa
