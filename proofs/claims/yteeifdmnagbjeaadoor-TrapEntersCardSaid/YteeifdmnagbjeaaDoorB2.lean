/- fieldsOf, entered, left. -/
import Derived.Test.YteeifdmnagbjeaaDoorB1
namespace Go.Proofs.YteeifdmnagbjeaaDoor
open Go.ChangeShapes Go.WideShapes Go.ChangeAt Go.RowKit Go.Sort Y
set_option linter.unusedVariables false
set_option linter.unusedSimpArgs false

/-- What a call returns. -/
def RetV (v : Value) (W : World) (e : Ending) (w' : World) : Prop := e = .returned v ∧ Below W.heap.size W w'

theorem fieldsOf_3 (w : World) : Calls Tryd.prog 17 #[.int .i64 3] w (RetV (.agg #[.int .u64 8, .int .u64 128, .int .u64 6144, .int .i64 11]) w) := by
  go_enter Tryd.func17, Tryd.ntmps17
  go_wp2_with fail
  refine bodyPost_ret (results_cell_row rfl _ _ w.heap.size 44 #[.int .u64 8, .int .u64 128, .int .u64 6144, .int .i64 11] (0, 0) _ rfl (row_new _ _ _) Tryd.underlying44 rfl (by kernel_rfl)) rfl ?_
  exact ⟨rfl, by exact (by repeat (first | (with_reducible first | exact Below.refl _ _ | assumption | exact Nat.le_refl _ | refine Below.drew ?_ | refine Below.alloc ?_ ?_ _ | refine Below.setCell ?_ ?_ _ | refine le_alloc ?_ | refine le_set ?_ | refine le_drew ?_ | refine below_step (by assumption) ?_ ?_ | refine le_below (by assumption) ?_) | (dsimp only; omega)))⟩
theorem fieldsOf_1 (w : World) : Calls Tryd.prog 17 #[.int .i64 1] w (RetV (.agg #[.int .u64 2, .int .u64 32, .int .u64 256, .int .i64 8]) w) := by
  go_enter Tryd.func17, Tryd.ntmps17
  go_wp2_with fail
  refine bodyPost_ret (results_cell_row rfl _ _ w.heap.size 44 #[.int .u64 2, .int .u64 32, .int .u64 256, .int .i64 8] (0, 0) _ rfl (row_new _ _ _) Tryd.underlying44 rfl (by kernel_rfl)) rfl ?_
  exact ⟨rfl, by exact (by repeat (first | (with_reducible first | exact Below.refl _ _ | assumption | exact Nat.le_refl _ | refine Below.drew ?_ | refine Below.alloc ?_ ?_ _ | refine Below.setCell ?_ ?_ _ | refine le_alloc ?_ | refine le_set ?_ | refine le_drew ?_ | refine below_step (by assumption) ?_ ?_ | refine le_below (by assumption) ?_) | (dsimp only; omega)))⟩
theorem retU_mk {a : Int} {b : Nat} {W w' : World} (h : a = b) (hb : Below W.heap.size W w') : RetU b W (.returned (.int .u64 a)) w' := ⟨by rw [h], hb⟩
/-- Mstatus behind a trap into M out of the mode m; into S. -/
def eM (s m : Nat) : Nat := (putN (putN s 128 (s.testBit 3)) 8 false &&& 18446744073709545471) ||| m * 2048
def eS (s m : Nat) : Nat := (putN (putN s 32 (s.testBit 1)) 2 false &&& 18446744073709551359) ||| m * 256

set_option maxRecDepth 100000 in
theorem entM_0 (s : Nat) (hs : Hid (s < 18446744073709551616)) (w : World) : Calls Tryd.prog 18 #[.agg #[.int .u64 8, .int .u64 128, .int .u64 6144, .int .i64 11], .int .u64 s, .int .i64 0] w (RetU (eM s 0) w) := by
  obtain ⟨x, hx⟩ : ∃ x, putN s 128 (s.testBit 3) = x := ⟨_, rfl⟩
  obtain ⟨y, hy⟩ : ∃ y, putN x 8 false = y := ⟨_, rfl⟩
  have xl : x < 18446744073709551616 := by rw [← hx]; exact put_lt _ hs.out (by decide)
  have yl : y < 18446744073709551616 := by rw [← hy]; exact put_lt _ xl (by decide)
  have P1 : Hid (∀ u, Calls Tryd.prog 30 #[.int .u64 s, .int .u64 128, .bool (bits .and .u64 (s : Int) 8 != 0)] u (RetUX x u)) := fun u => by
    have := put_c s 128 (bits .and .u64 (s : Int) 8 != 0) hs (by show _ < _; decide) u
    rw [show (bits .and .u64 (s : Int) 8 != 0) = s.testBit 3 from bit_mask s 3 hs.out (by decide), hx] at this
    rw [show (bits .and .u64 (s : Int) 8 != 0) = s.testBit 3 from bit_mask s 3 hs.out (by decide)]
    exact this
  have P2 : Hid (∀ u, Calls Tryd.prog 30 #[.int .u64 x, .int .u64 8, .bool false] u (RetUX y u)) := fun u => by
    have := put_c x 8 false xl (by show _ < _; decide) u
    rw [hy] at this; exact this
  have HE : Hid (eM s 0 = (y &&& (18446744073709551615 - 6144)) ||| 0 * 2 ^ 11) := by show _ = _; unfold eM; rw [hx, hy]
  have f1 := u_andNot y 6144 yl (by decide)
  have f2 := u_or (y &&& (18446744073709551615 - 6144)) (0 * 2 ^ 11) (and_lt _ _ yl) (by decide)
  rw [← f1] at f2
  have F2 := Lib.hid f2
  clear f1 f2 hx hy xl yl hs
  obtain ⟨W0, hW⟩ : ∃ W0, W0 = w.alloc (Obj.cells #[.int .u64 8, .int .u64 128, .int .u64 6144, .int .i64 11] 44) := ⟨_, rfl⟩
  have k2 : W0.cell? ⟨w.heap.size, 2, none⟩ = some (.int .u64 6144) := by rw [hW]; exact (row_new _ _ _).cell 2
  have k3 : W0.cell? ⟨w.heap.size, 3, none⟩ = some (.int .i64 11) := by rw [hW]; exact (row_new _ _ _).cell 3
  have HB : Hid (Below w.heap.size w W0) := by show Below _ _ _; rw [hW]; exact (by repeat (first | (with_reducible first | exact Below.refl _ _ | assumption | exact Nat.le_refl _ | refine Below.drew ?_ | refine Below.alloc ?_ ?_ _ | refine Below.setCell ?_ ?_ _ | refine le_alloc ?_ | refine le_set ?_ | refine le_drew ?_ | refine below_step (by assumption) ?_ ?_ | refine le_below (by assumption) ?_) | (dsimp only; omega)))
  have HW := Lib.hid hW
  clear hW
  go_enter Tryd.func18, Tryd.ntmps18
  go_wp2_with fail
  refine (P1.out _).mono ?_; rintro e w1 ⟨rfl, h⟩; replace h := h.symm; subst h
  go_wp2_with fail
  refine (P2.out _).mono ?_; rintro e w1 ⟨rfl, h⟩; replace h := h.symm; subst h
  go_wp2_with fail
  rw [show w.alloc (Obj.cells #[.int .u64 8, .int .u64 128, .int .u64 6144, .int .i64 11] 44) = W0 from HW.out.symm]
  have K2 := cell_regrown k2
  have K3 := cell_regrown k3
  refine wp_region_quiet_below (by kernel_rfl) (by kernel_rfl) ?_
  repeat (first | go_big_quiet_skip | (go_big_quiet_want; go_big_quiet_op; go_big_quiet_on))
  refine wpQuiet_nil ?_
  intro _ hw'
  obtain ⟨⟨dq, osq⟩, hw''⟩ := hw'
  subst hw''
  have hb := below_regrown W0 dq osq
  replace HB := Lib.hid (below_step hb HB.out HB.out.size)
  generalize grow (redrawn W0 dq) osq = w5 at hb HB ⊢
  clear hb
  go_wp2_with fail
  go_ret
  exact retU_mk (F2.out.trans (congrArg Nat.cast HE.out.symm)) HB.out
set_option maxRecDepth 100000 in
theorem entM_1 (s : Nat) (hs : Hid (s < 18446744073709551616)) (w : World) : Calls Tryd.prog 18 #[.agg #[.int .u64 8, .int .u64 128, .int .u64 6144, .int .i64 11], .int .u64 s, .int .i64 1] w (RetU (eM s 1) w) := by
  obtain ⟨x, hx⟩ : ∃ x, putN s 128 (s.testBit 3) = x := ⟨_, rfl⟩
  obtain ⟨y, hy⟩ : ∃ y, putN x 8 false = y := ⟨_, rfl⟩
  have xl : x < 18446744073709551616 := by rw [← hx]; exact put_lt _ hs.out (by decide)
  have yl : y < 18446744073709551616 := by rw [← hy]; exact put_lt _ xl (by decide)
  have P1 : Hid (∀ u, Calls Tryd.prog 30 #[.int .u64 s, .int .u64 128, .bool (bits .and .u64 (s : Int) 8 != 0)] u (RetUX x u)) := fun u => by
    have := put_c s 128 (bits .and .u64 (s : Int) 8 != 0) hs (by show _ < _; decide) u
    rw [show (bits .and .u64 (s : Int) 8 != 0) = s.testBit 3 from bit_mask s 3 hs.out (by decide), hx] at this
    rw [show (bits .and .u64 (s : Int) 8 != 0) = s.testBit 3 from bit_mask s 3 hs.out (by decide)]
    exact this
  have P2 : Hid (∀ u, Calls Tryd.prog 30 #[.int .u64 x, .int .u64 8, .bool false] u (RetUX y u)) := fun u => by
    have := put_c x 8 false xl (by show _ < _; decide) u
    rw [hy] at this; exact this
  have HE : Hid (eM s 1 = (y &&& (18446744073709551615 - 6144)) ||| 1 * 2 ^ 11) := by show _ = _; unfold eM; rw [hx, hy]
  have f1 := u_andNot y 6144 yl (by decide)
  have f2 := u_or (y &&& (18446744073709551615 - 6144)) (1 * 2 ^ 11) (and_lt _ _ yl) (by decide)
  rw [← f1] at f2
  have F2 := Lib.hid f2
  clear f1 f2 hx hy xl yl hs
  obtain ⟨W0, hW⟩ : ∃ W0, W0 = w.alloc (Obj.cells #[.int .u64 8, .int .u64 128, .int .u64 6144, .int .i64 11] 44) := ⟨_, rfl⟩
  have k2 : W0.cell? ⟨w.heap.size, 2, none⟩ = some (.int .u64 6144) := by rw [hW]; exact (row_new _ _ _).cell 2
  have k3 : W0.cell? ⟨w.heap.size, 3, none⟩ = some (.int .i64 11) := by rw [hW]; exact (row_new _ _ _).cell 3
  have HB : Hid (Below w.heap.size w W0) := by show Below _ _ _; rw [hW]; exact (by repeat (first | (with_reducible first | exact Below.refl _ _ | assumption | exact Nat.le_refl _ | refine Below.drew ?_ | refine Below.alloc ?_ ?_ _ | refine Below.setCell ?_ ?_ _ | refine le_alloc ?_ | refine le_set ?_ | refine le_drew ?_ | refine below_step (by assumption) ?_ ?_ | refine le_below (by assumption) ?_) | (dsimp only; omega)))
  have HW := Lib.hid hW
  clear hW
  go_enter Tryd.func18, Tryd.ntmps18
  go_wp2_with fail
  refine (P1.out _).mono ?_; rintro e w1 ⟨rfl, h⟩; replace h := h.symm; subst h
  go_wp2_with fail
  refine (P2.out _).mono ?_; rintro e w1 ⟨rfl, h⟩; replace h := h.symm; subst h
  go_wp2_with fail
  rw [show w.alloc (Obj.cells #[.int .u64 8, .int .u64 128, .int .u64 6144, .int .i64 11] 44) = W0 from HW.out.symm]
  have K2 := cell_regrown k2
  have K3 := cell_regrown k3
  refine wp_region_quiet_below (by kernel_rfl) (by kernel_rfl) ?_
  repeat (first | go_big_quiet_skip | (go_big_quiet_want; go_big_quiet_op; go_big_quiet_on))
  refine wpQuiet_nil ?_
  intro _ hw'
  obtain ⟨⟨dq, osq⟩, hw''⟩ := hw'
  subst hw''
  have hb := below_regrown W0 dq osq
  replace HB := Lib.hid (below_step hb HB.out HB.out.size)
  generalize grow (redrawn W0 dq) osq = w5 at hb HB ⊢
  clear hb
  go_wp2_with fail
  go_ret
  exact retU_mk (F2.out.trans (congrArg Nat.cast HE.out.symm)) HB.out
set_option maxRecDepth 100000 in
theorem entM_3 (s : Nat) (hs : Hid (s < 18446744073709551616)) (w : World) : Calls Tryd.prog 18 #[.agg #[.int .u64 8, .int .u64 128, .int .u64 6144, .int .i64 11], .int .u64 s, .int .i64 3] w (RetU (eM s 3) w) := by
  obtain ⟨x, hx⟩ : ∃ x, putN s 128 (s.testBit 3) = x := ⟨_, rfl⟩
  obtain ⟨y, hy⟩ : ∃ y, putN x 8 false = y := ⟨_, rfl⟩
  have xl : x < 18446744073709551616 := by rw [← hx]; exact put_lt _ hs.out (by decide)
  have yl : y < 18446744073709551616 := by rw [← hy]; exact put_lt _ xl (by decide)
  have P1 : Hid (∀ u, Calls Tryd.prog 30 #[.int .u64 s, .int .u64 128, .bool (bits .and .u64 (s : Int) 8 != 0)] u (RetUX x u)) := fun u => by
    have := put_c s 128 (bits .and .u64 (s : Int) 8 != 0) hs (by show _ < _; decide) u
    rw [show (bits .and .u64 (s : Int) 8 != 0) = s.testBit 3 from bit_mask s 3 hs.out (by decide), hx] at this
    rw [show (bits .and .u64 (s : Int) 8 != 0) = s.testBit 3 from bit_mask s 3 hs.out (by decide)]
    exact this
  have P2 : Hid (∀ u, Calls Tryd.prog 30 #[.int .u64 x, .int .u64 8, .bool false] u (RetUX y u)) := fun u => by
    have := put_c x 8 false xl (by show _ < _; decide) u
    rw [hy] at this; exact this
  have HE : Hid (eM s 3 = (y &&& (18446744073709551615 - 6144)) ||| 3 * 2 ^ 11) := by show _ = _; unfold eM; rw [hx, hy]
  have f1 := u_andNot y 6144 yl (by decide)
  have f2 := u_or (y &&& (18446744073709551615 - 6144)) (3 * 2 ^ 11) (and_lt _ _ yl) (by decide)
  rw [← f1] at f2
  have F2 := Lib.hid f2
  clear f1 f2 hx hy xl yl hs
  obtain ⟨W0, hW⟩ : ∃ W0, W0 = w.alloc (Obj.cells #[.int .u64 8, .int .u64 128, .int .u64 6144, .int .i64 11] 44) := ⟨_, rfl⟩
  have k2 : W0.cell? ⟨w.heap.size, 2, none⟩ = some (.int .u64 6144) := by rw [hW]; exact (row_new _ _ _).cell 2
  have k3 : W0.cell? ⟨w.heap.size, 3, none⟩ = some (.int .i64 11) := by rw [hW]; exact (row_new _ _ _).cell 3
  have HB : Hid (Below w.heap.size w W0) := by show Below _ _ _; rw [hW]; exact (by repeat (first | (with_reducible first | exact Below.refl _ _ | assumption | exact Nat.le_refl _ | refine Below.drew ?_ | refine Below.alloc ?_ ?_ _ | refine Below.setCell ?_ ?_ _ | refine le_alloc ?_ | refine le_set ?_ | refine le_drew ?_ | refine below_step (by assumption) ?_ ?_ | refine le_below (by assumption) ?_) | (dsimp only; omega)))
  have HW := Lib.hid hW
  clear hW
  go_enter Tryd.func18, Tryd.ntmps18
  go_wp2_with fail
  refine (P1.out _).mono ?_; rintro e w1 ⟨rfl, h⟩; replace h := h.symm; subst h
  go_wp2_with fail
  refine (P2.out _).mono ?_; rintro e w1 ⟨rfl, h⟩; replace h := h.symm; subst h
  go_wp2_with fail
  rw [show w.alloc (Obj.cells #[.int .u64 8, .int .u64 128, .int .u64 6144, .int .i64 11] 44) = W0 from HW.out.symm]
  have K2 := cell_regrown k2
  have K3 := cell_regrown k3
  refine wp_region_quiet_below (by kernel_rfl) (by kernel_rfl) ?_
  repeat (first | go_big_quiet_skip | (go_big_quiet_want; go_big_quiet_op; go_big_quiet_on))
  refine wpQuiet_nil ?_
  intro _ hw'
  obtain ⟨⟨dq, osq⟩, hw''⟩ := hw'
  subst hw''
  have hb := below_regrown W0 dq osq
  replace HB := Lib.hid (below_step hb HB.out HB.out.size)
  generalize grow (redrawn W0 dq) osq = w5 at hb HB ⊢
  clear hb
  go_wp2_with fail
  go_ret
  exact retU_mk (F2.out.trans (congrArg Nat.cast HE.out.symm)) HB.out
set_option maxRecDepth 100000 in
theorem entS_0 (s : Nat) (hs : Hid (s < 18446744073709551616)) (w : World) : Calls Tryd.prog 18 #[.agg #[.int .u64 2, .int .u64 32, .int .u64 256, .int .i64 8], .int .u64 s, .int .i64 0] w (RetU (eS s 0) w) := by
  obtain ⟨x, hx⟩ : ∃ x, putN s 32 (s.testBit 1) = x := ⟨_, rfl⟩
  obtain ⟨y, hy⟩ : ∃ y, putN x 2 false = y := ⟨_, rfl⟩
  have xl : x < 18446744073709551616 := by rw [← hx]; exact put_lt _ hs.out (by decide)
  have yl : y < 18446744073709551616 := by rw [← hy]; exact put_lt _ xl (by decide)
  have P1 : Hid (∀ u, Calls Tryd.prog 30 #[.int .u64 s, .int .u64 32, .bool (bits .and .u64 (s : Int) 2 != 0)] u (RetUX x u)) := fun u => by
    have := put_c s 32 (bits .and .u64 (s : Int) 2 != 0) hs (by show _ < _; decide) u
    rw [show (bits .and .u64 (s : Int) 2 != 0) = s.testBit 1 from bit_mask s 1 hs.out (by decide), hx] at this
    rw [show (bits .and .u64 (s : Int) 2 != 0) = s.testBit 1 from bit_mask s 1 hs.out (by decide)]
    exact this
  have P2 : Hid (∀ u, Calls Tryd.prog 30 #[.int .u64 x, .int .u64 2, .bool false] u (RetUX y u)) := fun u => by
    have := put_c x 2 false xl (by show _ < _; decide) u
    rw [hy] at this; exact this
  have HE : Hid (eS s 0 = (y &&& (18446744073709551615 - 256)) ||| 0 * 2 ^ 8) := by show _ = _; unfold eS; rw [hx, hy]
  have f1 := u_andNot y 256 yl (by decide)
  have f2 := u_or (y &&& (18446744073709551615 - 256)) (0 * 2 ^ 8) (and_lt _ _ yl) (by decide)
  rw [← f1] at f2
  have F2 := Lib.hid f2
  clear f1 f2 hx hy xl yl hs
  obtain ⟨W0, hW⟩ : ∃ W0, W0 = w.alloc (Obj.cells #[.int .u64 2, .int .u64 32, .int .u64 256, .int .i64 8] 44) := ⟨_, rfl⟩
  have k2 : W0.cell? ⟨w.heap.size, 2, none⟩ = some (.int .u64 256) := by rw [hW]; exact (row_new _ _ _).cell 2
  have k3 : W0.cell? ⟨w.heap.size, 3, none⟩ = some (.int .i64 8) := by rw [hW]; exact (row_new _ _ _).cell 3
  have HB : Hid (Below w.heap.size w W0) := by show Below _ _ _; rw [hW]; exact (by repeat (first | (with_reducible first | exact Below.refl _ _ | assumption | exact Nat.le_refl _ | refine Below.drew ?_ | refine Below.alloc ?_ ?_ _ | refine Below.setCell ?_ ?_ _ | refine le_alloc ?_ | refine le_set ?_ | refine le_drew ?_ | refine below_step (by assumption) ?_ ?_ | refine le_below (by assumption) ?_) | (dsimp only; omega)))
  have HW := Lib.hid hW
  clear hW
  go_enter Tryd.func18, Tryd.ntmps18
  go_wp2_with fail
  refine (P1.out _).mono ?_; rintro e w1 ⟨rfl, h⟩; replace h := h.symm; subst h
  go_wp2_with fail
  refine (P2.out _).mono ?_; rintro e w1 ⟨rfl, h⟩; replace h := h.symm; subst h
  go_wp2_with fail
  rw [show w.alloc (Obj.cells #[.int .u64 2, .int .u64 32, .int .u64 256, .int .i64 8] 44) = W0 from HW.out.symm]
  have K2 := cell_regrown k2
  have K3 := cell_regrown k3
  refine wp_region_quiet_below (by kernel_rfl) (by kernel_rfl) ?_
  repeat (first | go_big_quiet_skip | (go_big_quiet_want; go_big_quiet_op; go_big_quiet_on))
  refine wpQuiet_nil ?_
  intro _ hw'
  obtain ⟨⟨dq, osq⟩, hw''⟩ := hw'
  subst hw''
  have hb := below_regrown W0 dq osq
  replace HB := Lib.hid (below_step hb HB.out HB.out.size)
  generalize grow (redrawn W0 dq) osq = w5 at hb HB ⊢
  clear hb
  go_wp2_with fail
  go_ret
  exact retU_mk (F2.out.trans (congrArg Nat.cast HE.out.symm)) HB.out
set_option maxRecDepth 100000 in
theorem entS_1 (s : Nat) (hs : Hid (s < 18446744073709551616)) (w : World) : Calls Tryd.prog 18 #[.agg #[.int .u64 2, .int .u64 32, .int .u64 256, .int .i64 8], .int .u64 s, .int .i64 1] w (RetU (eS s 1) w) := by
  obtain ⟨x, hx⟩ : ∃ x, putN s 32 (s.testBit 1) = x := ⟨_, rfl⟩
  obtain ⟨y, hy⟩ : ∃ y, putN x 2 false = y := ⟨_, rfl⟩
  have xl : x < 18446744073709551616 := by rw [← hx]; exact put_lt _ hs.out (by decide)
  have yl : y < 18446744073709551616 := by rw [← hy]; exact put_lt _ xl (by decide)
  have P1 : Hid (∀ u, Calls Tryd.prog 30 #[.int .u64 s, .int .u64 32, .bool (bits .and .u64 (s : Int) 2 != 0)] u (RetUX x u)) := fun u => by
    have := put_c s 32 (bits .and .u64 (s : Int) 2 != 0) hs (by show _ < _; decide) u
    rw [show (bits .and .u64 (s : Int) 2 != 0) = s.testBit 1 from bit_mask s 1 hs.out (by decide), hx] at this
    rw [show (bits .and .u64 (s : Int) 2 != 0) = s.testBit 1 from bit_mask s 1 hs.out (by decide)]
    exact this
  have P2 : Hid (∀ u, Calls Tryd.prog 30 #[.int .u64 x, .int .u64 2, .bool false] u (RetUX y u)) := fun u => by
    have := put_c x 2 false xl (by show _ < _; decide) u
    rw [hy] at this; exact this
  have HE : Hid (eS s 1 = (y &&& (18446744073709551615 - 256)) ||| 1 * 2 ^ 8) := by show _ = _; unfold eS; rw [hx, hy]
  have f1 := u_andNot y 256 yl (by decide)
  have f2 := u_or (y &&& (18446744073709551615 - 256)) (1 * 2 ^ 8) (and_lt _ _ yl) (by decide)
  rw [← f1] at f2
  have F2 := Lib.hid f2
  clear f1 f2 hx hy xl yl hs
  obtain ⟨W0, hW⟩ : ∃ W0, W0 = w.alloc (Obj.cells #[.int .u64 2, .int .u64 32, .int .u64 256, .int .i64 8] 44) := ⟨_, rfl⟩
  have k2 : W0.cell? ⟨w.heap.size, 2, none⟩ = some (.int .u64 256) := by rw [hW]; exact (row_new _ _ _).cell 2
  have k3 : W0.cell? ⟨w.heap.size, 3, none⟩ = some (.int .i64 8) := by rw [hW]; exact (row_new _ _ _).cell 3
  have HB : Hid (Below w.heap.size w W0) := by show Below _ _ _; rw [hW]; exact (by repeat (first | (with_reducible first | exact Below.refl _ _ | assumption | exact Nat.le_refl _ | refine Below.drew ?_ | refine Below.alloc ?_ ?_ _ | refine Below.setCell ?_ ?_ _ | refine le_alloc ?_ | refine le_set ?_ | refine le_drew ?_ | refine below_step (by assumption) ?_ ?_ | refine le_below (by assumption) ?_) | (dsimp only; omega)))
  have HW := Lib.hid hW
  clear hW
  go_enter Tryd.func18, Tryd.ntmps18
  go_wp2_with fail
  refine (P1.out _).mono ?_; rintro e w1 ⟨rfl, h⟩; replace h := h.symm; subst h
  go_wp2_with fail
  refine (P2.out _).mono ?_; rintro e w1 ⟨rfl, h⟩; replace h := h.symm; subst h
  go_wp2_with fail
  rw [show w.alloc (Obj.cells #[.int .u64 2, .int .u64 32, .int .u64 256, .int .i64 8] 44) = W0 from HW.out.symm]
  have K2 := cell_regrown k2
  have K3 := cell_regrown k3
  refine wp_region_quiet_below (by kernel_rfl) (by kernel_rfl) ?_
  repeat (first | go_big_quiet_skip | (go_big_quiet_want; go_big_quiet_op; go_big_quiet_on))
  refine wpQuiet_nil ?_
  intro _ hw'
  obtain ⟨⟨dq, osq⟩, hw''⟩ := hw'
  subst hw''
  have hb := below_regrown W0 dq osq
  replace HB := Lib.hid (below_step hb HB.out HB.out.size)
  generalize grow (redrawn W0 dq) osq = w5 at hb HB ⊢
  clear hb
  go_wp2_with fail
  go_ret
  exact retU_mk (F2.out.trans (congrArg Nat.cast HE.out.symm)) HB.out
/-- Mstatus behind a return from a trap in M that leads to the mode t; in S. -/
def lM (s : Nat) (t : Int) : Nat := let x := putN (putN s 8 (s.testBit 7)) 128 true; (if t = 3 then x else putN x 131072 false) &&& 18446744073709545471
def lS (s : Nat) : Nat := putN (putN (putN s 2 (s.testBit 5)) 32 true) 131072 false &&& 18446744073709551359
def mpI (s : Nat) : Int := tkI ((s / 2048 % 4 : Nat) : Int)
def spI (s : Nat) : Int := tkI ((s / 256 % 2 : Nat) : Int)
theorem mp_val (s : Nat) (hs : s < 18446744073709551616) : wrap64 (bits .and .u64 (s : Int) 6144 / 2048) = ((s / 2048 % 4 : Nat) : Int) := by
  have h := u_and s 6144 hs (by decide)
  have e : s &&& 6144 = s / 2048 % 4 * 2048 := by
    refine e64 (and_lt _ _ hs) (by omega) (fun i hi => ?_)
    rw [show s / 2048 % 4 * 2048 = (s / 2 ^ 11 % 2 ^ 2) <<< 11 by rw [Nat.shiftLeft_eq], Nat.testBit_shiftLeft, Nat.testBit_mod_two_pow, Nat.testBit_div_two_pow, Nat.testBit_and, show (6144 : Nat) = (2 ^ 2 - 1) <<< 11 by decide, Nat.testBit_shiftLeft, Nat.testBit_two_pow_sub_one]
    by_cases h11 : 11 ≤ i
    · rw [show i - 11 + 11 = i by omega]; simp [h11, Bool.and_comm]
    · simp [h11]
  rw [show (6144 : Int) = ((6144 : Nat) : Int) from rfl, h, e]
  have : s / 2048 % 4 < 4 := Nat.mod_lt _ (by decide)
  rw [show (((s / 2048 % 4 * 2048 : Nat) : Int) / 2048) = ((s / 2048 % 4 : Nat) : Int) by omega]
  unfold wrap64; omega
theorem sp_val (s : Nat) (hs : s < 18446744073709551616) : wrap64 (bits .and .u64 (s : Int) 256 / 256) = ((s / 256 % 2 : Nat) : Int) := by
  have h := u_and s 256 hs (by decide)
  have e : s &&& 256 = s / 256 % 2 * 256 := by
    refine e64 (and_lt _ _ hs) (by omega) (fun i hi => ?_)
    rw [show s / 256 % 2 * 256 = (s / 2 ^ 8 % 2 ^ 1) <<< 8 by rw [Nat.shiftLeft_eq], Nat.testBit_shiftLeft, Nat.testBit_mod_two_pow, Nat.testBit_div_two_pow, Nat.testBit_and, show (256 : Nat) = (2 ^ 1 - 1) <<< 8 by decide, Nat.testBit_shiftLeft, Nat.testBit_two_pow_sub_one]
    by_cases h8 : 8 ≤ i
    · rw [show i - 8 + 8 = i by omega]; simp [h8, Bool.and_comm]
    · simp [h8]
  rw [show (256 : Int) = ((256 : Nat) : Int) from rfl, h, e]
  have : s / 256 % 2 < 2 := Nat.mod_lt _ (by decide)
  rw [show (((s / 256 % 2 * 256 : Nat) : Int) / ((256 : Nat) : Int)) = ((s / 256 % 2 : Nat) : Int) by omega]
  unfold wrap64; omega
theorem tk_cases (m : Int) : tkI m = 0 ∨ tkI m = 1 ∨ tkI m = 3 := by
  unfold tkI
  by_cases h : m = 3
  · rw [if_pos h]; exact Or.inr (Or.inr rfl)
  · rw [if_neg h]
    by_cases h1 : m = 1
    · rw [if_pos h1]; exact Or.inr (Or.inl rfl)
    · rw [if_neg h1]; exact Or.inl rfl
theorem sp_cases (s : Nat) : spI s = 0 ∨ spI s = 1 := by
  unfold spI
  have : s / 256 % 2 = 0 ∨ s / 256 % 2 = 1 := by omega
  rcases this with h | h <;> rw [h]
  · exact Or.inl rfl
  · exact Or.inr rfl
def RetUI (n : Nat) (t : Int) (W : World) (e : Ending) (w' : World) : Prop := e = .returned (.tuple #[.int .u64 n, .int .i64 t]) ∧ Below W.heap.size W w'
theorem retUI_mk {a t : Int} {b : Nat} {W w' : World} (h : a = b) (hb : Below W.heap.size W w') : RetUI b t W (.returned (.tuple #[.int .u64 a, .int .i64 t])) w' := ⟨by rw [h], hb⟩

set_option maxRecDepth 100000 in
theorem leftM_0 (s : Nat) (hs : Hid (s < 18446744073709551616)) (ht : mpI s = 0) (w : World) : Calls Tryd.prog 24 #[.agg #[.int .u64 8, .int .u64 128, .int .u64 6144, .int .i64 11], .int .u64 s] w (RetUI (lM s 0) 0 w) := by
  obtain ⟨x, hx⟩ : ∃ x, putN s 8 (s.testBit 7) = x := ⟨_, rfl⟩
  obtain ⟨y, hy⟩ : ∃ y, putN x 128 true = y := ⟨_, rfl⟩
  have xl : Hid (x < 18446744073709551616) := by show _ < _; rw [← hx]; exact put_lt _ hs.out (by decide)
  have yl : Hid (y < 18446744073709551616) := by show _ < _; rw [← hy]; exact put_lt _ xl.out (by decide)
  have P0 : Hid (∀ u, Calls Tryd.prog 15 #[.int .i64 (wrap64 (bits .and .u64 (s : Int) 6144 / 2 ^ 11))] u (RetIX 0 u)) := fun u => by
    have h := taken_c (wrap64 (bits .and .u64 (s : Int) 6144 / 2 ^ 11)) u
    rw [show tkI (wrap64 (bits .and .u64 (s : Int) 6144 / 2 ^ 11)) = 0 from (congrArg tkI (mp_val s hs.out)).trans ht] at h; exact h
  have P1 : Hid (∀ u, Calls Tryd.prog 30 #[.int .u64 s, .int .u64 8, .bool (bits .and .u64 (s : Int) 128 != 0)] u (RetUX x u)) := fun u => by
    have := put_c s 8 (bits .and .u64 (s : Int) 128 != 0) hs (by show _ < _; decide) u
    rw [show (bits .and .u64 (s : Int) 128 != 0) = s.testBit 7 from bit_mask s 7 hs.out (by decide), hx] at this
    rw [show (bits .and .u64 (s : Int) 128 != 0) = s.testBit 7 from bit_mask s 7 hs.out (by decide)]
    exact this
  have P2 : Hid (∀ u, Calls Tryd.prog 30 #[.int .u64 x, .int .u64 128, .bool true] u (RetUX y u)) := fun u => by
    have := put_c x 128 true xl (by show _ < _; decide) u
    rw [hy] at this; exact this
  obtain ⟨z, hz⟩ : ∃ z, putN y 131072 false = z := ⟨_, rfl⟩
  have zl : z < 18446744073709551616 := by rw [← hz]; exact put_lt _ yl.out (by decide)
  have P3 : Hid (∀ u, Calls Tryd.prog 30 #[.int .u64 y, .int .u64 131072, .bool false] u (RetUX z u)) := fun u => by
    have := put_c y 131072 false yl (by show _ < _; decide) u
    rw [hz] at this; exact this
  have HE : Hid (lM s 0 = (z &&& (18446744073709551615 - 6144))) := by show _ = _; unfold lM; rw [hx, hy]; show putN y 131072 false &&& _ = _; rw [hz]
  have F2 := Lib.hid (u_andNot z 6144 zl (by decide))
  clear hx hy hz xl yl zl hs ht
  obtain ⟨W0, hW⟩ : ∃ W0, W0 = w.alloc (Obj.cells #[.int .u64 8, .int .u64 128, .int .u64 6144, .int .i64 11] 44) := ⟨_, rfl⟩
  have HB : Hid (Below w.heap.size w W0) := by show Below _ _ _; rw [hW]; exact (by repeat (first | (with_reducible first | exact Below.refl _ _ | assumption | exact Nat.le_refl _ | refine Below.drew ?_ | refine Below.alloc ?_ ?_ _ | refine Below.setCell ?_ ?_ _ | refine le_alloc ?_ | refine le_set ?_ | refine le_drew ?_ | refine below_step (by assumption) ?_ ?_ | refine le_below (by assumption) ?_) | (dsimp only; omega)))
  have HW := Lib.hid hW
  clear hW
  go_enter Tryd.func24, Tryd.ntmps24
  go_wp2_with fail
  refine (P0.out _).mono ?_; rintro e w1 ⟨rfl, h⟩; replace h := h.symm; subst h
  go_wp2_with fail
  refine (P1.out _).mono ?_; rintro e w1 ⟨rfl, h⟩; replace h := h.symm; subst h
  go_wp2_with fail
  refine (P2.out _).mono ?_; rintro e w1 ⟨rfl, h⟩; replace h := h.symm; subst h
  go_wp2_with fail
  refine (P3.out _).mono ?_; rintro e w1 ⟨rfl, h⟩; replace h := h.symm; subst h
  go_wp2_with fail
  rw [show w.alloc (Obj.cells #[.int .u64 8, .int .u64 128, .int .u64 6144, .int .i64 11] 44) = W0 from HW.out.symm]
  refine bodyPost_ret (by simp [results, Tryd.results24, go_sem] <;> (first | rfl | (repeat' (first | rfl | apply And.intro)))) rfl ?_
  exact retUI_mk (F2.out.trans (congrArg Nat.cast HE.out.symm)) HB.out
set_option maxRecDepth 100000 in
theorem leftM_1 (s : Nat) (hs : Hid (s < 18446744073709551616)) (ht : mpI s = 1) (w : World) : Calls Tryd.prog 24 #[.agg #[.int .u64 8, .int .u64 128, .int .u64 6144, .int .i64 11], .int .u64 s] w (RetUI (lM s 1) 1 w) := by
  obtain ⟨x, hx⟩ : ∃ x, putN s 8 (s.testBit 7) = x := ⟨_, rfl⟩
  obtain ⟨y, hy⟩ : ∃ y, putN x 128 true = y := ⟨_, rfl⟩
  have xl : Hid (x < 18446744073709551616) := by show _ < _; rw [← hx]; exact put_lt _ hs.out (by decide)
  have yl : Hid (y < 18446744073709551616) := by show _ < _; rw [← hy]; exact put_lt _ xl.out (by decide)
  have P0 : Hid (∀ u, Calls Tryd.prog 15 #[.int .i64 (wrap64 (bits .and .u64 (s : Int) 6144 / 2 ^ 11))] u (RetIX 1 u)) := fun u => by
    have h := taken_c (wrap64 (bits .and .u64 (s : Int) 6144 / 2 ^ 11)) u
    rw [show tkI (wrap64 (bits .and .u64 (s : Int) 6144 / 2 ^ 11)) = 1 from (congrArg tkI (mp_val s hs.out)).trans ht] at h; exact h
  have P1 : Hid (∀ u, Calls Tryd.prog 30 #[.int .u64 s, .int .u64 8, .bool (bits .and .u64 (s : Int) 128 != 0)] u (RetUX x u)) := fun u => by
    have := put_c s 8 (bits .and .u64 (s : Int) 128 != 0) hs (by show _ < _; decide) u
    rw [show (bits .and .u64 (s : Int) 128 != 0) = s.testBit 7 from bit_mask s 7 hs.out (by decide), hx] at this
    rw [show (bits .and .u64 (s : Int) 128 != 0) = s.testBit 7 from bit_mask s 7 hs.out (by decide)]
    exact this
  have P2 : Hid (∀ u, Calls Tryd.prog 30 #[.int .u64 x, .int .u64 128, .bool true] u (RetUX y u)) := fun u => by
    have := put_c x 128 true xl (by show _ < _; decide) u
    rw [hy] at this; exact this
  obtain ⟨z, hz⟩ : ∃ z, putN y 131072 false = z := ⟨_, rfl⟩
  have zl : z < 18446744073709551616 := by rw [← hz]; exact put_lt _ yl.out (by decide)
  have P3 : Hid (∀ u, Calls Tryd.prog 30 #[.int .u64 y, .int .u64 131072, .bool false] u (RetUX z u)) := fun u => by
    have := put_c y 131072 false yl (by show _ < _; decide) u
    rw [hz] at this; exact this
  have HE : Hid (lM s 1 = (z &&& (18446744073709551615 - 6144))) := by show _ = _; unfold lM; rw [hx, hy]; show putN y 131072 false &&& _ = _; rw [hz]
  have F2 := Lib.hid (u_andNot z 6144 zl (by decide))
  clear hx hy hz xl yl zl hs ht
  obtain ⟨W0, hW⟩ : ∃ W0, W0 = w.alloc (Obj.cells #[.int .u64 8, .int .u64 128, .int .u64 6144, .int .i64 11] 44) := ⟨_, rfl⟩
  have HB : Hid (Below w.heap.size w W0) := by show Below _ _ _; rw [hW]; exact (by repeat (first | (with_reducible first | exact Below.refl _ _ | assumption | exact Nat.le_refl _ | refine Below.drew ?_ | refine Below.alloc ?_ ?_ _ | refine Below.setCell ?_ ?_ _ | refine le_alloc ?_ | refine le_set ?_ | refine le_drew ?_ | refine below_step (by assumption) ?_ ?_ | refine le_below (by assumption) ?_) | (dsimp only; omega)))
  have HW := Lib.hid hW
  clear hW
  go_enter Tryd.func24, Tryd.ntmps24
  go_wp2_with fail
  refine (P0.out _).mono ?_; rintro e w1 ⟨rfl, h⟩; replace h := h.symm; subst h
  go_wp2_with fail
  refine (P1.out _).mono ?_; rintro e w1 ⟨rfl, h⟩; replace h := h.symm; subst h
  go_wp2_with fail
  refine (P2.out _).mono ?_; rintro e w1 ⟨rfl, h⟩; replace h := h.symm; subst h
  go_wp2_with fail
  refine (P3.out _).mono ?_; rintro e w1 ⟨rfl, h⟩; replace h := h.symm; subst h
  go_wp2_with fail
  rw [show w.alloc (Obj.cells #[.int .u64 8, .int .u64 128, .int .u64 6144, .int .i64 11] 44) = W0 from HW.out.symm]
  refine bodyPost_ret (by simp [results, Tryd.results24, go_sem] <;> (first | rfl | (repeat' (first | rfl | apply And.intro)))) rfl ?_
  exact retUI_mk (F2.out.trans (congrArg Nat.cast HE.out.symm)) HB.out
set_option maxRecDepth 100000 in
theorem leftM_3 (s : Nat) (hs : Hid (s < 18446744073709551616)) (ht : mpI s = 3) (w : World) : Calls Tryd.prog 24 #[.agg #[.int .u64 8, .int .u64 128, .int .u64 6144, .int .i64 11], .int .u64 s] w (RetUI (lM s 3) 3 w) := by
  obtain ⟨x, hx⟩ : ∃ x, putN s 8 (s.testBit 7) = x := ⟨_, rfl⟩
  obtain ⟨y, hy⟩ : ∃ y, putN x 128 true = y := ⟨_, rfl⟩
  have xl : Hid (x < 18446744073709551616) := by show _ < _; rw [← hx]; exact put_lt _ hs.out (by decide)
  have yl : Hid (y < 18446744073709551616) := by show _ < _; rw [← hy]; exact put_lt _ xl.out (by decide)
  have P0 : Hid (∀ u, Calls Tryd.prog 15 #[.int .i64 (wrap64 (bits .and .u64 (s : Int) 6144 / 2 ^ 11))] u (RetIX 3 u)) := fun u => by
    have h := taken_c (wrap64 (bits .and .u64 (s : Int) 6144 / 2 ^ 11)) u
    rw [show tkI (wrap64 (bits .and .u64 (s : Int) 6144 / 2 ^ 11)) = 3 from (congrArg tkI (mp_val s hs.out)).trans ht] at h; exact h
  have P1 : Hid (∀ u, Calls Tryd.prog 30 #[.int .u64 s, .int .u64 8, .bool (bits .and .u64 (s : Int) 128 != 0)] u (RetUX x u)) := fun u => by
    have := put_c s 8 (bits .and .u64 (s : Int) 128 != 0) hs (by show _ < _; decide) u
    rw [show (bits .and .u64 (s : Int) 128 != 0) = s.testBit 7 from bit_mask s 7 hs.out (by decide), hx] at this
    rw [show (bits .and .u64 (s : Int) 128 != 0) = s.testBit 7 from bit_mask s 7 hs.out (by decide)]
    exact this
  have P2 : Hid (∀ u, Calls Tryd.prog 30 #[.int .u64 x, .int .u64 128, .bool true] u (RetUX y u)) := fun u => by
    have := put_c x 128 true xl (by show _ < _; decide) u
    rw [hy] at this; exact this
  have zl := yl.out
  have HE : Hid (lM s 3 = (y &&& (18446744073709551615 - 6144))) := by show _ = _; unfold lM; rw [hx, hy]; rfl
  have F2 := Lib.hid (u_andNot y 6144 zl (by decide))
  clear hx hy  xl yl zl hs ht
  obtain ⟨W0, hW⟩ : ∃ W0, W0 = w.alloc (Obj.cells #[.int .u64 8, .int .u64 128, .int .u64 6144, .int .i64 11] 44) := ⟨_, rfl⟩
  have HB : Hid (Below w.heap.size w W0) := by show Below _ _ _; rw [hW]; exact (by repeat (first | (with_reducible first | exact Below.refl _ _ | assumption | exact Nat.le_refl _ | refine Below.drew ?_ | refine Below.alloc ?_ ?_ _ | refine Below.setCell ?_ ?_ _ | refine le_alloc ?_ | refine le_set ?_ | refine le_drew ?_ | refine below_step (by assumption) ?_ ?_ | refine le_below (by assumption) ?_) | (dsimp only; omega)))
  have HW := Lib.hid hW
  clear hW
  go_enter Tryd.func24, Tryd.ntmps24
  go_wp2_with fail
  refine (P0.out _).mono ?_; rintro e w1 ⟨rfl, h⟩; replace h := h.symm; subst h
  go_wp2_with fail
  refine (P1.out _).mono ?_; rintro e w1 ⟨rfl, h⟩; replace h := h.symm; subst h
  go_wp2_with fail
  refine (P2.out _).mono ?_; rintro e w1 ⟨rfl, h⟩; replace h := h.symm; subst h
  go_wp2_with fail
  rw [show w.alloc (Obj.cells #[.int .u64 8, .int .u64 128, .int .u64 6144, .int .i64 11] 44) = W0 from HW.out.symm]
  refine bodyPost_ret (by simp [results, Tryd.results24, go_sem] <;> (first | rfl | (repeat' (first | rfl | apply And.intro)))) rfl ?_
  exact retUI_mk (F2.out.trans (congrArg Nat.cast HE.out.symm)) HB.out
set_option maxRecDepth 100000 in
theorem leftS_0 (s : Nat) (hs : Hid (s < 18446744073709551616)) (ht : spI s = 0) (w : World) : Calls Tryd.prog 24 #[.agg #[.int .u64 2, .int .u64 32, .int .u64 256, .int .i64 8], .int .u64 s] w (RetUI (lS s) 0 w) := by
  obtain ⟨x, hx⟩ : ∃ x, putN s 2 (s.testBit 5) = x := ⟨_, rfl⟩
  obtain ⟨y, hy⟩ : ∃ y, putN x 32 true = y := ⟨_, rfl⟩
  have xl : Hid (x < 18446744073709551616) := by show _ < _; rw [← hx]; exact put_lt _ hs.out (by decide)
  have yl : Hid (y < 18446744073709551616) := by show _ < _; rw [← hy]; exact put_lt _ xl.out (by decide)
  have P0 : Hid (∀ u, Calls Tryd.prog 15 #[.int .i64 (wrap64 (bits .and .u64 (s : Int) 256 / 2 ^ 8))] u (RetIX 0 u)) := fun u => by
    have h := taken_c (wrap64 (bits .and .u64 (s : Int) 256 / 2 ^ 8)) u
    rw [show tkI (wrap64 (bits .and .u64 (s : Int) 256 / 2 ^ 8)) = 0 from (congrArg tkI (sp_val s hs.out)).trans ht] at h; exact h
  have P1 : Hid (∀ u, Calls Tryd.prog 30 #[.int .u64 s, .int .u64 2, .bool (bits .and .u64 (s : Int) 32 != 0)] u (RetUX x u)) := fun u => by
    have := put_c s 2 (bits .and .u64 (s : Int) 32 != 0) hs (by show _ < _; decide) u
    rw [show (bits .and .u64 (s : Int) 32 != 0) = s.testBit 5 from bit_mask s 5 hs.out (by decide), hx] at this
    rw [show (bits .and .u64 (s : Int) 32 != 0) = s.testBit 5 from bit_mask s 5 hs.out (by decide)]
    exact this
  have P2 : Hid (∀ u, Calls Tryd.prog 30 #[.int .u64 x, .int .u64 32, .bool true] u (RetUX y u)) := fun u => by
    have := put_c x 32 true xl (by show _ < _; decide) u
    rw [hy] at this; exact this
  obtain ⟨z, hz⟩ : ∃ z, putN y 131072 false = z := ⟨_, rfl⟩
  have zl : z < 18446744073709551616 := by rw [← hz]; exact put_lt _ yl.out (by decide)
  have P3 : Hid (∀ u, Calls Tryd.prog 30 #[.int .u64 y, .int .u64 131072, .bool false] u (RetUX z u)) := fun u => by
    have := put_c y 131072 false yl (by show _ < _; decide) u
    rw [hz] at this; exact this
  have HE : Hid (lS s = (z &&& (18446744073709551615 - 256))) := by show _ = _; unfold lS; rw [hx, hy]; show putN y 131072 false &&& _ = _; rw [hz]
  have F2 := Lib.hid (u_andNot z 256 zl (by decide))
  clear hx hy hz xl yl zl hs ht
  obtain ⟨W0, hW⟩ : ∃ W0, W0 = w.alloc (Obj.cells #[.int .u64 2, .int .u64 32, .int .u64 256, .int .i64 8] 44) := ⟨_, rfl⟩
  have HB : Hid (Below w.heap.size w W0) := by show Below _ _ _; rw [hW]; exact (by repeat (first | (with_reducible first | exact Below.refl _ _ | assumption | exact Nat.le_refl _ | refine Below.drew ?_ | refine Below.alloc ?_ ?_ _ | refine Below.setCell ?_ ?_ _ | refine le_alloc ?_ | refine le_set ?_ | refine le_drew ?_ | refine below_step (by assumption) ?_ ?_ | refine le_below (by assumption) ?_) | (dsimp only; omega)))
  have HW := Lib.hid hW
  clear hW
  go_enter Tryd.func24, Tryd.ntmps24
  go_wp2_with fail
  refine (P0.out _).mono ?_; rintro e w1 ⟨rfl, h⟩; replace h := h.symm; subst h
  go_wp2_with fail
  refine (P1.out _).mono ?_; rintro e w1 ⟨rfl, h⟩; replace h := h.symm; subst h
  go_wp2_with fail
  refine (P2.out _).mono ?_; rintro e w1 ⟨rfl, h⟩; replace h := h.symm; subst h
  go_wp2_with fail
  refine (P3.out _).mono ?_; rintro e w1 ⟨rfl, h⟩; replace h := h.symm; subst h
  go_wp2_with fail
  rw [show w.alloc (Obj.cells #[.int .u64 2, .int .u64 32, .int .u64 256, .int .i64 8] 44) = W0 from HW.out.symm]
  refine bodyPost_ret (by simp [results, Tryd.results24, go_sem] <;> (first | rfl | (repeat' (first | rfl | apply And.intro)))) rfl ?_
  exact retUI_mk (F2.out.trans (congrArg Nat.cast HE.out.symm)) HB.out
set_option maxRecDepth 100000 in
theorem leftS_1 (s : Nat) (hs : Hid (s < 18446744073709551616)) (ht : spI s = 1) (w : World) : Calls Tryd.prog 24 #[.agg #[.int .u64 2, .int .u64 32, .int .u64 256, .int .i64 8], .int .u64 s] w (RetUI (lS s) 1 w) := by
  obtain ⟨x, hx⟩ : ∃ x, putN s 2 (s.testBit 5) = x := ⟨_, rfl⟩
  obtain ⟨y, hy⟩ : ∃ y, putN x 32 true = y := ⟨_, rfl⟩
  have xl : Hid (x < 18446744073709551616) := by show _ < _; rw [← hx]; exact put_lt _ hs.out (by decide)
  have yl : Hid (y < 18446744073709551616) := by show _ < _; rw [← hy]; exact put_lt _ xl.out (by decide)
  have P0 : Hid (∀ u, Calls Tryd.prog 15 #[.int .i64 (wrap64 (bits .and .u64 (s : Int) 256 / 2 ^ 8))] u (RetIX 1 u)) := fun u => by
    have h := taken_c (wrap64 (bits .and .u64 (s : Int) 256 / 2 ^ 8)) u
    rw [show tkI (wrap64 (bits .and .u64 (s : Int) 256 / 2 ^ 8)) = 1 from (congrArg tkI (sp_val s hs.out)).trans ht] at h; exact h
  have P1 : Hid (∀ u, Calls Tryd.prog 30 #[.int .u64 s, .int .u64 2, .bool (bits .and .u64 (s : Int) 32 != 0)] u (RetUX x u)) := fun u => by
    have := put_c s 2 (bits .and .u64 (s : Int) 32 != 0) hs (by show _ < _; decide) u
    rw [show (bits .and .u64 (s : Int) 32 != 0) = s.testBit 5 from bit_mask s 5 hs.out (by decide), hx] at this
    rw [show (bits .and .u64 (s : Int) 32 != 0) = s.testBit 5 from bit_mask s 5 hs.out (by decide)]
    exact this
  have P2 : Hid (∀ u, Calls Tryd.prog 30 #[.int .u64 x, .int .u64 32, .bool true] u (RetUX y u)) := fun u => by
    have := put_c x 32 true xl (by show _ < _; decide) u
    rw [hy] at this; exact this
  obtain ⟨z, hz⟩ : ∃ z, putN y 131072 false = z := ⟨_, rfl⟩
  have zl : z < 18446744073709551616 := by rw [← hz]; exact put_lt _ yl.out (by decide)
  have P3 : Hid (∀ u, Calls Tryd.prog 30 #[.int .u64 y, .int .u64 131072, .bool false] u (RetUX z u)) := fun u => by
    have := put_c y 131072 false yl (by show _ < _; decide) u
    rw [hz] at this; exact this
  have HE : Hid (lS s = (z &&& (18446744073709551615 - 256))) := by show _ = _; unfold lS; rw [hx, hy]; show putN y 131072 false &&& _ = _; rw [hz]
  have F2 := Lib.hid (u_andNot z 256 zl (by decide))
  clear hx hy hz xl yl zl hs ht
  obtain ⟨W0, hW⟩ : ∃ W0, W0 = w.alloc (Obj.cells #[.int .u64 2, .int .u64 32, .int .u64 256, .int .i64 8] 44) := ⟨_, rfl⟩
  have HB : Hid (Below w.heap.size w W0) := by show Below _ _ _; rw [hW]; exact (by repeat (first | (with_reducible first | exact Below.refl _ _ | assumption | exact Nat.le_refl _ | refine Below.drew ?_ | refine Below.alloc ?_ ?_ _ | refine Below.setCell ?_ ?_ _ | refine le_alloc ?_ | refine le_set ?_ | refine le_drew ?_ | refine below_step (by assumption) ?_ ?_ | refine le_below (by assumption) ?_) | (dsimp only; omega)))
  have HW := Lib.hid hW
  clear hW
  go_enter Tryd.func24, Tryd.ntmps24
  go_wp2_with fail
  refine (P0.out _).mono ?_; rintro e w1 ⟨rfl, h⟩; replace h := h.symm; subst h
  go_wp2_with fail
  refine (P1.out _).mono ?_; rintro e w1 ⟨rfl, h⟩; replace h := h.symm; subst h
  go_wp2_with fail
  refine (P2.out _).mono ?_; rintro e w1 ⟨rfl, h⟩; replace h := h.symm; subst h
  go_wp2_with fail
  refine (P3.out _).mono ?_; rintro e w1 ⟨rfl, h⟩; replace h := h.symm; subst h
  go_wp2_with fail
  rw [show w.alloc (Obj.cells #[.int .u64 2, .int .u64 32, .int .u64 256, .int .i64 8] 44) = W0 from HW.out.symm]
  refine bodyPost_ret (by simp [results, Tryd.results24, go_sem] <;> (first | rfl | (repeat' (first | rfl | apply And.intro)))) rfl ?_
  exact retUI_mk (F2.out.trans (congrArg Nat.cast HE.out.symm)) HB.out
/-- Where a cause leads. -/
def vecN (t c : Nat) : Nat := bif c.testBit 63 && t.testBit 0 then ((t &&& 18446744073709551612) + 4 * (c &&& 9223372036854775807) % 18446744073709551616) % 18446744073709551616 else t &&& 18446744073709551612
theorem vec_sum (x y : Nat) : IntKind.u64.wrap ((x : Int) + IntKind.u64.wrap (4 * (y : Int))) = (((x + 4 * y % 18446744073709551616) % 18446744073709551616 : Nat) : Int) := by
  rw [IntKind.wrap_u64, IntKind.wrap_u64]; omega
theorem vec_c (t c : Nat) (ht : Hid (t < 18446744073709551616)) (hc : Hid (c < 18446744073709551616)) (w : World) : Calls Tryd.prog 19 #[.int .u64 t, .int .u64 c] w (RetUX (vecN t c) w) := by
  have HI : Hid (∀ u, Calls Tryd.prog 29 #[.int .u64 c] u (RetBX (c.testBit 63) u)) := fun u => isInt_c c hc u
  have N1 := u_andNot t 3 ht.out (by decide)
  have N2 := u_andNot c 9223372036854775808 hc.out (by decide)
  have E : Hid (vecN t c = bif c.testBit 63 && t.testBit 0 then ((t &&& 18446744073709551612) + 4 * (c &&& 9223372036854775807) % 18446744073709551616) % 18446744073709551616 else t &&& 18446744073709551612) := rfl
  have S2 := Lib.hid (vec_sum (t &&& 18446744073709551612) (c &&& 9223372036854775807))
  replace N1 : bits .andNot .u64 (t : Int) 3 = ((t &&& 18446744073709551612 : Nat) : Int) := N1
  replace N2 : bits .andNot .u64 (c : Int) 9223372036854775808 = ((c &&& 9223372036854775807 : Nat) : Int) := N2
  have bm : (bits .and .u64 (t : Int) 1 != 0) = t.testBit 0 := bit_mask t 0 ht.out (by decide)
  generalize c.testBit 63 = A at HI E
  generalize vecN t c = V at E ⊢
  generalize t &&& 18446744073709551612 = x at *
  generalize c &&& 9223372036854775807 = y at *
  generalize t.testBit 0 = T at bm E
  have HN1 := Lib.hid N1
  have HN2 := Lib.hid N2
  clear N1 N2 ht hc
  cases A
  · clear bm
    go_enter Tryd.func19, Tryd.ntmps19
    go_wp2_with fail
    refine (HI.out _).mono ?_; rintro e w1 ⟨rfl, h⟩; replace h := h.symm; subst h
    go_wp2_with fail
    go_ret
    exact retUX_mk (HN1.out.trans (congrArg Nat.cast E.out.symm))
  · cases T
    · go_enter Tryd.func19, Tryd.ntmps19
      go_wp2_with fail
      refine (HI.out _).mono ?_; rintro e w1 ⟨rfl, h⟩; replace h := h.symm; subst h
      go_wp2_with fail
      go_ret
      exact retUX_mk (HN1.out.trans (congrArg Nat.cast E.out.symm))
    · go_enter Tryd.func19, Tryd.ntmps19
      go_wp2_with fail
      refine (HI.out _).mono ?_; rintro e w1 ⟨rfl, h⟩; replace h := h.symm; subst h
      go_wp2_with fail
      go_ret
      exact retUX_mk ((show IntKind.u64.wrap (bits .andNot .u64 (t : Int) 3 + IntKind.u64.wrap (4 * bits .andNot .u64 (c : Int) 9223372036854775808)) = _ by rw [HN1.out, HN2.out]; exact S2.out).trans (congrArg Nat.cast E.out.symm))
/-- Is a cause S's below M? -/
def delB (S : Nat → Nat) (c : Nat) : Bool := (bif c.testBit 63 then S 3 else S 2).testBit (c % 64)
theorem del_c (S : Nat → Nat) (k c : Nat) (hS : Hid (OkS S)) (hc : Hid (c < 18446744073709551616)) (w : World) (h2 : w.cell? ⟨k, 2, none⟩ = some (.int .u64 (S 2 : Nat))) (h3 : w.cell? ⟨k, 3, none⟩ = some (.int .u64 (S 3 : Nat))) :
    Calls Tryd.prog 16 #[.pointer (some ⟨k, 0, none⟩), .int .u64 c] w (RetBX (delB S c) w) := by
  have HI : Hid (∀ u, Calls Tryd.prog 29 #[.int .u64 c] u (RetBX (c.testBit 63) u)) := fun u => isInt_c c hc u
  have E : Hid (delB S c = (bif c.testBit 63 then S 3 else S 2).testBit (c % 64)) := rfl
  have V2 := Lib.hid (bit_val0 (S 2) (c % 64) (hS.out.u 2 (by decide)))
  have V3 := Lib.hid (bit_val0 (S 3) (c % 64) (hS.out.u 3 (by decide)))
  generalize c.testBit 63 = A at HI E
  generalize delB S c = V at E ⊢
  clear hS hc
  cases A
  · go_enter Tryd.func16, Tryd.ntmps16
    go_wp2_with fail
    refine (HI.out _).mono ?_; rintro e w1 ⟨rfl, h⟩; replace h := h.symm; subst h
    go_wp2_with fail
    go_ret
    exact retBX_mk (V2.out.trans E.out.symm)
  · go_enter Tryd.func16, Tryd.ntmps16
    go_wp2_with fail
    refine (HI.out _).mono ?_; rintro e w1 ⟨rfl, h⟩; replace h := h.symm; subst h
    go_wp2_with fail
    go_ret
    exact retBX_mk (V3.out.trans E.out.symm)
/-- The pending bits. -/
def pendN (S : Nat → Nat) (l : Nat) : Nat := (S 5 ||| (l &&& 2696)) &&& S 4
theorem pend_c (S : Nat → Nat) (k l : Nat) (hS : Hid (OkS S)) (hl : Hid (l < 18446744073709551616)) (w : World) (h4 : w.cell? ⟨k, 4, none⟩ = some (.int .u64 (S 4 : Nat))) (h5 : w.cell? ⟨k, 5, none⟩ = some (.int .u64 (S 5 : Nat))) :
    Calls Tryd.prog 25 #[.pointer (some ⟨k, 0, none⟩), .int .u64 l] w (RetU (pendN S l) w) := by
  have f1 := u_and l 2696 hl.out (by decide)
  have f2 := u_or (S 5) (l &&& 2696) (hS.out.u 5 (by decide)) (and_lt _ _ hl.out)
  have f3 := u_and (S 5 ||| (l &&& 2696)) (S 4) (or_lt (hS.out.u 5 (by decide)) (and_lt _ _ hl.out)) (hS.out.u 4 (by decide))
  rw [← f1] at f2
  rw [← f2] at f3
  have F3 := Lib.hid f3
  clear f1 f2 f3 hS hl
  have K4 := cell_regrown h4
  have K5 := cell_regrown h5
  go_enter Tryd.func25, Tryd.ntmps25
  go_wp2_with fail
  refine wp_region_quiet_below (by kernel_rfl) (by kernel_rfl) ?_
  repeat (first | go_big_quiet_skip | (go_big_quiet_want; go_big_quiet_op; go_big_quiet_on))
  refine wpQuiet_nil ?_
  intro _ hw'
  obtain ⟨⟨dq, osq⟩, hw''⟩ := hw'
  subst hw''
  have hb := Lib.hid (below_regrown w dq osq)
  generalize grow (redrawn w dq) osq = w5 at hb ⊢
  clear K4 K5 h4 h5
  go_wp2_with fail
  go_ret
  exact retU_mk F3.out hb.out
/-- Do interrupts taken in one mode come in while the hart is in another? -/
def mayI (s : Nat) (m i : Int) : Bool := if m < i then true else if m = i then s.testBit (if i = 3 then 3 else 1) else false
theorem fld_run (v : World) : Sem.run Tryd.prog (Instr.field 44 (.agg #[.int .u64 8, .int .u64 128, .int .u64 6144, .int .i64 11]) 0) v = .ok (.int .u64 8) v := by kernel_rfl
theorem fld_run2 (v : World) : Sem.run Tryd.prog (Instr.field 44 (.agg #[.int .u64 2, .int .u64 32, .int .u64 256, .int .i64 8]) 0) v = .ok (.int .u64 2) v := by kernel_rfl
theorem may_0_3 (s : Nat) (hs : Hid (s < 18446744073709551616)) (w : World) : Calls Tryd.prog 26 #[.int .u64 s, .int .i64 0, .int .i64 3] w (RetB (mayI s 0 3) w) := by
  clear hs
  go_enter Tryd.func26, Tryd.ntmps26
  go_wp2_with fail
  go_ret
  exact retB_mk rfl (Below.refl _ _)
theorem may_1_3 (s : Nat) (hs : Hid (s < 18446744073709551616)) (w : World) : Calls Tryd.prog 26 #[.int .u64 s, .int .i64 1, .int .i64 3] w (RetB (mayI s 1 3) w) := by
  clear hs
  go_enter Tryd.func26, Tryd.ntmps26
  go_wp2_with fail
  go_ret
  exact retB_mk rfl (Below.refl _ _)
theorem may_3_3 (s : Nat) (hs : Hid (s < 18446744073709551616)) (w : World) : Calls Tryd.prog 26 #[.int .u64 s, .int .i64 3, .int .i64 3] w (RetB (mayI s 3 3) w) := by
  have HF := Lib.hid (fun u => fieldsOf_3 u)
  have bm := Lib.hid (bit_mask s 3 hs.out (by decide))
  have fr := fld_run
  clear hs
  go_enter Tryd.func26, Tryd.ntmps26
  go_wp2_with fail
  refine (HF.out _).mono ?_; rintro e w1 ⟨rfl, h⟩
  replace h := Lib.hid h
  go_wp2_with fail
  go_ret
  exact retB_mk bm.out h.out
theorem may_0_1 (s : Nat) (hs : Hid (s < 18446744073709551616)) (w : World) : Calls Tryd.prog 26 #[.int .u64 s, .int .i64 0, .int .i64 1] w (RetB (mayI s 0 1) w) := by
  clear hs
  go_enter Tryd.func26, Tryd.ntmps26
  go_wp2_with fail
  go_ret
  exact retB_mk rfl (Below.refl _ _)
theorem may_1_1 (s : Nat) (hs : Hid (s < 18446744073709551616)) (w : World) : Calls Tryd.prog 26 #[.int .u64 s, .int .i64 1, .int .i64 1] w (RetB (mayI s 1 1) w) := by
  have HF := Lib.hid (fun u => fieldsOf_1 u)
  have bm := Lib.hid (bit_mask s 1 hs.out (by decide))
  have fr := fld_run2
  clear hs
  go_enter Tryd.func26, Tryd.ntmps26
  go_wp2_with fail
  refine (HF.out _).mono ?_; rintro e w1 ⟨rfl, h⟩
  replace h := Lib.hid h
  go_wp2_with fail
  go_ret
  exact retB_mk bm.out h.out
theorem may_3_1 (s : Nat) (hs : Hid (s < 18446744073709551616)) (w : World) : Calls Tryd.prog 26 #[.int .u64 s, .int .i64 3, .int .i64 1] w (RetB (mayI s 3 1) w) := by
  clear hs
  go_enter Tryd.func26, Tryd.ntmps26
  go_wp2_with fail
  go_ret
  exact retB_mk rfl (Below.refl _ _)
end Go.Proofs.YteeifdmnagbjeaaDoor
