/- The walks of TrapBack. -/
import Derived.Test.YteeifdmnagbjeaaDoorM1
namespace Go.Proofs.YteeifdmnagbjeaaDoor
open Go.ChangeShapes Go.WideShapes Go.ChangeAt Go.RowKit Go.Sort Y
set_option linter.unusedVariables false
set_option linter.unusedSimpArgs false

set_option maxRecDepth 100000 in
set_option maxHeartbeats 1000000 in
theorem backS_0 (S : Nat → Nat) (m : Int) (pc c v : Nat) (hS : Hid (OkS S)) (hp : Hid (pc < 18446744073709551616)) (hc : Hid (c < 18446744073709551616)) (hv : Hid (v < 18446744073709551616)) (e3 : (IntKind.u64.wrap m).tmod 3 = 0) (hd : delB S c = true) (w : World) (hG : Hid (G w)) :
    Calls Tryd.prog 5 #[.agg (cs S), .int .i64 m, .int .u64 pc, .int .u64 c, .int .u64 v] w (RetB true w) := by
  obtain ⟨D, hD⟩ : ∃ D, toS S 0 pc c v = D := ⟨_, rfl⟩
  have OD : Hid (OkS D) := by show OkS _; rw [← hD]; exact toS_ok hS.out 0 pc c v (Or.inl rfl) hc.out hv.out
  have D0 : D 0 = eS (S 0) 0 := by rw [← hD]; rfl
  have Dp : D 15 = pc &&& 18446744073709551614 := by rw [← hD]; rfl
  have HE : Hid (∀ u, Calls Tryd.prog 9 #[.agg (cs S), .int .i64 0, .int .u64 pc, .int .u64 c, .int .u64 v] u (RetE D 1 (vecN (S 14) c) u)) := fun u => by
    have := enterS_0 S 0 pc c v hS hp hc hv rfl hd u
    rw [hD] at this; exact this
  have HR : Hid (∀ u, Calls Tryd.prog 11 #[.agg (cs D), .int .i64 50] u (RetE (setN D 0 (lS (D 0))) 0 (D 15) u)) := fun u => retS_0 D OD (by rw [D0]; exact sp_eS (S 0) 0 (Or.inl rfl)) u
  rw [Dp] at HR
  have f1 : bits .andNot .u64 (pc : Int) 1 = ((pc &&& 18446744073709551614 : Nat) : Int) := u_andNot pc 1 hp.out (by decide)
  have s0 := hS.out.u 0 (by decide)
  have b1 : bits .and .u64 ((lS (D 0) : Nat) : Int) 2 = ((S 0 &&& 2 : Nat) : Int) := by
    rw [show bits .and .u64 ((lS (D 0) : Nat) : Int) 2 = ((lS (D 0) &&& 2 : Nat) : Int) from u_and _ 2 (lS_lt _) (by decide), D0, back_S (S 0) 0 (Or.inl rfl)]
  have b2 : bits .and .u64 ((S 0 : Nat) : Int) 2 = ((S 0 &&& 2 : Nat) : Int) := u_and (S 0) 2 s0 (by decide)
  have b3 : bits .and .u64 ((D 0 : Nat) : Int) 2 = 0 := by
    rw [show bits .and .u64 ((D 0 : Nat) : Int) 2 = ((D 0 &&& 2 : Nat) : Int) from u_and (D 0) 2 (OD.out.u 0 (by decide)) (by decide), D0, eS_2 (S 0) 0 (Or.inl rfl)]; rfl
  obtain ⟨E, hE⟩ : ∃ E, setN D 0 (lS (D 0)) = E := ⟨_, rfl⟩
  have E0 : lS (D 0) = E 0 := by rw [← hE]; rfl
  rw [hE] at HR
  rw [E0] at b1
  clear hD hE E0 D0 Dp OD s0 hS hp hc hv
  generalize S 0 &&& 2 = y at b1 b2
  generalize pc &&& 18446744073709551614 = p at f1 HR
  generalize vecN (S 14) c = at0 at HE
  go_enter Tryd.func5, Tryd.ntmps5
  go_wp2_with fail
  refine (awake_c _ (g_alloc hG.out _)).mono ?_; rintro e w1 ⟨rfl, hb⟩
  have HB : Hid (Below w.heap.size w w1) := below_step hb ((Below.refl w.heap.size w).alloc (Nat.le_refl _) _) (by rw [sz_alloc]; omega)
  have RC : Hid (Row (w1.alloc (Obj.cells #[.int .i64 0, .int .i64 1, .int .i64 3] 3)) w.heap.size 26 (cs S)) := row_old ((row_new w (cs S) 26).below hb (by rw [sz_alloc]; exact Nat.lt_succ_self _)) _
  have LC : Hid (w.heap.size < (w1.alloc (Obj.cells #[.int .i64 0, .int .i64 1, .int .i64 3] 3)).heap.size) := by have := hb.size; rw [sz_alloc] at this; show _ < _; rw [sz_alloc]; omega
  replace HB : Hid (Below w.heap.size w (w1.alloc (Obj.cells #[.int .i64 0, .int .i64 1, .int .i64 3] 3))) := HB.out.alloc HB.out.size _
  clear hb hG
  go_wp2_with (refine wpList_load_row rfl 26 _ rfl w.heap.size rfl 26 (cs S) (0, 0) _ RC.out Tryd.underlying26 rfl (infoS _) ?_)
  refine (HE.out _).mono ?_; rintro e w2 ⟨rfl, hb⟩
  replace HB := Lib.hid (below_step hb HB.out HB.out.size)
  replace RC := Lib.hid (RC.out.below hb LC.out)
  replace LC : Hid (w.heap.size < w2.heap.size) := Nat.lt_of_lt_of_le LC.out hb.size
  clear hb HE
  have RD : Hid (Row ((w2.alloc (Obj.cells (cs Z38) 26)).setRow w2.heap.size (cs D)) w2.heap.size 26 (cs D)) := (row_new _ _ _).setRow _
  replace RC : Hid (Row ((w2.alloc (Obj.cells (cs Z38) 26)).setRow w2.heap.size (cs D)) w.heap.size 26 (cs S)) := (row_old RC.out _).setRow_ne (by have := LC.out; omega) _
  have hz : ((w2.alloc (Obj.cells (cs Z38) 26)).setRow w2.heap.size (cs D)).heap.size = w2.heap.size + 1 := by rw [sz_setRow, sz_alloc]
  replace HB : Hid (Below w.heap.size w ((w2.alloc (Obj.cells (cs Z38) 26)).setRow w2.heap.size (cs D))) := below_setRow (HB.out.alloc HB.out.size _) HB.out.size _
  have HZ := Lib.hid hz
  clear hz
  go_wp2_with (first | (refine wpList_store_row rfl 26 _ _ rfl w2.heap.size (cs D) rfl rfl 26 (cs Z38) (row_new _ _ _) (infoS _) rfl (oneS _) ?_) | (refine wpList_load_row rfl 26 _ rfl w2.heap.size rfl 26 (cs D) (0, 0) _ RD.out Tryd.underlying26 rfl (infoS _) ?_))
  refine (HR.out ((w2.alloc (Obj.cells (cs Z38) 26)).setRow w2.heap.size (cs D))).mono ?_; rintro e w3 ⟨rfl, hb⟩
  replace HB := Lib.hid (below_step hb HB.out HB.out.size)
  replace RC := Lib.hid (RC.out.below hb (by rw [HZ.out]; have := LC.out; omega))
  replace RD := Lib.hid (RD.out.below hb (by rw [HZ.out]; exact Nat.lt_succ_self _))
  have LD : Hid (w2.heap.size < w3.heap.size) := by have := hb.size; rw [HZ.out] at this; exact this
  clear hb HR HZ
  obtain ⟨W9, hW9⟩ : ∃ W9, W9 = (w3.alloc (Obj.cells (cs Z38) 26)).setRow w3.heap.size (cs E) := ⟨_, rfl⟩
  have RE : Row W9 w3.heap.size 26 (cs E) := by rw [hW9]; exact (row_new _ _ _).setRow _
  replace RC : Row W9 w.heap.size 26 (cs S) := by rw [hW9]; exact (row_old RC.out _).setRow_ne (by have := LC.out; have := LD.out; omega) _
  replace RD : Row W9 w2.heap.size 26 (cs D) := by rw [hW9]; exact (row_old RD.out _).setRow_ne (by have := LD.out; omega) _
  replace HB : Hid (Below w.heap.size w W9) := by show Below _ _ _; rw [hW9]; exact below_setRow (HB.out.alloc HB.out.size _) HB.out.size _
  have k1 : W9.cell? ⟨w3.heap.size, 0, none⟩ = some (.int .u64 (E 0 : Nat)) := (RE.cell 0).trans rfl
  have k2 : W9.cell? ⟨w.heap.size, 0, none⟩ = some (.int .u64 (S 0 : Nat)) := (RC.cell 0).trans rfl
  have k3 : W9.cell? ⟨w2.heap.size, 0, none⟩ = some (.int .u64 (D 0 : Nat)) := (RD.cell 0).trans rfl
  have HW := Lib.hid hW9
  clear hW9 RE RC RD LC LD
  go_upto_region 9 with (refine wpList_store_row rfl 26 _ _ rfl w3.heap.size (cs E) rfl rfl 26 (cs Z38) (row_new _ _ _) (infoS _) rfl (oneS _) ?_)
  rw [show (w3.alloc (Obj.cells #[.int .u64 0, .int .u64 0, .int .u64 0, .int .u64 0, .int .u64 0, .int .u64 0, .int .u64 0, .int .u64 0, .int .u64 0, .int .u64 0, .int .u64 0, .int .u64 0, .int .u64 0, .int .u64 0, .int .u64 0, .int .u64 0, .int .u64 0, .int .u64 0, .int .u64 0, .int .u64 0, .int .u64 0, .int .u64 0, .int .u8 0, .int .u8 0, .int .u8 0, .int .u8 0, .int .u8 0, .int .u8 0, .int .u8 0, .int .u8 0, .int .u64 0, .int .u64 0, .int .u64 0, .int .u64 0, .int .u64 0, .int .u64 0, .int .u64 0, .int .u64 0] 26)).setRow w3.heap.size (cs E) = W9 from HW.out.symm]
  clear HW
  go_wp2_with fail
  go_ret
  exact retB_mk rfl HB.out
set_option maxRecDepth 100000 in
set_option maxHeartbeats 1000000 in
theorem backS_1 (S : Nat → Nat) (m : Int) (pc c v : Nat) (hS : Hid (OkS S)) (hp : Hid (pc < 18446744073709551616)) (hc : Hid (c < 18446744073709551616)) (hv : Hid (v < 18446744073709551616)) (e3 : (IntKind.u64.wrap m).tmod 3 = 1) (hd : delB S c = true) (w : World) (hG : Hid (G w)) :
    Calls Tryd.prog 5 #[.agg (cs S), .int .i64 m, .int .u64 pc, .int .u64 c, .int .u64 v] w (RetB true w) := by
  obtain ⟨D, hD⟩ : ∃ D, toS S 1 pc c v = D := ⟨_, rfl⟩
  have OD : Hid (OkS D) := by show OkS _; rw [← hD]; exact toS_ok hS.out 1 pc c v (Or.inr rfl) hc.out hv.out
  have D0 : D 0 = eS (S 0) 1 := by rw [← hD]; rfl
  have Dp : D 15 = pc &&& 18446744073709551614 := by rw [← hD]; rfl
  have HE : Hid (∀ u, Calls Tryd.prog 9 #[.agg (cs S), .int .i64 1, .int .u64 pc, .int .u64 c, .int .u64 v] u (RetE D 1 (vecN (S 14) c) u)) := fun u => by
    have := enterS_1 S 1 pc c v hS hp hc hv rfl hd u
    rw [hD] at this; exact this
  have HR : Hid (∀ u, Calls Tryd.prog 11 #[.agg (cs D), .int .i64 50] u (RetE (setN D 0 (lS (D 0))) 1 (D 15) u)) := fun u => retS_1 D OD (by rw [D0]; exact sp_eS (S 0) 1 (Or.inr rfl)) u
  rw [Dp] at HR
  have f1 : bits .andNot .u64 (pc : Int) 1 = ((pc &&& 18446744073709551614 : Nat) : Int) := u_andNot pc 1 hp.out (by decide)
  have s0 := hS.out.u 0 (by decide)
  have b1 : bits .and .u64 ((lS (D 0) : Nat) : Int) 2 = ((S 0 &&& 2 : Nat) : Int) := by
    rw [show bits .and .u64 ((lS (D 0) : Nat) : Int) 2 = ((lS (D 0) &&& 2 : Nat) : Int) from u_and _ 2 (lS_lt _) (by decide), D0, back_S (S 0) 1 (Or.inr rfl)]
  have b2 : bits .and .u64 ((S 0 : Nat) : Int) 2 = ((S 0 &&& 2 : Nat) : Int) := u_and (S 0) 2 s0 (by decide)
  have b3 : bits .and .u64 ((D 0 : Nat) : Int) 2 = 0 := by
    rw [show bits .and .u64 ((D 0 : Nat) : Int) 2 = ((D 0 &&& 2 : Nat) : Int) from u_and (D 0) 2 (OD.out.u 0 (by decide)) (by decide), D0, eS_2 (S 0) 1 (Or.inr rfl)]; rfl
  obtain ⟨E, hE⟩ : ∃ E, setN D 0 (lS (D 0)) = E := ⟨_, rfl⟩
  have E0 : lS (D 0) = E 0 := by rw [← hE]; rfl
  rw [hE] at HR
  rw [E0] at b1
  clear hD hE E0 D0 Dp OD s0 hS hp hc hv
  generalize S 0 &&& 2 = y at b1 b2
  generalize pc &&& 18446744073709551614 = p at f1 HR
  generalize vecN (S 14) c = at0 at HE
  go_enter Tryd.func5, Tryd.ntmps5
  go_wp2_with fail
  refine (awake_c _ (g_alloc hG.out _)).mono ?_; rintro e w1 ⟨rfl, hb⟩
  have HB : Hid (Below w.heap.size w w1) := below_step hb ((Below.refl w.heap.size w).alloc (Nat.le_refl _) _) (by rw [sz_alloc]; omega)
  have RC : Hid (Row (w1.alloc (Obj.cells #[.int .i64 0, .int .i64 1, .int .i64 3] 3)) w.heap.size 26 (cs S)) := row_old ((row_new w (cs S) 26).below hb (by rw [sz_alloc]; exact Nat.lt_succ_self _)) _
  have LC : Hid (w.heap.size < (w1.alloc (Obj.cells #[.int .i64 0, .int .i64 1, .int .i64 3] 3)).heap.size) := by have := hb.size; rw [sz_alloc] at this; show _ < _; rw [sz_alloc]; omega
  replace HB : Hid (Below w.heap.size w (w1.alloc (Obj.cells #[.int .i64 0, .int .i64 1, .int .i64 3] 3))) := HB.out.alloc HB.out.size _
  clear hb hG
  go_wp2_with (refine wpList_load_row rfl 26 _ rfl w.heap.size rfl 26 (cs S) (0, 0) _ RC.out Tryd.underlying26 rfl (infoS _) ?_)
  refine (HE.out _).mono ?_; rintro e w2 ⟨rfl, hb⟩
  replace HB := Lib.hid (below_step hb HB.out HB.out.size)
  replace RC := Lib.hid (RC.out.below hb LC.out)
  replace LC : Hid (w.heap.size < w2.heap.size) := Nat.lt_of_lt_of_le LC.out hb.size
  clear hb HE
  have RD : Hid (Row ((w2.alloc (Obj.cells (cs Z38) 26)).setRow w2.heap.size (cs D)) w2.heap.size 26 (cs D)) := (row_new _ _ _).setRow _
  replace RC : Hid (Row ((w2.alloc (Obj.cells (cs Z38) 26)).setRow w2.heap.size (cs D)) w.heap.size 26 (cs S)) := (row_old RC.out _).setRow_ne (by have := LC.out; omega) _
  have hz : ((w2.alloc (Obj.cells (cs Z38) 26)).setRow w2.heap.size (cs D)).heap.size = w2.heap.size + 1 := by rw [sz_setRow, sz_alloc]
  replace HB : Hid (Below w.heap.size w ((w2.alloc (Obj.cells (cs Z38) 26)).setRow w2.heap.size (cs D))) := below_setRow (HB.out.alloc HB.out.size _) HB.out.size _
  have HZ := Lib.hid hz
  clear hz
  go_wp2_with (first | (refine wpList_store_row rfl 26 _ _ rfl w2.heap.size (cs D) rfl rfl 26 (cs Z38) (row_new _ _ _) (infoS _) rfl (oneS _) ?_) | (refine wpList_load_row rfl 26 _ rfl w2.heap.size rfl 26 (cs D) (0, 0) _ RD.out Tryd.underlying26 rfl (infoS _) ?_))
  refine (HR.out ((w2.alloc (Obj.cells (cs Z38) 26)).setRow w2.heap.size (cs D))).mono ?_; rintro e w3 ⟨rfl, hb⟩
  replace HB := Lib.hid (below_step hb HB.out HB.out.size)
  replace RC := Lib.hid (RC.out.below hb (by rw [HZ.out]; have := LC.out; omega))
  replace RD := Lib.hid (RD.out.below hb (by rw [HZ.out]; exact Nat.lt_succ_self _))
  have LD : Hid (w2.heap.size < w3.heap.size) := by have := hb.size; rw [HZ.out] at this; exact this
  clear hb HR HZ
  obtain ⟨W9, hW9⟩ : ∃ W9, W9 = (w3.alloc (Obj.cells (cs Z38) 26)).setRow w3.heap.size (cs E) := ⟨_, rfl⟩
  have RE : Row W9 w3.heap.size 26 (cs E) := by rw [hW9]; exact (row_new _ _ _).setRow _
  replace RC : Row W9 w.heap.size 26 (cs S) := by rw [hW9]; exact (row_old RC.out _).setRow_ne (by have := LC.out; have := LD.out; omega) _
  replace RD : Row W9 w2.heap.size 26 (cs D) := by rw [hW9]; exact (row_old RD.out _).setRow_ne (by have := LD.out; omega) _
  replace HB : Hid (Below w.heap.size w W9) := by show Below _ _ _; rw [hW9]; exact below_setRow (HB.out.alloc HB.out.size _) HB.out.size _
  have k1 : W9.cell? ⟨w3.heap.size, 0, none⟩ = some (.int .u64 (E 0 : Nat)) := (RE.cell 0).trans rfl
  have k2 : W9.cell? ⟨w.heap.size, 0, none⟩ = some (.int .u64 (S 0 : Nat)) := (RC.cell 0).trans rfl
  have k3 : W9.cell? ⟨w2.heap.size, 0, none⟩ = some (.int .u64 (D 0 : Nat)) := (RD.cell 0).trans rfl
  have HW := Lib.hid hW9
  clear hW9 RE RC RD LC LD
  go_upto_region 9 with (refine wpList_store_row rfl 26 _ _ rfl w3.heap.size (cs E) rfl rfl 26 (cs Z38) (row_new _ _ _) (infoS _) rfl (oneS _) ?_)
  rw [show (w3.alloc (Obj.cells #[.int .u64 0, .int .u64 0, .int .u64 0, .int .u64 0, .int .u64 0, .int .u64 0, .int .u64 0, .int .u64 0, .int .u64 0, .int .u64 0, .int .u64 0, .int .u64 0, .int .u64 0, .int .u64 0, .int .u64 0, .int .u64 0, .int .u64 0, .int .u64 0, .int .u64 0, .int .u64 0, .int .u64 0, .int .u64 0, .int .u8 0, .int .u8 0, .int .u8 0, .int .u8 0, .int .u8 0, .int .u8 0, .int .u8 0, .int .u8 0, .int .u64 0, .int .u64 0, .int .u64 0, .int .u64 0, .int .u64 0, .int .u64 0, .int .u64 0, .int .u64 0] 26)).setRow w3.heap.size (cs E) = W9 from HW.out.symm]
  clear HW
  go_wp2_with fail
  go_ret
  exact retB_mk rfl HB.out
set_option maxRecDepth 100000 in
set_option maxHeartbeats 1000000 in
theorem backM_0 (S : Nat → Nat) (m : Int) (pc c v : Nat) (hS : Hid (OkS S)) (hp : Hid (pc < 18446744073709551616)) (hc : Hid (c < 18446744073709551616)) (hv : Hid (v < 18446744073709551616)) (e3 : (IntKind.u64.wrap m).tmod 3 = 0) (hd : delB S c = false) (w : World) (hG : Hid (G w)) :
    Calls Tryd.prog 5 #[.agg (cs S), .int .i64 m, .int .u64 pc, .int .u64 c, .int .u64 v] w (RetB true w) := by
  obtain ⟨D, hD⟩ : ∃ D, toM S 0 pc c v = D := ⟨_, rfl⟩
  have OD : Hid (OkS D) := by show OkS _; rw [← hD]; exact toM_ok hS.out 0 pc c v (Or.inl rfl) hc.out hv.out
  have D0 : D 0 = eM (S 0) 0 := by rw [← hD]; rfl
  have Dp : D 6 = pc &&& 18446744073709551614 := by rw [← hD]; rfl
  have HE : Hid (∀ u, Calls Tryd.prog 9 #[.agg (cs S), .int .i64 0, .int .u64 pc, .int .u64 c, .int .u64 v] u (RetE D 3 (vecN (S 1) c) u)) := fun u => by
    have := enterM_0 S 0 pc c v hS hp hc hv rfl hd u
    rw [hD] at this; exact this
  have HR : Hid (∀ u, Calls Tryd.prog 11 #[.agg (cs D), .int .i64 49] u (RetE (setN D 0 (lM (D 0) 0)) 0 (D 6) u)) := fun u => retM_0 D OD (by rw [D0]; exact mp_eM (S 0) 0 (Or.inl rfl)) u
  rw [Dp] at HR
  have f1 : bits .andNot .u64 (pc : Int) 1 = ((pc &&& 18446744073709551614 : Nat) : Int) := u_andNot pc 1 hp.out (by decide)
  have s0 := hS.out.u 0 (by decide)
  have b1 : bits .and .u64 ((lM (D 0) 0 : Nat) : Int) 8 = ((S 0 &&& 8 : Nat) : Int) := by
    rw [show bits .and .u64 ((lM (D 0) 0 : Nat) : Int) 8 = ((lM (D 0) 0 &&& 8 : Nat) : Int) from u_and _ 8 (lM_lt _ 0) (by decide), D0, back_M (S 0) 0 (Or.inl rfl) 0]
  have b2 : bits .and .u64 ((S 0 : Nat) : Int) 8 = ((S 0 &&& 8 : Nat) : Int) := u_and (S 0) 8 s0 (by decide)
  have b3 : bits .and .u64 ((D 0 : Nat) : Int) 8 = 0 := by
    rw [show bits .and .u64 ((D 0 : Nat) : Int) 8 = ((D 0 &&& 8 : Nat) : Int) from u_and (D 0) 8 (OD.out.u 0 (by decide)) (by decide), D0, eM_8 (S 0) 0 (Or.inl rfl)]; rfl
  obtain ⟨E, hE⟩ : ∃ E, setN D 0 (lM (D 0) 0) = E := ⟨_, rfl⟩
  have E0 : lM (D 0) 0 = E 0 := by rw [← hE]; rfl
  rw [hE] at HR
  rw [E0] at b1
  clear hD hE E0 D0 Dp OD s0 hS hp hc hv
  generalize S 0 &&& 8 = y at b1 b2
  generalize pc &&& 18446744073709551614 = p at f1 HR
  generalize vecN (S 1) c = at0 at HE
  go_enter Tryd.func5, Tryd.ntmps5
  go_wp2_with fail
  refine (awake_c _ (g_alloc hG.out _)).mono ?_; rintro e w1 ⟨rfl, hb⟩
  have HB : Hid (Below w.heap.size w w1) := below_step hb ((Below.refl w.heap.size w).alloc (Nat.le_refl _) _) (by rw [sz_alloc]; omega)
  have RC : Hid (Row (w1.alloc (Obj.cells #[.int .i64 0, .int .i64 1, .int .i64 3] 3)) w.heap.size 26 (cs S)) := row_old ((row_new w (cs S) 26).below hb (by rw [sz_alloc]; exact Nat.lt_succ_self _)) _
  have LC : Hid (w.heap.size < (w1.alloc (Obj.cells #[.int .i64 0, .int .i64 1, .int .i64 3] 3)).heap.size) := by have := hb.size; rw [sz_alloc] at this; show _ < _; rw [sz_alloc]; omega
  replace HB : Hid (Below w.heap.size w (w1.alloc (Obj.cells #[.int .i64 0, .int .i64 1, .int .i64 3] 3))) := HB.out.alloc HB.out.size _
  clear hb hG
  go_wp2_with (refine wpList_load_row rfl 26 _ rfl w.heap.size rfl 26 (cs S) (0, 0) _ RC.out Tryd.underlying26 rfl (infoS _) ?_)
  refine (HE.out _).mono ?_; rintro e w2 ⟨rfl, hb⟩
  replace HB := Lib.hid (below_step hb HB.out HB.out.size)
  replace RC := Lib.hid (RC.out.below hb LC.out)
  replace LC : Hid (w.heap.size < w2.heap.size) := Nat.lt_of_lt_of_le LC.out hb.size
  clear hb HE
  have RD : Hid (Row ((w2.alloc (Obj.cells (cs Z38) 26)).setRow w2.heap.size (cs D)) w2.heap.size 26 (cs D)) := (row_new _ _ _).setRow _
  replace RC : Hid (Row ((w2.alloc (Obj.cells (cs Z38) 26)).setRow w2.heap.size (cs D)) w.heap.size 26 (cs S)) := (row_old RC.out _).setRow_ne (by have := LC.out; omega) _
  have hz : ((w2.alloc (Obj.cells (cs Z38) 26)).setRow w2.heap.size (cs D)).heap.size = w2.heap.size + 1 := by rw [sz_setRow, sz_alloc]
  replace HB : Hid (Below w.heap.size w ((w2.alloc (Obj.cells (cs Z38) 26)).setRow w2.heap.size (cs D))) := below_setRow (HB.out.alloc HB.out.size _) HB.out.size _
  have HZ := Lib.hid hz
  clear hz
  go_wp2_with (first | (refine wpList_store_row rfl 26 _ _ rfl w2.heap.size (cs D) rfl rfl 26 (cs Z38) (row_new _ _ _) (infoS _) rfl (oneS _) ?_) | (refine wpList_load_row rfl 26 _ rfl w2.heap.size rfl 26 (cs D) (0, 0) _ RD.out Tryd.underlying26 rfl (infoS _) ?_))
  refine (HR.out ((w2.alloc (Obj.cells (cs Z38) 26)).setRow w2.heap.size (cs D))).mono ?_; rintro e w3 ⟨rfl, hb⟩
  replace HB := Lib.hid (below_step hb HB.out HB.out.size)
  replace RC := Lib.hid (RC.out.below hb (by rw [HZ.out]; have := LC.out; omega))
  replace RD := Lib.hid (RD.out.below hb (by rw [HZ.out]; exact Nat.lt_succ_self _))
  have LD : Hid (w2.heap.size < w3.heap.size) := by have := hb.size; rw [HZ.out] at this; exact this
  clear hb HR HZ
  obtain ⟨W9, hW9⟩ : ∃ W9, W9 = (w3.alloc (Obj.cells (cs Z38) 26)).setRow w3.heap.size (cs E) := ⟨_, rfl⟩
  have RE : Row W9 w3.heap.size 26 (cs E) := by rw [hW9]; exact (row_new _ _ _).setRow _
  replace RC : Row W9 w.heap.size 26 (cs S) := by rw [hW9]; exact (row_old RC.out _).setRow_ne (by have := LC.out; have := LD.out; omega) _
  replace RD : Row W9 w2.heap.size 26 (cs D) := by rw [hW9]; exact (row_old RD.out _).setRow_ne (by have := LD.out; omega) _
  replace HB : Hid (Below w.heap.size w W9) := by show Below _ _ _; rw [hW9]; exact below_setRow (HB.out.alloc HB.out.size _) HB.out.size _
  have k1 : W9.cell? ⟨w3.heap.size, 0, none⟩ = some (.int .u64 (E 0 : Nat)) := (RE.cell 0).trans rfl
  have k2 : W9.cell? ⟨w.heap.size, 0, none⟩ = some (.int .u64 (S 0 : Nat)) := (RC.cell 0).trans rfl
  have k3 : W9.cell? ⟨w2.heap.size, 0, none⟩ = some (.int .u64 (D 0 : Nat)) := (RD.cell 0).trans rfl
  have HW := Lib.hid hW9
  clear hW9 RE RC RD LC LD
  go_upto_region 9 with (refine wpList_store_row rfl 26 _ _ rfl w3.heap.size (cs E) rfl rfl 26 (cs Z38) (row_new _ _ _) (infoS _) rfl (oneS _) ?_)
  rw [show (w3.alloc (Obj.cells #[.int .u64 0, .int .u64 0, .int .u64 0, .int .u64 0, .int .u64 0, .int .u64 0, .int .u64 0, .int .u64 0, .int .u64 0, .int .u64 0, .int .u64 0, .int .u64 0, .int .u64 0, .int .u64 0, .int .u64 0, .int .u64 0, .int .u64 0, .int .u64 0, .int .u64 0, .int .u64 0, .int .u64 0, .int .u64 0, .int .u8 0, .int .u8 0, .int .u8 0, .int .u8 0, .int .u8 0, .int .u8 0, .int .u8 0, .int .u8 0, .int .u64 0, .int .u64 0, .int .u64 0, .int .u64 0, .int .u64 0, .int .u64 0, .int .u64 0, .int .u64 0] 26)).setRow w3.heap.size (cs E) = W9 from HW.out.symm]
  clear HW
  go_wp2_with fail
  go_ret
  exact retB_mk rfl HB.out
set_option maxRecDepth 100000 in
set_option maxHeartbeats 1000000 in
theorem backM_1 (S : Nat → Nat) (m : Int) (pc c v : Nat) (hS : Hid (OkS S)) (hp : Hid (pc < 18446744073709551616)) (hc : Hid (c < 18446744073709551616)) (hv : Hid (v < 18446744073709551616)) (e3 : (IntKind.u64.wrap m).tmod 3 = 1) (hd : delB S c = false) (w : World) (hG : Hid (G w)) :
    Calls Tryd.prog 5 #[.agg (cs S), .int .i64 m, .int .u64 pc, .int .u64 c, .int .u64 v] w (RetB true w) := by
  obtain ⟨D, hD⟩ : ∃ D, toM S 1 pc c v = D := ⟨_, rfl⟩
  have OD : Hid (OkS D) := by show OkS _; rw [← hD]; exact toM_ok hS.out 1 pc c v (Or.inr (Or.inl rfl)) hc.out hv.out
  have D0 : D 0 = eM (S 0) 1 := by rw [← hD]; rfl
  have Dp : D 6 = pc &&& 18446744073709551614 := by rw [← hD]; rfl
  have HE : Hid (∀ u, Calls Tryd.prog 9 #[.agg (cs S), .int .i64 1, .int .u64 pc, .int .u64 c, .int .u64 v] u (RetE D 3 (vecN (S 1) c) u)) := fun u => by
    have := enterM_1 S 1 pc c v hS hp hc hv rfl hd u
    rw [hD] at this; exact this
  have HR : Hid (∀ u, Calls Tryd.prog 11 #[.agg (cs D), .int .i64 49] u (RetE (setN D 0 (lM (D 0) 1)) 1 (D 6) u)) := fun u => retM_1 D OD (by rw [D0]; exact mp_eM (S 0) 1 (Or.inr (Or.inl rfl))) u
  rw [Dp] at HR
  have f1 : bits .andNot .u64 (pc : Int) 1 = ((pc &&& 18446744073709551614 : Nat) : Int) := u_andNot pc 1 hp.out (by decide)
  have s0 := hS.out.u 0 (by decide)
  have b1 : bits .and .u64 ((lM (D 0) 1 : Nat) : Int) 8 = ((S 0 &&& 8 : Nat) : Int) := by
    rw [show bits .and .u64 ((lM (D 0) 1 : Nat) : Int) 8 = ((lM (D 0) 1 &&& 8 : Nat) : Int) from u_and _ 8 (lM_lt _ 1) (by decide), D0, back_M (S 0) 1 (Or.inr (Or.inl rfl)) 1]
  have b2 : bits .and .u64 ((S 0 : Nat) : Int) 8 = ((S 0 &&& 8 : Nat) : Int) := u_and (S 0) 8 s0 (by decide)
  have b3 : bits .and .u64 ((D 0 : Nat) : Int) 8 = 0 := by
    rw [show bits .and .u64 ((D 0 : Nat) : Int) 8 = ((D 0 &&& 8 : Nat) : Int) from u_and (D 0) 8 (OD.out.u 0 (by decide)) (by decide), D0, eM_8 (S 0) 1 (Or.inr (Or.inl rfl))]; rfl
  obtain ⟨E, hE⟩ : ∃ E, setN D 0 (lM (D 0) 1) = E := ⟨_, rfl⟩
  have E0 : lM (D 0) 1 = E 0 := by rw [← hE]; rfl
  rw [hE] at HR
  rw [E0] at b1
  clear hD hE E0 D0 Dp OD s0 hS hp hc hv
  generalize S 0 &&& 8 = y at b1 b2
  generalize pc &&& 18446744073709551614 = p at f1 HR
  generalize vecN (S 1) c = at0 at HE
  go_enter Tryd.func5, Tryd.ntmps5
  go_wp2_with fail
  refine (awake_c _ (g_alloc hG.out _)).mono ?_; rintro e w1 ⟨rfl, hb⟩
  have HB : Hid (Below w.heap.size w w1) := below_step hb ((Below.refl w.heap.size w).alloc (Nat.le_refl _) _) (by rw [sz_alloc]; omega)
  have RC : Hid (Row (w1.alloc (Obj.cells #[.int .i64 0, .int .i64 1, .int .i64 3] 3)) w.heap.size 26 (cs S)) := row_old ((row_new w (cs S) 26).below hb (by rw [sz_alloc]; exact Nat.lt_succ_self _)) _
  have LC : Hid (w.heap.size < (w1.alloc (Obj.cells #[.int .i64 0, .int .i64 1, .int .i64 3] 3)).heap.size) := by have := hb.size; rw [sz_alloc] at this; show _ < _; rw [sz_alloc]; omega
  replace HB : Hid (Below w.heap.size w (w1.alloc (Obj.cells #[.int .i64 0, .int .i64 1, .int .i64 3] 3))) := HB.out.alloc HB.out.size _
  clear hb hG
  go_wp2_with (refine wpList_load_row rfl 26 _ rfl w.heap.size rfl 26 (cs S) (0, 0) _ RC.out Tryd.underlying26 rfl (infoS _) ?_)
  refine (HE.out _).mono ?_; rintro e w2 ⟨rfl, hb⟩
  replace HB := Lib.hid (below_step hb HB.out HB.out.size)
  replace RC := Lib.hid (RC.out.below hb LC.out)
  replace LC : Hid (w.heap.size < w2.heap.size) := Nat.lt_of_lt_of_le LC.out hb.size
  clear hb HE
  have RD : Hid (Row ((w2.alloc (Obj.cells (cs Z38) 26)).setRow w2.heap.size (cs D)) w2.heap.size 26 (cs D)) := (row_new _ _ _).setRow _
  replace RC : Hid (Row ((w2.alloc (Obj.cells (cs Z38) 26)).setRow w2.heap.size (cs D)) w.heap.size 26 (cs S)) := (row_old RC.out _).setRow_ne (by have := LC.out; omega) _
  have hz : ((w2.alloc (Obj.cells (cs Z38) 26)).setRow w2.heap.size (cs D)).heap.size = w2.heap.size + 1 := by rw [sz_setRow, sz_alloc]
  replace HB : Hid (Below w.heap.size w ((w2.alloc (Obj.cells (cs Z38) 26)).setRow w2.heap.size (cs D))) := below_setRow (HB.out.alloc HB.out.size _) HB.out.size _
  have HZ := Lib.hid hz
  clear hz
  go_wp2_with (first | (refine wpList_store_row rfl 26 _ _ rfl w2.heap.size (cs D) rfl rfl 26 (cs Z38) (row_new _ _ _) (infoS _) rfl (oneS _) ?_) | (refine wpList_load_row rfl 26 _ rfl w2.heap.size rfl 26 (cs D) (0, 0) _ RD.out Tryd.underlying26 rfl (infoS _) ?_))
  refine (HR.out ((w2.alloc (Obj.cells (cs Z38) 26)).setRow w2.heap.size (cs D))).mono ?_; rintro e w3 ⟨rfl, hb⟩
  replace HB := Lib.hid (below_step hb HB.out HB.out.size)
  replace RC := Lib.hid (RC.out.below hb (by rw [HZ.out]; have := LC.out; omega))
  replace RD := Lib.hid (RD.out.below hb (by rw [HZ.out]; exact Nat.lt_succ_self _))
  have LD : Hid (w2.heap.size < w3.heap.size) := by have := hb.size; rw [HZ.out] at this; exact this
  clear hb HR HZ
  obtain ⟨W9, hW9⟩ : ∃ W9, W9 = (w3.alloc (Obj.cells (cs Z38) 26)).setRow w3.heap.size (cs E) := ⟨_, rfl⟩
  have RE : Row W9 w3.heap.size 26 (cs E) := by rw [hW9]; exact (row_new _ _ _).setRow _
  replace RC : Row W9 w.heap.size 26 (cs S) := by rw [hW9]; exact (row_old RC.out _).setRow_ne (by have := LC.out; have := LD.out; omega) _
  replace RD : Row W9 w2.heap.size 26 (cs D) := by rw [hW9]; exact (row_old RD.out _).setRow_ne (by have := LD.out; omega) _
  replace HB : Hid (Below w.heap.size w W9) := by show Below _ _ _; rw [hW9]; exact below_setRow (HB.out.alloc HB.out.size _) HB.out.size _
  have k1 : W9.cell? ⟨w3.heap.size, 0, none⟩ = some (.int .u64 (E 0 : Nat)) := (RE.cell 0).trans rfl
  have k2 : W9.cell? ⟨w.heap.size, 0, none⟩ = some (.int .u64 (S 0 : Nat)) := (RC.cell 0).trans rfl
  have k3 : W9.cell? ⟨w2.heap.size, 0, none⟩ = some (.int .u64 (D 0 : Nat)) := (RD.cell 0).trans rfl
  have HW := Lib.hid hW9
  clear hW9 RE RC RD LC LD
  go_upto_region 9 with (refine wpList_store_row rfl 26 _ _ rfl w3.heap.size (cs E) rfl rfl 26 (cs Z38) (row_new _ _ _) (infoS _) rfl (oneS _) ?_)
  rw [show (w3.alloc (Obj.cells #[.int .u64 0, .int .u64 0, .int .u64 0, .int .u64 0, .int .u64 0, .int .u64 0, .int .u64 0, .int .u64 0, .int .u64 0, .int .u64 0, .int .u64 0, .int .u64 0, .int .u64 0, .int .u64 0, .int .u64 0, .int .u64 0, .int .u64 0, .int .u64 0, .int .u64 0, .int .u64 0, .int .u64 0, .int .u64 0, .int .u8 0, .int .u8 0, .int .u8 0, .int .u8 0, .int .u8 0, .int .u8 0, .int .u8 0, .int .u8 0, .int .u64 0, .int .u64 0, .int .u64 0, .int .u64 0, .int .u64 0, .int .u64 0, .int .u64 0, .int .u64 0] 26)).setRow w3.heap.size (cs E) = W9 from HW.out.symm]
  clear HW
  go_wp2_with fail
  go_ret
  exact retB_mk rfl HB.out
set_option maxRecDepth 100000 in
set_option maxHeartbeats 1000000 in
theorem backM_3 (S : Nat → Nat) (m : Int) (pc c v : Nat) (hS : Hid (OkS S)) (hp : Hid (pc < 18446744073709551616)) (hc : Hid (c < 18446744073709551616)) (hv : Hid (v < 18446744073709551616)) (e3 : (IntKind.u64.wrap m).tmod 3 = 2) (w : World) (hG : Hid (G w)) :
    Calls Tryd.prog 5 #[.agg (cs S), .int .i64 m, .int .u64 pc, .int .u64 c, .int .u64 v] w (RetB true w) := by
  obtain ⟨D, hD⟩ : ∃ D, toM S 3 pc c v = D := ⟨_, rfl⟩
  have OD : Hid (OkS D) := by show OkS _; rw [← hD]; exact toM_ok hS.out 3 pc c v (Or.inr (Or.inr rfl)) hc.out hv.out
  have D0 : D 0 = eM (S 0) 3 := by rw [← hD]; rfl
  have Dp : D 6 = pc &&& 18446744073709551614 := by rw [← hD]; rfl
  have HE : Hid (∀ u, Calls Tryd.prog 9 #[.agg (cs S), .int .i64 3, .int .u64 pc, .int .u64 c, .int .u64 v] u (RetE D 3 (vecN (S 1) c) u)) := fun u => by
    have := enterM_3 S 3 pc c v hS hp hc hv rfl u
    rw [hD] at this; exact this
  have HR : Hid (∀ u, Calls Tryd.prog 11 #[.agg (cs D), .int .i64 49] u (RetE (setN D 0 (lM (D 0) 3)) 3 (D 6) u)) := fun u => retM_3 D OD (by rw [D0]; exact mp_eM (S 0) 3 (Or.inr (Or.inr rfl))) u
  rw [Dp] at HR
  have f1 : bits .andNot .u64 (pc : Int) 1 = ((pc &&& 18446744073709551614 : Nat) : Int) := u_andNot pc 1 hp.out (by decide)
  have s0 := hS.out.u 0 (by decide)
  have b1 : bits .and .u64 ((lM (D 0) 3 : Nat) : Int) 8 = ((S 0 &&& 8 : Nat) : Int) := by
    rw [show bits .and .u64 ((lM (D 0) 3 : Nat) : Int) 8 = ((lM (D 0) 3 &&& 8 : Nat) : Int) from u_and _ 8 (lM_lt _ 3) (by decide), D0, back_M (S 0) 3 (Or.inr (Or.inr rfl)) 3]
  have b2 : bits .and .u64 ((S 0 : Nat) : Int) 8 = ((S 0 &&& 8 : Nat) : Int) := u_and (S 0) 8 s0 (by decide)
  have b3 : bits .and .u64 ((D 0 : Nat) : Int) 8 = 0 := by
    rw [show bits .and .u64 ((D 0 : Nat) : Int) 8 = ((D 0 &&& 8 : Nat) : Int) from u_and (D 0) 8 (OD.out.u 0 (by decide)) (by decide), D0, eM_8 (S 0) 3 (Or.inr (Or.inr rfl))]; rfl
  obtain ⟨E, hE⟩ : ∃ E, setN D 0 (lM (D 0) 3) = E := ⟨_, rfl⟩
  have E0 : lM (D 0) 3 = E 0 := by rw [← hE]; rfl
  rw [hE] at HR
  rw [E0] at b1
  clear hD hE E0 D0 Dp OD s0 hS hp hc hv
  generalize S 0 &&& 8 = y at b1 b2
  generalize pc &&& 18446744073709551614 = p at f1 HR
  generalize vecN (S 1) c = at0 at HE
  go_enter Tryd.func5, Tryd.ntmps5
  go_wp2_with fail
  refine (awake_c _ (g_alloc hG.out _)).mono ?_; rintro e w1 ⟨rfl, hb⟩
  have HB : Hid (Below w.heap.size w w1) := below_step hb ((Below.refl w.heap.size w).alloc (Nat.le_refl _) _) (by rw [sz_alloc]; omega)
  have RC : Hid (Row (w1.alloc (Obj.cells #[.int .i64 0, .int .i64 1, .int .i64 3] 3)) w.heap.size 26 (cs S)) := row_old ((row_new w (cs S) 26).below hb (by rw [sz_alloc]; exact Nat.lt_succ_self _)) _
  have LC : Hid (w.heap.size < (w1.alloc (Obj.cells #[.int .i64 0, .int .i64 1, .int .i64 3] 3)).heap.size) := by have := hb.size; rw [sz_alloc] at this; show _ < _; rw [sz_alloc]; omega
  replace HB : Hid (Below w.heap.size w (w1.alloc (Obj.cells #[.int .i64 0, .int .i64 1, .int .i64 3] 3))) := HB.out.alloc HB.out.size _
  clear hb hG
  go_wp2_with (refine wpList_load_row rfl 26 _ rfl w.heap.size rfl 26 (cs S) (0, 0) _ RC.out Tryd.underlying26 rfl (infoS _) ?_)
  refine (HE.out _).mono ?_; rintro e w2 ⟨rfl, hb⟩
  replace HB := Lib.hid (below_step hb HB.out HB.out.size)
  replace RC := Lib.hid (RC.out.below hb LC.out)
  replace LC : Hid (w.heap.size < w2.heap.size) := Nat.lt_of_lt_of_le LC.out hb.size
  clear hb HE
  have RD : Hid (Row ((w2.alloc (Obj.cells (cs Z38) 26)).setRow w2.heap.size (cs D)) w2.heap.size 26 (cs D)) := (row_new _ _ _).setRow _
  replace RC : Hid (Row ((w2.alloc (Obj.cells (cs Z38) 26)).setRow w2.heap.size (cs D)) w.heap.size 26 (cs S)) := (row_old RC.out _).setRow_ne (by have := LC.out; omega) _
  have hz : ((w2.alloc (Obj.cells (cs Z38) 26)).setRow w2.heap.size (cs D)).heap.size = w2.heap.size + 1 := by rw [sz_setRow, sz_alloc]
  replace HB : Hid (Below w.heap.size w ((w2.alloc (Obj.cells (cs Z38) 26)).setRow w2.heap.size (cs D))) := below_setRow (HB.out.alloc HB.out.size _) HB.out.size _
  have HZ := Lib.hid hz
  clear hz
  go_wp2_with (first | (refine wpList_store_row rfl 26 _ _ rfl w2.heap.size (cs D) rfl rfl 26 (cs Z38) (row_new _ _ _) (infoS _) rfl (oneS _) ?_) | (refine wpList_load_row rfl 26 _ rfl w2.heap.size rfl 26 (cs D) (0, 0) _ RD.out Tryd.underlying26 rfl (infoS _) ?_))
  refine (HR.out ((w2.alloc (Obj.cells (cs Z38) 26)).setRow w2.heap.size (cs D))).mono ?_; rintro e w3 ⟨rfl, hb⟩
  replace HB := Lib.hid (below_step hb HB.out HB.out.size)
  replace RC := Lib.hid (RC.out.below hb (by rw [HZ.out]; have := LC.out; omega))
  replace RD := Lib.hid (RD.out.below hb (by rw [HZ.out]; exact Nat.lt_succ_self _))
  have LD : Hid (w2.heap.size < w3.heap.size) := by have := hb.size; rw [HZ.out] at this; exact this
  clear hb HR HZ
  obtain ⟨W9, hW9⟩ : ∃ W9, W9 = (w3.alloc (Obj.cells (cs Z38) 26)).setRow w3.heap.size (cs E) := ⟨_, rfl⟩
  have RE : Row W9 w3.heap.size 26 (cs E) := by rw [hW9]; exact (row_new _ _ _).setRow _
  replace RC : Row W9 w.heap.size 26 (cs S) := by rw [hW9]; exact (row_old RC.out _).setRow_ne (by have := LC.out; have := LD.out; omega) _
  replace RD : Row W9 w2.heap.size 26 (cs D) := by rw [hW9]; exact (row_old RD.out _).setRow_ne (by have := LD.out; omega) _
  replace HB : Hid (Below w.heap.size w W9) := by show Below _ _ _; rw [hW9]; exact below_setRow (HB.out.alloc HB.out.size _) HB.out.size _
  have k1 : W9.cell? ⟨w3.heap.size, 0, none⟩ = some (.int .u64 (E 0 : Nat)) := (RE.cell 0).trans rfl
  have k2 : W9.cell? ⟨w.heap.size, 0, none⟩ = some (.int .u64 (S 0 : Nat)) := (RC.cell 0).trans rfl
  have k3 : W9.cell? ⟨w2.heap.size, 0, none⟩ = some (.int .u64 (D 0 : Nat)) := (RD.cell 0).trans rfl
  have HW := Lib.hid hW9
  clear hW9 RE RC RD LC LD
  go_upto_region 9 with (refine wpList_store_row rfl 26 _ _ rfl w3.heap.size (cs E) rfl rfl 26 (cs Z38) (row_new _ _ _) (infoS _) rfl (oneS _) ?_)
  rw [show (w3.alloc (Obj.cells #[.int .u64 0, .int .u64 0, .int .u64 0, .int .u64 0, .int .u64 0, .int .u64 0, .int .u64 0, .int .u64 0, .int .u64 0, .int .u64 0, .int .u64 0, .int .u64 0, .int .u64 0, .int .u64 0, .int .u64 0, .int .u64 0, .int .u64 0, .int .u64 0, .int .u64 0, .int .u64 0, .int .u64 0, .int .u64 0, .int .u8 0, .int .u8 0, .int .u8 0, .int .u8 0, .int .u8 0, .int .u8 0, .int .u8 0, .int .u8 0, .int .u64 0, .int .u64 0, .int .u64 0, .int .u64 0, .int .u64 0, .int .u64 0, .int .u64 0, .int .u64 0] 26)).setRow w3.heap.size (cs E) = W9 from HW.out.symm]
  clear HW
  go_wp2_with fail
  go_ret
  exact retB_mk rfl HB.out
theorem three_way (m : Int) : (IntKind.u64.wrap m).tmod 3 = 0 ∨ (IntKind.u64.wrap m).tmod 3 = 1 ∨ (IntKind.u64.wrap m).tmod 3 = 2 := by
  have h : 0 ≤ IntKind.u64.wrap m := by rw [IntKind.wrap_u64]; omega
  rw [Int.tmod_eq_emod_of_nonneg h]; omega
theorem back_core (S : Nat → Nat) (m : Int) (pc c v : Nat) (hS : Hid (OkS S)) (hp : Hid (pc < 18446744073709551616)) (hc : Hid (c < 18446744073709551616)) (hv : Hid (v < 18446744073709551616)) (w : World) (hG : Hid (G w)) :
    Calls Tryd.prog 5 #[.agg (cs S), .int .i64 m, .int .u64 pc, .int .u64 c, .int .u64 v] w (RetB true w) := by
  rcases three_way m with e | e | e
  · cases hd : delB S c
    · exact backM_0 S m pc c v hS hp hc hv e hd w hG
    · exact backS_0 S m pc c v hS hp hc hv e hd w hG
  · cases hd : delB S c
    · exact backM_1 S m pc c v hS hp hc hv e hd w hG
    · exact backS_1 S m pc c v hS hp hc hv e hd w hG
  · exact backM_3 S m pc c v hS hp hc hv e w hG
end Go.Proofs.YteeifdmnagbjeaaDoor
