/- The document's Return. -/
import Derived.Test.YteeifdmnagbjeaaDoorM1
import Derived.Deep.RegionHeld
namespace Go.Proofs.YteeifdmnagbjeaaDoor
open Go.ChangeShapes Go.WideShapes Go.ChangeAt Go.RowKit Go.Sort Y
set_option linter.unusedVariables false
set_option linter.unusedSimpArgs false

theorem mpr_val (s : Nat) (hs : s < 18446744073709551616) : wrap64 (bits .and .u64 ((s : Int) / 2048) 3) = ((s / 2048 % 4 : Nat) : Int) := by
  have e : (s : Int) / 2048 = ((s / 2048 : Nat) : Int) := by simp
  rw [e, show (3 : Int) = ((3 : Nat) : Int) from rfl, u_and (s / 2048) 3 (Nat.lt_of_le_of_lt (Nat.div_le_self _ _) hs) (by decide), show (3 : Nat) = 2 ^ 2 - 1 from rfl, Nat.and_two_pow_sub_one_eq_mod]
  have : s / 2048 % 4 < 4 := Nat.mod_lt _ (by decide)
  show wrap64 ((s / 2048 % 4 : Nat) : Int) = _
  unfold wrap64; omega
theorem sp_bit (s : Nat) (t : Int) (h : spI s = t) (ht : t = 0 ∨ t = 1) : s.testBit 8 = (t == 1) := by
  unfold spI at h
  rw [sp_one] at h
  cases hb : s.testBit 8
  · rw [hb] at h; rw [← h]; rfl
  · rw [hb] at h; rw [← h]; rfl
set_option maxRecDepth 100000 in
theorem refLM_0 (s : Nat) (hs : s < 18446744073709551616) : putN (putN (putN (putN (putN s 8 (s.testBit 7)) 128 true) 2048 false) 4096 false) 131072 false = lM s 0 := by
  refine e64 (put_lt _ (put_lt _ (put_lt _ (put_lt _ (put_lt _ hs (by decide)) (by decide)) (by decide)) (by decide)) (by decide)) (lM_lt _ _) (fun i hi => ?_)
  unfold lM
  simp only [tb_put _ 131072 _ _ (by decide) hi, tb_put _ 4096 _ _ (by decide) hi, tb_put _ 2048 _ _ (by decide) hi, tb_put _ 128 _ _ (by decide) hi, tb_put _ 8 _ _ (by decide) hi, Nat.testBit_and, show ((0 : Int) = 3) = False from by simp, if_true, if_false]
  obtain ⟨j, rfl⟩ : ∃ j : Fin 64, j.val = i := ⟨⟨i, hi⟩, rfl⟩
  generalize s.testBit j.val = a
  generalize s.testBit 7 = b
  clear hi hs
  revert j a b; decide +kernel
set_option maxRecDepth 100000 in
theorem refLM_1 (s : Nat) (hs : s < 18446744073709551616) : putN (putN (putN (putN (putN s 8 (s.testBit 7)) 128 true) 2048 false) 4096 false) 131072 false = lM s 1 := by
  refine e64 (put_lt _ (put_lt _ (put_lt _ (put_lt _ (put_lt _ hs (by decide)) (by decide)) (by decide)) (by decide)) (by decide)) (lM_lt _ _) (fun i hi => ?_)
  unfold lM
  simp only [tb_put _ 131072 _ _ (by decide) hi, tb_put _ 4096 _ _ (by decide) hi, tb_put _ 2048 _ _ (by decide) hi, tb_put _ 128 _ _ (by decide) hi, tb_put _ 8 _ _ (by decide) hi, Nat.testBit_and, show ((1 : Int) = 3) = False from by simp, if_true, if_false]
  obtain ⟨j, rfl⟩ : ∃ j : Fin 64, j.val = i := ⟨⟨i, hi⟩, rfl⟩
  generalize s.testBit j.val = a
  generalize s.testBit 7 = b
  clear hi hs
  revert j a b; decide +kernel
set_option maxRecDepth 100000 in
theorem refLM_3 (s : Nat) (hs : s < 18446744073709551616) : putN (putN (putN (putN s 8 (s.testBit 7)) 128 true) 2048 false) 4096 false = lM s 3 := by
  refine e64 (put_lt _ (put_lt _ (put_lt _ (put_lt _ hs (by decide)) (by decide)) (by decide)) (by decide)) (lM_lt _ _) (fun i hi => ?_)
  unfold lM
  simp only [tb_put _ 4096 _ _ (by decide) hi, tb_put _ 2048 _ _ (by decide) hi, tb_put _ 128 _ _ (by decide) hi, tb_put _ 8 _ _ (by decide) hi, Nat.testBit_and, show ((3 : Int) = 3) = True from by simp, if_true, if_false]
  obtain ⟨j, rfl⟩ : ∃ j : Fin 64, j.val = i := ⟨⟨i, hi⟩, rfl⟩
  generalize s.testBit j.val = a
  generalize s.testBit 7 = b
  clear hi hs
  revert j a b; decide +kernel
set_option maxRecDepth 100000 in
theorem refLS (s : Nat) (hs : s < 18446744073709551616) : putN (putN (putN (putN s 2 (s.testBit 5)) 32 true) 256 false) 131072 false = lS s := by
  refine e64 (put_lt _ (put_lt _ (put_lt _ (put_lt _ hs (by decide)) (by decide)) (by decide)) (by decide)) (lS_lt _) (fun i hi => ?_)
  unfold lS
  simp only [tb_put _ 131072 _ _ (by decide) hi, tb_put _ 256 _ _ (by decide) hi, tb_put _ 32 _ _ (by decide) hi, tb_put _ 2 _ _ (by decide) hi, Nat.testBit_and]
  obtain ⟨j, rfl⟩ : ∃ j : Fin 64, j.val = i := ⟨⟨i, hi⟩, rfl⟩
  generalize s.testBit j.val = a
  generalize s.testBit 5 = b
  clear hi hs
  revert j a b; decide +kernel
set_option maxRecDepth 100000 in
set_option maxHeartbeats 1000000 in
theorem retRM_0 (S : Nat → Nat) (hS : Hid (OkS S)) (ht : mpI (S 0) = 0) (w : World) :
    Calls Tryd.prog 12 #[.agg (cs S), .int .i64 49] w (RetE (setN S 0 (lM (S 0) 0)) 0 (S 6) w) := by
  obtain ⟨s, hs⟩ : ∃ s, S 0 = s := ⟨_, rfl⟩
  have ls : Hid (s < 18446744073709551616) := by show _ < _; rw [← hs]; exact hS.out.u 0 (by decide)
  have P0 : Hid (∀ u, Calls Tryd.prog 20 #[.int .i64 (wrap64 (bits .and .u64 ((s : Int) / 2048) 3))] u (RetIX 0 u)) := fun u => by
    have h := mode_c (wrap64 (bits .and .u64 ((s : Int) / 2048) 3)) u
    rw [show tkI (wrap64 (bits .and .u64 ((s : Int) / 2048) 3)) = 0 from (congrArg tkI (mpr_val s ls.out)).trans (by rw [← hs]; exact ht)] at h; exact h
  obtain ⟨bo, hbo⟩ : ∃ y, s.testBit 7 = y := ⟨_, rfl⟩
  have PB : Hid (∀ u, Calls Tryd.prog 21 #[.int .u64 s, .int .i64 7] u (RetBX bo u)) := fun u => by
    have := bit_c s 7 ls (by decide) u
    rw [hbo] at this; exact this
  obtain ⟨x1, hx1⟩ : ∃ y, putN s 8 bo = y := ⟨_, rfl⟩
  have lx1 : Hid (x1 < 18446744073709551616) := by show _ < _; rw [← hx1]; exact put_lt _ ls.out (by decide)
  have Px1 : Hid (∀ u, Calls Tryd.prog 22 #[.int .u64 s, .int .i64 3, .bool bo] u (RetUX x1 u)) := fun u => by
    have := with_c s 3 ls (by decide) bo u
    rw [show (2 : Nat) ^ 3 = 8 from rfl, hx1] at this; exact this
  obtain ⟨x2, hx2⟩ : ∃ y, putN x1 128 true = y := ⟨_, rfl⟩
  have lx2 : Hid (x2 < 18446744073709551616) := by show _ < _; rw [← hx2]; exact put_lt _ lx1.out (by decide)
  have Px2 : Hid (∀ u, Calls Tryd.prog 22 #[.int .u64 x1, .int .i64 7, .bool true] u (RetUX x2 u)) := fun u => by
    have := with_c x1 7 lx1 (by decide) true u
    rw [show (2 : Nat) ^ 7 = 128 from rfl, hx2] at this; exact this
  obtain ⟨x3, hx3⟩ : ∃ y, putN x2 2048 false = y := ⟨_, rfl⟩
  have lx3 : Hid (x3 < 18446744073709551616) := by show _ < _; rw [← hx3]; exact put_lt _ lx2.out (by decide)
  have Px3 : Hid (∀ u, Calls Tryd.prog 22 #[.int .u64 x2, .int .i64 11, .bool false] u (RetUX x3 u)) := fun u => by
    have := with_c x2 11 lx2 (by decide) false u
    rw [show (2 : Nat) ^ 11 = 2048 from rfl, hx3] at this; exact this
  obtain ⟨x4, hx4⟩ : ∃ y, putN x3 4096 false = y := ⟨_, rfl⟩
  have lx4 : Hid (x4 < 18446744073709551616) := by show _ < _; rw [← hx4]; exact put_lt _ lx3.out (by decide)
  have Px4 : Hid (∀ u, Calls Tryd.prog 22 #[.int .u64 x3, .int .i64 12, .bool false] u (RetUX x4 u)) := fun u => by
    have := with_c x3 12 lx3 (by decide) false u
    rw [show (2 : Nat) ^ 12 = 4096 from rfl, hx4] at this; exact this
  obtain ⟨x5, hx5⟩ : ∃ y, putN x4 131072 false = y := ⟨_, rfl⟩
  have lx5 : Hid (x5 < 18446744073709551616) := by show _ < _; rw [← hx5]; exact put_lt _ lx4.out (by decide)
  have Px5 : Hid (∀ u, Calls Tryd.prog 22 #[.int .u64 x4, .int .i64 17, .bool false] u (RetUX x5 u)) := fun u => by
    have := with_c x4 17 lx4 (by decide) false u
    rw [show (2 : Nat) ^ 17 = 131072 from rfl, hx5] at this; exact this
  rw [hs, ← refLM_0 s ls.out, hbo, hx1, hx2, hx3, hx4, hx5]
  obtain ⟨TT, hTT⟩ : ∃ TT, setN S 0 x5 = TT := ⟨_, rfl⟩
  have y1 : S 6 = TT 6 := by rw [← hTT]; rfl
  have g0 : (cs S)[0]? = some (.int .u64 s) := by rw [← hs]; rfl
  have gs1 := cs_set S 0 x5 (by unfold isU; decide)
  rw [hTT] at gs1
  rw [hTT, y1]
  obtain ⟨w6, hW⟩ : ∃ W1, W1 = (w.alloc (Obj.cells (cs TT) 26)).alloc (Obj.cells (cs Z38) 26) := ⟨_, rfl⟩
  have HG : Hid (Gs w [(w.heap.size + 1, Z38), (w.heap.size, TT)] w6) := by
    obtain ⟨r1, r2⟩ := two_rows w TT Z38
    rw [← hW] at r1 r2
    have hz : w6.heap.size = w.heap.size + 2 := by rw [hW, sz_alloc, sz_alloc]
    refine ⟨by rw [hW]; exact (by repeat (first | (with_reducible first | exact Below.refl _ _ | assumption | exact Nat.le_refl _ | refine Below.drew ?_ | refine Below.alloc ?_ ?_ _ | refine Below.setCell ?_ ?_ _ | refine le_alloc ?_ | refine le_set ?_ | refine le_drew ?_ | refine below_step (by assumption) ?_ ?_ | refine le_below (by assumption) ?_) | (dsimp only; omega))), fun p hp => ?_⟩
    rcases List.mem_cons.1 hp with rfl | hp
    · exact ⟨Nat.le_succ _, by rw [hz]; exact Nat.lt_succ_self _, r2⟩
    · obtain rfl := List.mem_singleton.1 hp
      exact ⟨Nat.le_refl _, by rw [hz]; omega, r1⟩
  have HW := Lib.hid hW
  clear hW hTT hS ht y1 hs ls hbo hx1 lx1 hx2 lx2 hx3 lx3 hx4 lx4 hx5 lx5
  go_enter Tryd.func12, Tryd.ntmps12
  go_wp2_with fail
  refine (P0.out _).mono ?_; rintro e w1 ⟨rfl, h⟩; replace h := h.symm; subst h
  go_wp2_with fail
  refine (PB.out _).mono ?_; rintro e w1 ⟨rfl, h⟩; replace h := h.symm; subst h
  go_wp2_with fail
  refine (Px1.out _).mono ?_; rintro e w1 ⟨rfl, h⟩; replace h := h.symm; subst h
  go_wp2_with fail
  refine (Px2.out _).mono ?_; rintro e w1 ⟨rfl, h⟩; replace h := h.symm; subst h
  go_wp2_with fail
  refine (Px3.out _).mono ?_; rintro e w1 ⟨rfl, h⟩; replace h := h.symm; subst h
  go_wp2_with fail
  refine (Px4.out _).mono ?_; rintro e w1 ⟨rfl, h⟩; replace h := h.symm; subst h
  go_wp2_with fail
  refine (Px5.out _).mono ?_; rintro e w1 ⟨rfl, h⟩; replace h := h.symm; subst h
  go_wp2_with fail
  rw [show (w.alloc (Obj.cells (cs TT) 26)).alloc (Obj.cells #[.int .u64 0, .int .u64 0, .int .u64 0, .int .u64 0, .int .u64 0, .int .u64 0, .int .u64 0, .int .u64 0, .int .u64 0, .int .u64 0, .int .u64 0, .int .u64 0, .int .u64 0, .int .u64 0, .int .u64 0, .int .u64 0, .int .u64 0, .int .u64 0, .int .u64 0, .int .u64 0, .int .u64 0, .int .u64 0, .int .u8 0, .int .u8 0, .int .u8 0, .int .u8 0, .int .u8 0, .int .u8 0, .int .u8 0, .int .u8 0, .int .u64 0, .int .u64 0, .int .u64 0, .int .u64 0, .int .u64 0, .int .u64 0, .int .u64 0, .int .u64 0] 26) = w6 from HW.out.symm]
  clear HW g0 gs1
  have HP := Lib.hid HG.out.drew
  refine wp_region_held_drew (S := Gs w [(w.heap.size, TT)]) (by kernel_rfl) HG.out.tail.drew (fun hHeld => ?_)
  refine wpAnyH_take (i := 0) (v := .agg (cs TT)) rfl (by kernel_rfl) (by kernel_rfl) (by kernel_rfl) (fun _ _ _ h => h) (Or.inl ⟨by rfl, fun w' hw' => run_load_row 26 _ rfl w.heap.size rfl 26 (cs TT) (0, 0) _ (hw'.row w.heap.size TT (by simp)) Tryd.underlying26 rfl (infoS _)⟩) hHeld ?_
  simp only [Act.put, List.setIfInBounds_toArray, List.set_cons_zero, List.set_cons_succ]
  refine wpAnyH_take (i := 1) (v := .int .i64 0) rfl (by kernel_rfl) (by kernel_rfl) (by kernel_rfl) (fun _ _ _ h => h) (Or.inl ⟨by rfl, fun w' hw' => by go_simp⟩) hHeld ?_
  simp only [Act.put, List.setIfInBounds_toArray, List.set_cons_zero, List.set_cons_succ]
  refine wpAnyH_take (i := 2) (v := .pointer (some ⟨w.heap.size, 6, none⟩)) rfl (by kernel_rfl) (by kernel_rfl) (by kernel_rfl) (fun _ _ _ h => h) (Or.inl ⟨by rfl, fun w' hw' => by go_simp⟩) hHeld ?_
  simp only [Act.put, List.setIfInBounds_toArray, List.set_cons_zero, List.set_cons_succ]
  refine wpAnyH_take (i := 3) (v := .int .u64 (TT 6 : Nat)) rfl (by kernel_rfl) (by kernel_rfl) (by kernel_rfl) (fun _ _ _ h => h) (Or.inl ⟨by rfl, fun w' hw' => by have k9 := hw'.u w.heap.size TT (by simp) 6 (by unfold isU; decide); go_simp⟩) hHeld ?_
  simp only [Act.put, List.setIfInBounds_toArray, List.set_cons_zero, List.set_cons_succ]
  clear hHeld
  generalize w6.drew = wy at HP ⊢
  clear HG
  refine wpAnyH_ready (rs := [4]) (by kernel_rfl) (by simp) ?_
  refine AllReadyH.cons rfl (fun K hK => ?_) AllReadyH.nil
  rw [if_pos (by rfl)]
  refine wp_store_row 26 _ _ rfl (w.heap.size + 1) (cs TT) rfl rfl 26 (cs Z38) (HP.out.row (w.heap.size + 1) Z38 (by simp)) (infoS _) rfl (oneS _) ?_
  refine on_to hK (fun w' => Gs w [(w.heap.size + 1, TT), (w.heap.size, TT)] w') _ _ (gs_row HP.out (by simp)) (fun w' h => h.tail) ?_
  intro wz1 hp
  clear hK
  replace hp := Lib.hid hp
  refine wpAnyH_ready (rs := [5]) (by kernel_rfl) (by simp) ?_
  refine AllReadyH.cons rfl (fun K hK => ?_) AllReadyH.nil
  go_simp
  refine on_to hK (fun w' => Gs w [(w.heap.size + 1, TT), (w.heap.size, TT)] w') _ _ hp.out (fun w' h => h.tail) ?_
  intro wz2 hp
  clear hK
  replace hp := Lib.hid hp
  refine wpAnyH_ready (rs := [6]) (by kernel_rfl) (by simp) ?_
  refine AllReadyH.cons rfl (fun K hK => ?_) AllReadyH.nil
  go_simp
  refine on_to hK (fun w' => Gs w [(w.heap.size + 1, TT), (w.heap.size, TT)] w') _ _ hp.out (fun w' h => h.tail) ?_
  intro wz3 hp
  clear hK
  replace hp := Lib.hid hp
  refine wpAnyH_done (by decide +kernel) ?_ _
  go_wp2_with fail
  refine bodyPost_ret (results_row3 rfl _ _ (w.heap.size + 1) 26 (cs TT) (0, 0) _ rfl (hp.out.row (w.heap.size + 1) TT (by simp)) Tryd.underlying26 rfl (infoS _)) rfl ?_
  exact ⟨rfl, hp.out.1⟩
set_option maxRecDepth 100000 in
set_option maxHeartbeats 1000000 in
theorem retRM_1 (S : Nat → Nat) (hS : Hid (OkS S)) (ht : mpI (S 0) = 1) (w : World) :
    Calls Tryd.prog 12 #[.agg (cs S), .int .i64 49] w (RetE (setN S 0 (lM (S 0) 1)) 1 (S 6) w) := by
  obtain ⟨s, hs⟩ : ∃ s, S 0 = s := ⟨_, rfl⟩
  have ls : Hid (s < 18446744073709551616) := by show _ < _; rw [← hs]; exact hS.out.u 0 (by decide)
  have P0 : Hid (∀ u, Calls Tryd.prog 20 #[.int .i64 (wrap64 (bits .and .u64 ((s : Int) / 2048) 3))] u (RetIX 1 u)) := fun u => by
    have h := mode_c (wrap64 (bits .and .u64 ((s : Int) / 2048) 3)) u
    rw [show tkI (wrap64 (bits .and .u64 ((s : Int) / 2048) 3)) = 1 from (congrArg tkI (mpr_val s ls.out)).trans (by rw [← hs]; exact ht)] at h; exact h
  obtain ⟨bo, hbo⟩ : ∃ y, s.testBit 7 = y := ⟨_, rfl⟩
  have PB : Hid (∀ u, Calls Tryd.prog 21 #[.int .u64 s, .int .i64 7] u (RetBX bo u)) := fun u => by
    have := bit_c s 7 ls (by decide) u
    rw [hbo] at this; exact this
  obtain ⟨x1, hx1⟩ : ∃ y, putN s 8 bo = y := ⟨_, rfl⟩
  have lx1 : Hid (x1 < 18446744073709551616) := by show _ < _; rw [← hx1]; exact put_lt _ ls.out (by decide)
  have Px1 : Hid (∀ u, Calls Tryd.prog 22 #[.int .u64 s, .int .i64 3, .bool bo] u (RetUX x1 u)) := fun u => by
    have := with_c s 3 ls (by decide) bo u
    rw [show (2 : Nat) ^ 3 = 8 from rfl, hx1] at this; exact this
  obtain ⟨x2, hx2⟩ : ∃ y, putN x1 128 true = y := ⟨_, rfl⟩
  have lx2 : Hid (x2 < 18446744073709551616) := by show _ < _; rw [← hx2]; exact put_lt _ lx1.out (by decide)
  have Px2 : Hid (∀ u, Calls Tryd.prog 22 #[.int .u64 x1, .int .i64 7, .bool true] u (RetUX x2 u)) := fun u => by
    have := with_c x1 7 lx1 (by decide) true u
    rw [show (2 : Nat) ^ 7 = 128 from rfl, hx2] at this; exact this
  obtain ⟨x3, hx3⟩ : ∃ y, putN x2 2048 false = y := ⟨_, rfl⟩
  have lx3 : Hid (x3 < 18446744073709551616) := by show _ < _; rw [← hx3]; exact put_lt _ lx2.out (by decide)
  have Px3 : Hid (∀ u, Calls Tryd.prog 22 #[.int .u64 x2, .int .i64 11, .bool false] u (RetUX x3 u)) := fun u => by
    have := with_c x2 11 lx2 (by decide) false u
    rw [show (2 : Nat) ^ 11 = 2048 from rfl, hx3] at this; exact this
  obtain ⟨x4, hx4⟩ : ∃ y, putN x3 4096 false = y := ⟨_, rfl⟩
  have lx4 : Hid (x4 < 18446744073709551616) := by show _ < _; rw [← hx4]; exact put_lt _ lx3.out (by decide)
  have Px4 : Hid (∀ u, Calls Tryd.prog 22 #[.int .u64 x3, .int .i64 12, .bool false] u (RetUX x4 u)) := fun u => by
    have := with_c x3 12 lx3 (by decide) false u
    rw [show (2 : Nat) ^ 12 = 4096 from rfl, hx4] at this; exact this
  obtain ⟨x5, hx5⟩ : ∃ y, putN x4 131072 false = y := ⟨_, rfl⟩
  have lx5 : Hid (x5 < 18446744073709551616) := by show _ < _; rw [← hx5]; exact put_lt _ lx4.out (by decide)
  have Px5 : Hid (∀ u, Calls Tryd.prog 22 #[.int .u64 x4, .int .i64 17, .bool false] u (RetUX x5 u)) := fun u => by
    have := with_c x4 17 lx4 (by decide) false u
    rw [show (2 : Nat) ^ 17 = 131072 from rfl, hx5] at this; exact this
  rw [hs, ← refLM_1 s ls.out, hbo, hx1, hx2, hx3, hx4, hx5]
  obtain ⟨TT, hTT⟩ : ∃ TT, setN S 0 x5 = TT := ⟨_, rfl⟩
  have y1 : S 6 = TT 6 := by rw [← hTT]; rfl
  have g0 : (cs S)[0]? = some (.int .u64 s) := by rw [← hs]; rfl
  have gs1 := cs_set S 0 x5 (by unfold isU; decide)
  rw [hTT] at gs1
  rw [hTT, y1]
  obtain ⟨w6, hW⟩ : ∃ W1, W1 = (w.alloc (Obj.cells (cs TT) 26)).alloc (Obj.cells (cs Z38) 26) := ⟨_, rfl⟩
  have HG : Hid (Gs w [(w.heap.size + 1, Z38), (w.heap.size, TT)] w6) := by
    obtain ⟨r1, r2⟩ := two_rows w TT Z38
    rw [← hW] at r1 r2
    have hz : w6.heap.size = w.heap.size + 2 := by rw [hW, sz_alloc, sz_alloc]
    refine ⟨by rw [hW]; exact (by repeat (first | (with_reducible first | exact Below.refl _ _ | assumption | exact Nat.le_refl _ | refine Below.drew ?_ | refine Below.alloc ?_ ?_ _ | refine Below.setCell ?_ ?_ _ | refine le_alloc ?_ | refine le_set ?_ | refine le_drew ?_ | refine below_step (by assumption) ?_ ?_ | refine le_below (by assumption) ?_) | (dsimp only; omega))), fun p hp => ?_⟩
    rcases List.mem_cons.1 hp with rfl | hp
    · exact ⟨Nat.le_succ _, by rw [hz]; exact Nat.lt_succ_self _, r2⟩
    · obtain rfl := List.mem_singleton.1 hp
      exact ⟨Nat.le_refl _, by rw [hz]; omega, r1⟩
  have HW := Lib.hid hW
  clear hW hTT hS ht y1 hs ls hbo hx1 lx1 hx2 lx2 hx3 lx3 hx4 lx4 hx5 lx5
  go_enter Tryd.func12, Tryd.ntmps12
  go_wp2_with fail
  refine (P0.out _).mono ?_; rintro e w1 ⟨rfl, h⟩; replace h := h.symm; subst h
  go_wp2_with fail
  refine (PB.out _).mono ?_; rintro e w1 ⟨rfl, h⟩; replace h := h.symm; subst h
  go_wp2_with fail
  refine (Px1.out _).mono ?_; rintro e w1 ⟨rfl, h⟩; replace h := h.symm; subst h
  go_wp2_with fail
  refine (Px2.out _).mono ?_; rintro e w1 ⟨rfl, h⟩; replace h := h.symm; subst h
  go_wp2_with fail
  refine (Px3.out _).mono ?_; rintro e w1 ⟨rfl, h⟩; replace h := h.symm; subst h
  go_wp2_with fail
  refine (Px4.out _).mono ?_; rintro e w1 ⟨rfl, h⟩; replace h := h.symm; subst h
  go_wp2_with fail
  refine (Px5.out _).mono ?_; rintro e w1 ⟨rfl, h⟩; replace h := h.symm; subst h
  go_wp2_with fail
  rw [show (w.alloc (Obj.cells (cs TT) 26)).alloc (Obj.cells #[.int .u64 0, .int .u64 0, .int .u64 0, .int .u64 0, .int .u64 0, .int .u64 0, .int .u64 0, .int .u64 0, .int .u64 0, .int .u64 0, .int .u64 0, .int .u64 0, .int .u64 0, .int .u64 0, .int .u64 0, .int .u64 0, .int .u64 0, .int .u64 0, .int .u64 0, .int .u64 0, .int .u64 0, .int .u64 0, .int .u8 0, .int .u8 0, .int .u8 0, .int .u8 0, .int .u8 0, .int .u8 0, .int .u8 0, .int .u8 0, .int .u64 0, .int .u64 0, .int .u64 0, .int .u64 0, .int .u64 0, .int .u64 0, .int .u64 0, .int .u64 0] 26) = w6 from HW.out.symm]
  clear HW g0 gs1
  have HP := Lib.hid HG.out.drew
  refine wp_region_held_drew (S := Gs w [(w.heap.size, TT)]) (by kernel_rfl) HG.out.tail.drew (fun hHeld => ?_)
  refine wpAnyH_take (i := 0) (v := .agg (cs TT)) rfl (by kernel_rfl) (by kernel_rfl) (by kernel_rfl) (fun _ _ _ h => h) (Or.inl ⟨by rfl, fun w' hw' => run_load_row 26 _ rfl w.heap.size rfl 26 (cs TT) (0, 0) _ (hw'.row w.heap.size TT (by simp)) Tryd.underlying26 rfl (infoS _)⟩) hHeld ?_
  simp only [Act.put, List.setIfInBounds_toArray, List.set_cons_zero, List.set_cons_succ]
  refine wpAnyH_take (i := 1) (v := .int .i64 1) rfl (by kernel_rfl) (by kernel_rfl) (by kernel_rfl) (fun _ _ _ h => h) (Or.inl ⟨by rfl, fun w' hw' => by go_simp⟩) hHeld ?_
  simp only [Act.put, List.setIfInBounds_toArray, List.set_cons_zero, List.set_cons_succ]
  refine wpAnyH_take (i := 2) (v := .pointer (some ⟨w.heap.size, 6, none⟩)) rfl (by kernel_rfl) (by kernel_rfl) (by kernel_rfl) (fun _ _ _ h => h) (Or.inl ⟨by rfl, fun w' hw' => by go_simp⟩) hHeld ?_
  simp only [Act.put, List.setIfInBounds_toArray, List.set_cons_zero, List.set_cons_succ]
  refine wpAnyH_take (i := 3) (v := .int .u64 (TT 6 : Nat)) rfl (by kernel_rfl) (by kernel_rfl) (by kernel_rfl) (fun _ _ _ h => h) (Or.inl ⟨by rfl, fun w' hw' => by have k9 := hw'.u w.heap.size TT (by simp) 6 (by unfold isU; decide); go_simp⟩) hHeld ?_
  simp only [Act.put, List.setIfInBounds_toArray, List.set_cons_zero, List.set_cons_succ]
  clear hHeld
  generalize w6.drew = wy at HP ⊢
  clear HG
  refine wpAnyH_ready (rs := [4]) (by kernel_rfl) (by simp) ?_
  refine AllReadyH.cons rfl (fun K hK => ?_) AllReadyH.nil
  rw [if_pos (by rfl)]
  refine wp_store_row 26 _ _ rfl (w.heap.size + 1) (cs TT) rfl rfl 26 (cs Z38) (HP.out.row (w.heap.size + 1) Z38 (by simp)) (infoS _) rfl (oneS _) ?_
  refine on_to hK (fun w' => Gs w [(w.heap.size + 1, TT), (w.heap.size, TT)] w') _ _ (gs_row HP.out (by simp)) (fun w' h => h.tail) ?_
  intro wz1 hp
  clear hK
  replace hp := Lib.hid hp
  refine wpAnyH_ready (rs := [5]) (by kernel_rfl) (by simp) ?_
  refine AllReadyH.cons rfl (fun K hK => ?_) AllReadyH.nil
  go_simp
  refine on_to hK (fun w' => Gs w [(w.heap.size + 1, TT), (w.heap.size, TT)] w') _ _ hp.out (fun w' h => h.tail) ?_
  intro wz2 hp
  clear hK
  replace hp := Lib.hid hp
  refine wpAnyH_ready (rs := [6]) (by kernel_rfl) (by simp) ?_
  refine AllReadyH.cons rfl (fun K hK => ?_) AllReadyH.nil
  go_simp
  refine on_to hK (fun w' => Gs w [(w.heap.size + 1, TT), (w.heap.size, TT)] w') _ _ hp.out (fun w' h => h.tail) ?_
  intro wz3 hp
  clear hK
  replace hp := Lib.hid hp
  refine wpAnyH_done (by decide +kernel) ?_ _
  go_wp2_with fail
  refine bodyPost_ret (results_row3 rfl _ _ (w.heap.size + 1) 26 (cs TT) (0, 0) _ rfl (hp.out.row (w.heap.size + 1) TT (by simp)) Tryd.underlying26 rfl (infoS _)) rfl ?_
  exact ⟨rfl, hp.out.1⟩
set_option maxRecDepth 100000 in
set_option maxHeartbeats 1000000 in
theorem retRM_3 (S : Nat → Nat) (hS : Hid (OkS S)) (ht : mpI (S 0) = 3) (w : World) :
    Calls Tryd.prog 12 #[.agg (cs S), .int .i64 49] w (RetE (setN S 0 (lM (S 0) 3)) 3 (S 6) w) := by
  obtain ⟨s, hs⟩ : ∃ s, S 0 = s := ⟨_, rfl⟩
  have ls : Hid (s < 18446744073709551616) := by show _ < _; rw [← hs]; exact hS.out.u 0 (by decide)
  have P0 : Hid (∀ u, Calls Tryd.prog 20 #[.int .i64 (wrap64 (bits .and .u64 ((s : Int) / 2048) 3))] u (RetIX 3 u)) := fun u => by
    have h := mode_c (wrap64 (bits .and .u64 ((s : Int) / 2048) 3)) u
    rw [show tkI (wrap64 (bits .and .u64 ((s : Int) / 2048) 3)) = 3 from (congrArg tkI (mpr_val s ls.out)).trans (by rw [← hs]; exact ht)] at h; exact h
  obtain ⟨bo, hbo⟩ : ∃ y, s.testBit 7 = y := ⟨_, rfl⟩
  have PB : Hid (∀ u, Calls Tryd.prog 21 #[.int .u64 s, .int .i64 7] u (RetBX bo u)) := fun u => by
    have := bit_c s 7 ls (by decide) u
    rw [hbo] at this; exact this
  obtain ⟨x1, hx1⟩ : ∃ y, putN s 8 bo = y := ⟨_, rfl⟩
  have lx1 : Hid (x1 < 18446744073709551616) := by show _ < _; rw [← hx1]; exact put_lt _ ls.out (by decide)
  have Px1 : Hid (∀ u, Calls Tryd.prog 22 #[.int .u64 s, .int .i64 3, .bool bo] u (RetUX x1 u)) := fun u => by
    have := with_c s 3 ls (by decide) bo u
    rw [show (2 : Nat) ^ 3 = 8 from rfl, hx1] at this; exact this
  obtain ⟨x2, hx2⟩ : ∃ y, putN x1 128 true = y := ⟨_, rfl⟩
  have lx2 : Hid (x2 < 18446744073709551616) := by show _ < _; rw [← hx2]; exact put_lt _ lx1.out (by decide)
  have Px2 : Hid (∀ u, Calls Tryd.prog 22 #[.int .u64 x1, .int .i64 7, .bool true] u (RetUX x2 u)) := fun u => by
    have := with_c x1 7 lx1 (by decide) true u
    rw [show (2 : Nat) ^ 7 = 128 from rfl, hx2] at this; exact this
  obtain ⟨x3, hx3⟩ : ∃ y, putN x2 2048 false = y := ⟨_, rfl⟩
  have lx3 : Hid (x3 < 18446744073709551616) := by show _ < _; rw [← hx3]; exact put_lt _ lx2.out (by decide)
  have Px3 : Hid (∀ u, Calls Tryd.prog 22 #[.int .u64 x2, .int .i64 11, .bool false] u (RetUX x3 u)) := fun u => by
    have := with_c x2 11 lx2 (by decide) false u
    rw [show (2 : Nat) ^ 11 = 2048 from rfl, hx3] at this; exact this
  obtain ⟨x4, hx4⟩ : ∃ y, putN x3 4096 false = y := ⟨_, rfl⟩
  have lx4 : Hid (x4 < 18446744073709551616) := by show _ < _; rw [← hx4]; exact put_lt _ lx3.out (by decide)
  have Px4 : Hid (∀ u, Calls Tryd.prog 22 #[.int .u64 x3, .int .i64 12, .bool false] u (RetUX x4 u)) := fun u => by
    have := with_c x3 12 lx3 (by decide) false u
    rw [show (2 : Nat) ^ 12 = 4096 from rfl, hx4] at this; exact this
  rw [hs, ← refLM_3 s ls.out, hbo, hx1, hx2, hx3, hx4]
  obtain ⟨TT, hTT⟩ : ∃ TT, setN S 0 x4 = TT := ⟨_, rfl⟩
  have y1 : S 6 = TT 6 := by rw [← hTT]; rfl
  have g0 : (cs S)[0]? = some (.int .u64 s) := by rw [← hs]; rfl
  have gs1 := cs_set S 0 x4 (by unfold isU; decide)
  rw [hTT] at gs1
  rw [hTT, y1]
  obtain ⟨w6, hW⟩ : ∃ W1, W1 = (w.alloc (Obj.cells (cs TT) 26)).alloc (Obj.cells (cs Z38) 26) := ⟨_, rfl⟩
  have HG : Hid (Gs w [(w.heap.size + 1, Z38), (w.heap.size, TT)] w6) := by
    obtain ⟨r1, r2⟩ := two_rows w TT Z38
    rw [← hW] at r1 r2
    have hz : w6.heap.size = w.heap.size + 2 := by rw [hW, sz_alloc, sz_alloc]
    refine ⟨by rw [hW]; exact (by repeat (first | (with_reducible first | exact Below.refl _ _ | assumption | exact Nat.le_refl _ | refine Below.drew ?_ | refine Below.alloc ?_ ?_ _ | refine Below.setCell ?_ ?_ _ | refine le_alloc ?_ | refine le_set ?_ | refine le_drew ?_ | refine below_step (by assumption) ?_ ?_ | refine le_below (by assumption) ?_) | (dsimp only; omega))), fun p hp => ?_⟩
    rcases List.mem_cons.1 hp with rfl | hp
    · exact ⟨Nat.le_succ _, by rw [hz]; exact Nat.lt_succ_self _, r2⟩
    · obtain rfl := List.mem_singleton.1 hp
      exact ⟨Nat.le_refl _, by rw [hz]; omega, r1⟩
  have HW := Lib.hid hW
  clear hW hTT hS ht y1 hs ls hbo hx1 lx1 hx2 lx2 hx3 lx3 hx4 lx4
  go_enter Tryd.func12, Tryd.ntmps12
  go_wp2_with fail
  refine (P0.out _).mono ?_; rintro e w1 ⟨rfl, h⟩; replace h := h.symm; subst h
  go_wp2_with fail
  refine (PB.out _).mono ?_; rintro e w1 ⟨rfl, h⟩; replace h := h.symm; subst h
  go_wp2_with fail
  refine (Px1.out _).mono ?_; rintro e w1 ⟨rfl, h⟩; replace h := h.symm; subst h
  go_wp2_with fail
  refine (Px2.out _).mono ?_; rintro e w1 ⟨rfl, h⟩; replace h := h.symm; subst h
  go_wp2_with fail
  refine (Px3.out _).mono ?_; rintro e w1 ⟨rfl, h⟩; replace h := h.symm; subst h
  go_wp2_with fail
  refine (Px4.out _).mono ?_; rintro e w1 ⟨rfl, h⟩; replace h := h.symm; subst h
  go_wp2_with fail
  rw [show (w.alloc (Obj.cells (cs TT) 26)).alloc (Obj.cells #[.int .u64 0, .int .u64 0, .int .u64 0, .int .u64 0, .int .u64 0, .int .u64 0, .int .u64 0, .int .u64 0, .int .u64 0, .int .u64 0, .int .u64 0, .int .u64 0, .int .u64 0, .int .u64 0, .int .u64 0, .int .u64 0, .int .u64 0, .int .u64 0, .int .u64 0, .int .u64 0, .int .u64 0, .int .u64 0, .int .u8 0, .int .u8 0, .int .u8 0, .int .u8 0, .int .u8 0, .int .u8 0, .int .u8 0, .int .u8 0, .int .u64 0, .int .u64 0, .int .u64 0, .int .u64 0, .int .u64 0, .int .u64 0, .int .u64 0, .int .u64 0] 26) = w6 from HW.out.symm]
  clear HW g0 gs1
  have HP := Lib.hid HG.out.drew
  refine wp_region_held_drew (S := Gs w [(w.heap.size, TT)]) (by kernel_rfl) HG.out.tail.drew (fun hHeld => ?_)
  refine wpAnyH_take (i := 0) (v := .agg (cs TT)) rfl (by kernel_rfl) (by kernel_rfl) (by kernel_rfl) (fun _ _ _ h => h) (Or.inl ⟨by rfl, fun w' hw' => run_load_row 26 _ rfl w.heap.size rfl 26 (cs TT) (0, 0) _ (hw'.row w.heap.size TT (by simp)) Tryd.underlying26 rfl (infoS _)⟩) hHeld ?_
  simp only [Act.put, List.setIfInBounds_toArray, List.set_cons_zero, List.set_cons_succ]
  refine wpAnyH_take (i := 1) (v := .int .i64 3) rfl (by kernel_rfl) (by kernel_rfl) (by kernel_rfl) (fun _ _ _ h => h) (Or.inl ⟨by rfl, fun w' hw' => by go_simp⟩) hHeld ?_
  simp only [Act.put, List.setIfInBounds_toArray, List.set_cons_zero, List.set_cons_succ]
  refine wpAnyH_take (i := 2) (v := .pointer (some ⟨w.heap.size, 6, none⟩)) rfl (by kernel_rfl) (by kernel_rfl) (by kernel_rfl) (fun _ _ _ h => h) (Or.inl ⟨by rfl, fun w' hw' => by go_simp⟩) hHeld ?_
  simp only [Act.put, List.setIfInBounds_toArray, List.set_cons_zero, List.set_cons_succ]
  refine wpAnyH_take (i := 3) (v := .int .u64 (TT 6 : Nat)) rfl (by kernel_rfl) (by kernel_rfl) (by kernel_rfl) (fun _ _ _ h => h) (Or.inl ⟨by rfl, fun w' hw' => by have k9 := hw'.u w.heap.size TT (by simp) 6 (by unfold isU; decide); go_simp⟩) hHeld ?_
  simp only [Act.put, List.setIfInBounds_toArray, List.set_cons_zero, List.set_cons_succ]
  clear hHeld
  generalize w6.drew = wy at HP ⊢
  clear HG
  refine wpAnyH_ready (rs := [4]) (by kernel_rfl) (by simp) ?_
  refine AllReadyH.cons rfl (fun K hK => ?_) AllReadyH.nil
  rw [if_pos (by rfl)]
  refine wp_store_row 26 _ _ rfl (w.heap.size + 1) (cs TT) rfl rfl 26 (cs Z38) (HP.out.row (w.heap.size + 1) Z38 (by simp)) (infoS _) rfl (oneS _) ?_
  refine on_to hK (fun w' => Gs w [(w.heap.size + 1, TT), (w.heap.size, TT)] w') _ _ (gs_row HP.out (by simp)) (fun w' h => h.tail) ?_
  intro wz1 hp
  clear hK
  replace hp := Lib.hid hp
  refine wpAnyH_ready (rs := [5]) (by kernel_rfl) (by simp) ?_
  refine AllReadyH.cons rfl (fun K hK => ?_) AllReadyH.nil
  go_simp
  refine on_to hK (fun w' => Gs w [(w.heap.size + 1, TT), (w.heap.size, TT)] w') _ _ hp.out (fun w' h => h.tail) ?_
  intro wz2 hp
  clear hK
  replace hp := Lib.hid hp
  refine wpAnyH_ready (rs := [6]) (by kernel_rfl) (by simp) ?_
  refine AllReadyH.cons rfl (fun K hK => ?_) AllReadyH.nil
  go_simp
  refine on_to hK (fun w' => Gs w [(w.heap.size + 1, TT), (w.heap.size, TT)] w') _ _ hp.out (fun w' h => h.tail) ?_
  intro wz3 hp
  clear hK
  replace hp := Lib.hid hp
  refine wpAnyH_done (by decide +kernel) ?_ _
  go_wp2_with fail
  refine bodyPost_ret (results_row3 rfl _ _ (w.heap.size + 1) 26 (cs TT) (0, 0) _ rfl (hp.out.row (w.heap.size + 1) TT (by simp)) Tryd.underlying26 rfl (infoS _)) rfl ?_
  exact ⟨rfl, hp.out.1⟩
set_option maxRecDepth 100000 in
set_option maxHeartbeats 1000000 in
theorem retRS_0 (S : Nat → Nat) (hS : Hid (OkS S)) (ht : spI (S 0) = 0) (w : World) :
    Calls Tryd.prog 12 #[.agg (cs S), .int .i64 50] w (RetE (setN S 0 (lS (S 0))) 0 (S 15) w) := by
  obtain ⟨s, hs⟩ : ∃ s, S 0 = s := ⟨_, rfl⟩
  have ls : Hid (s < 18446744073709551616) := by show _ < _; rw [← hs]; exact hS.out.u 0 (by decide)
  have P0 : Hid (∀ u, Calls Tryd.prog 21 #[.int .u64 s, .int .i64 8] u (RetBX false u)) := fun u => by
    have h := bit_c s 8 ls (by decide) u
    rw [show s.testBit 8 = false from by rw [← hs]; exact sp_bit (S 0) 0 ht (by decide)] at h; exact h
  obtain ⟨bo, hbo⟩ : ∃ y, s.testBit 5 = y := ⟨_, rfl⟩
  have PB : Hid (∀ u, Calls Tryd.prog 21 #[.int .u64 s, .int .i64 5] u (RetBX bo u)) := fun u => by
    have := bit_c s 5 ls (by decide) u
    rw [hbo] at this; exact this
  obtain ⟨x1, hx1⟩ : ∃ y, putN s 2 bo = y := ⟨_, rfl⟩
  have lx1 : Hid (x1 < 18446744073709551616) := by show _ < _; rw [← hx1]; exact put_lt _ ls.out (by decide)
  have Px1 : Hid (∀ u, Calls Tryd.prog 22 #[.int .u64 s, .int .i64 1, .bool bo] u (RetUX x1 u)) := fun u => by
    have := with_c s 1 ls (by decide) bo u
    rw [show (2 : Nat) ^ 1 = 2 from rfl, hx1] at this; exact this
  obtain ⟨x2, hx2⟩ : ∃ y, putN x1 32 true = y := ⟨_, rfl⟩
  have lx2 : Hid (x2 < 18446744073709551616) := by show _ < _; rw [← hx2]; exact put_lt _ lx1.out (by decide)
  have Px2 : Hid (∀ u, Calls Tryd.prog 22 #[.int .u64 x1, .int .i64 5, .bool true] u (RetUX x2 u)) := fun u => by
    have := with_c x1 5 lx1 (by decide) true u
    rw [show (2 : Nat) ^ 5 = 32 from rfl, hx2] at this; exact this
  obtain ⟨x3, hx3⟩ : ∃ y, putN x2 256 false = y := ⟨_, rfl⟩
  have lx3 : Hid (x3 < 18446744073709551616) := by show _ < _; rw [← hx3]; exact put_lt _ lx2.out (by decide)
  have Px3 : Hid (∀ u, Calls Tryd.prog 22 #[.int .u64 x2, .int .i64 8, .bool false] u (RetUX x3 u)) := fun u => by
    have := with_c x2 8 lx2 (by decide) false u
    rw [show (2 : Nat) ^ 8 = 256 from rfl, hx3] at this; exact this
  obtain ⟨x4, hx4⟩ : ∃ y, putN x3 131072 false = y := ⟨_, rfl⟩
  have lx4 : Hid (x4 < 18446744073709551616) := by show _ < _; rw [← hx4]; exact put_lt _ lx3.out (by decide)
  have Px4 : Hid (∀ u, Calls Tryd.prog 22 #[.int .u64 x3, .int .i64 17, .bool false] u (RetUX x4 u)) := fun u => by
    have := with_c x3 17 lx3 (by decide) false u
    rw [show (2 : Nat) ^ 17 = 131072 from rfl, hx4] at this; exact this
  rw [hs, ← refLS s ls.out, hbo, hx1, hx2, hx3, hx4]
  obtain ⟨TT, hTT⟩ : ∃ TT, setN S 0 x4 = TT := ⟨_, rfl⟩
  have y1 : S 15 = TT 15 := by rw [← hTT]; rfl
  have g0 : (cs S)[0]? = some (.int .u64 s) := by rw [← hs]; rfl
  have gs1 := cs_set S 0 x4 (by unfold isU; decide)
  rw [hTT] at gs1
  rw [hTT, y1]
  obtain ⟨w6, hW⟩ : ∃ W1, W1 = (w.alloc (Obj.cells (cs TT) 26)).alloc (Obj.cells (cs Z38) 26) := ⟨_, rfl⟩
  have HG : Hid (Gs w [(w.heap.size + 1, Z38), (w.heap.size, TT)] w6) := by
    obtain ⟨r1, r2⟩ := two_rows w TT Z38
    rw [← hW] at r1 r2
    have hz : w6.heap.size = w.heap.size + 2 := by rw [hW, sz_alloc, sz_alloc]
    refine ⟨by rw [hW]; exact (by repeat (first | (with_reducible first | exact Below.refl _ _ | assumption | exact Nat.le_refl _ | refine Below.drew ?_ | refine Below.alloc ?_ ?_ _ | refine Below.setCell ?_ ?_ _ | refine le_alloc ?_ | refine le_set ?_ | refine le_drew ?_ | refine below_step (by assumption) ?_ ?_ | refine le_below (by assumption) ?_) | (dsimp only; omega))), fun p hp => ?_⟩
    rcases List.mem_cons.1 hp with rfl | hp
    · exact ⟨Nat.le_succ _, by rw [hz]; exact Nat.lt_succ_self _, r2⟩
    · obtain rfl := List.mem_singleton.1 hp
      exact ⟨Nat.le_refl _, by rw [hz]; omega, r1⟩
  have HW := Lib.hid hW
  clear hW hTT hS ht y1 hs ls hbo hx1 lx1 hx2 lx2 hx3 lx3 hx4 lx4
  go_enter Tryd.func12, Tryd.ntmps12
  go_wp2_with fail
  refine (P0.out _).mono ?_; rintro e w1 ⟨rfl, h⟩; replace h := h.symm; subst h
  go_wp2_with fail
  refine (PB.out _).mono ?_; rintro e w1 ⟨rfl, h⟩; replace h := h.symm; subst h
  go_wp2_with fail
  refine (Px1.out _).mono ?_; rintro e w1 ⟨rfl, h⟩; replace h := h.symm; subst h
  go_wp2_with fail
  refine (Px2.out _).mono ?_; rintro e w1 ⟨rfl, h⟩; replace h := h.symm; subst h
  go_wp2_with fail
  refine (Px3.out _).mono ?_; rintro e w1 ⟨rfl, h⟩; replace h := h.symm; subst h
  go_wp2_with fail
  refine (Px4.out _).mono ?_; rintro e w1 ⟨rfl, h⟩; replace h := h.symm; subst h
  go_wp2_with fail
  rw [show (w.alloc (Obj.cells (cs TT) 26)).alloc (Obj.cells #[.int .u64 0, .int .u64 0, .int .u64 0, .int .u64 0, .int .u64 0, .int .u64 0, .int .u64 0, .int .u64 0, .int .u64 0, .int .u64 0, .int .u64 0, .int .u64 0, .int .u64 0, .int .u64 0, .int .u64 0, .int .u64 0, .int .u64 0, .int .u64 0, .int .u64 0, .int .u64 0, .int .u64 0, .int .u64 0, .int .u8 0, .int .u8 0, .int .u8 0, .int .u8 0, .int .u8 0, .int .u8 0, .int .u8 0, .int .u8 0, .int .u64 0, .int .u64 0, .int .u64 0, .int .u64 0, .int .u64 0, .int .u64 0, .int .u64 0, .int .u64 0] 26) = w6 from HW.out.symm]
  clear HW g0 gs1
  have HP := Lib.hid HG.out.drew
  refine wp_region_held_drew (S := Gs w [(w.heap.size, TT)]) (by kernel_rfl) HG.out.tail.drew (fun hHeld => ?_)
  refine wpAnyH_take (i := 0) (v := .agg (cs TT)) rfl (by kernel_rfl) (by kernel_rfl) (by kernel_rfl) (fun _ _ _ h => h) (Or.inl ⟨by rfl, fun w' hw' => run_load_row 26 _ rfl w.heap.size rfl 26 (cs TT) (0, 0) _ (hw'.row w.heap.size TT (by simp)) Tryd.underlying26 rfl (infoS _)⟩) hHeld ?_
  simp only [Act.put, List.setIfInBounds_toArray, List.set_cons_zero, List.set_cons_succ]
  refine wpAnyH_take (i := 1) (v := .int .i64 0) rfl (by kernel_rfl) (by kernel_rfl) (by kernel_rfl) (fun _ _ _ h => h) (Or.inl ⟨by rfl, fun w' hw' => by go_simp⟩) hHeld ?_
  simp only [Act.put, List.setIfInBounds_toArray, List.set_cons_zero, List.set_cons_succ]
  refine wpAnyH_take (i := 2) (v := .pointer (some ⟨w.heap.size, 15, none⟩)) rfl (by kernel_rfl) (by kernel_rfl) (by kernel_rfl) (fun _ _ _ h => h) (Or.inl ⟨by rfl, fun w' hw' => by go_simp⟩) hHeld ?_
  simp only [Act.put, List.setIfInBounds_toArray, List.set_cons_zero, List.set_cons_succ]
  refine wpAnyH_take (i := 3) (v := .int .u64 (TT 15 : Nat)) rfl (by kernel_rfl) (by kernel_rfl) (by kernel_rfl) (fun _ _ _ h => h) (Or.inl ⟨by rfl, fun w' hw' => by have k9 := hw'.u w.heap.size TT (by simp) 15 (by unfold isU; decide); go_simp⟩) hHeld ?_
  simp only [Act.put, List.setIfInBounds_toArray, List.set_cons_zero, List.set_cons_succ]
  clear hHeld
  generalize w6.drew = wy at HP ⊢
  clear HG
  refine wpAnyH_ready (rs := [4]) (by kernel_rfl) (by simp) ?_
  refine AllReadyH.cons rfl (fun K hK => ?_) AllReadyH.nil
  rw [if_pos (by rfl)]
  refine wp_store_row 26 _ _ rfl (w.heap.size + 1) (cs TT) rfl rfl 26 (cs Z38) (HP.out.row (w.heap.size + 1) Z38 (by simp)) (infoS _) rfl (oneS _) ?_
  refine on_to hK (fun w' => Gs w [(w.heap.size + 1, TT), (w.heap.size, TT)] w') _ _ (gs_row HP.out (by simp)) (fun w' h => h.tail) ?_
  intro wz1 hp
  clear hK
  replace hp := Lib.hid hp
  refine wpAnyH_ready (rs := [5]) (by kernel_rfl) (by simp) ?_
  refine AllReadyH.cons rfl (fun K hK => ?_) AllReadyH.nil
  go_simp
  refine on_to hK (fun w' => Gs w [(w.heap.size + 1, TT), (w.heap.size, TT)] w') _ _ hp.out (fun w' h => h.tail) ?_
  intro wz2 hp
  clear hK
  replace hp := Lib.hid hp
  refine wpAnyH_ready (rs := [6]) (by kernel_rfl) (by simp) ?_
  refine AllReadyH.cons rfl (fun K hK => ?_) AllReadyH.nil
  go_simp
  refine on_to hK (fun w' => Gs w [(w.heap.size + 1, TT), (w.heap.size, TT)] w') _ _ hp.out (fun w' h => h.tail) ?_
  intro wz3 hp
  clear hK
  replace hp := Lib.hid hp
  refine wpAnyH_done (by decide +kernel) ?_ _
  go_wp2_with fail
  refine bodyPost_ret (results_row3 rfl _ _ (w.heap.size + 1) 26 (cs TT) (0, 0) _ rfl (hp.out.row (w.heap.size + 1) TT (by simp)) Tryd.underlying26 rfl (infoS _)) rfl ?_
  exact ⟨rfl, hp.out.1⟩
set_option maxRecDepth 100000 in
set_option maxHeartbeats 1000000 in
theorem retRS_1 (S : Nat → Nat) (hS : Hid (OkS S)) (ht : spI (S 0) = 1) (w : World) :
    Calls Tryd.prog 12 #[.agg (cs S), .int .i64 50] w (RetE (setN S 0 (lS (S 0))) 1 (S 15) w) := by
  obtain ⟨s, hs⟩ : ∃ s, S 0 = s := ⟨_, rfl⟩
  have ls : Hid (s < 18446744073709551616) := by show _ < _; rw [← hs]; exact hS.out.u 0 (by decide)
  have P0 : Hid (∀ u, Calls Tryd.prog 21 #[.int .u64 s, .int .i64 8] u (RetBX true u)) := fun u => by
    have h := bit_c s 8 ls (by decide) u
    rw [show s.testBit 8 = true from by rw [← hs]; exact sp_bit (S 0) 1 ht (by decide)] at h; exact h
  obtain ⟨bo, hbo⟩ : ∃ y, s.testBit 5 = y := ⟨_, rfl⟩
  have PB : Hid (∀ u, Calls Tryd.prog 21 #[.int .u64 s, .int .i64 5] u (RetBX bo u)) := fun u => by
    have := bit_c s 5 ls (by decide) u
    rw [hbo] at this; exact this
  obtain ⟨x1, hx1⟩ : ∃ y, putN s 2 bo = y := ⟨_, rfl⟩
  have lx1 : Hid (x1 < 18446744073709551616) := by show _ < _; rw [← hx1]; exact put_lt _ ls.out (by decide)
  have Px1 : Hid (∀ u, Calls Tryd.prog 22 #[.int .u64 s, .int .i64 1, .bool bo] u (RetUX x1 u)) := fun u => by
    have := with_c s 1 ls (by decide) bo u
    rw [show (2 : Nat) ^ 1 = 2 from rfl, hx1] at this; exact this
  obtain ⟨x2, hx2⟩ : ∃ y, putN x1 32 true = y := ⟨_, rfl⟩
  have lx2 : Hid (x2 < 18446744073709551616) := by show _ < _; rw [← hx2]; exact put_lt _ lx1.out (by decide)
  have Px2 : Hid (∀ u, Calls Tryd.prog 22 #[.int .u64 x1, .int .i64 5, .bool true] u (RetUX x2 u)) := fun u => by
    have := with_c x1 5 lx1 (by decide) true u
    rw [show (2 : Nat) ^ 5 = 32 from rfl, hx2] at this; exact this
  obtain ⟨x3, hx3⟩ : ∃ y, putN x2 256 false = y := ⟨_, rfl⟩
  have lx3 : Hid (x3 < 18446744073709551616) := by show _ < _; rw [← hx3]; exact put_lt _ lx2.out (by decide)
  have Px3 : Hid (∀ u, Calls Tryd.prog 22 #[.int .u64 x2, .int .i64 8, .bool false] u (RetUX x3 u)) := fun u => by
    have := with_c x2 8 lx2 (by decide) false u
    rw [show (2 : Nat) ^ 8 = 256 from rfl, hx3] at this; exact this
  obtain ⟨x4, hx4⟩ : ∃ y, putN x3 131072 false = y := ⟨_, rfl⟩
  have lx4 : Hid (x4 < 18446744073709551616) := by show _ < _; rw [← hx4]; exact put_lt _ lx3.out (by decide)
  have Px4 : Hid (∀ u, Calls Tryd.prog 22 #[.int .u64 x3, .int .i64 17, .bool false] u (RetUX x4 u)) := fun u => by
    have := with_c x3 17 lx3 (by decide) false u
    rw [show (2 : Nat) ^ 17 = 131072 from rfl, hx4] at this; exact this
  rw [hs, ← refLS s ls.out, hbo, hx1, hx2, hx3, hx4]
  obtain ⟨TT, hTT⟩ : ∃ TT, setN S 0 x4 = TT := ⟨_, rfl⟩
  have y1 : S 15 = TT 15 := by rw [← hTT]; rfl
  have g0 : (cs S)[0]? = some (.int .u64 s) := by rw [← hs]; rfl
  have gs1 := cs_set S 0 x4 (by unfold isU; decide)
  rw [hTT] at gs1
  rw [hTT, y1]
  obtain ⟨w6, hW⟩ : ∃ W1, W1 = (w.alloc (Obj.cells (cs TT) 26)).alloc (Obj.cells (cs Z38) 26) := ⟨_, rfl⟩
  have HG : Hid (Gs w [(w.heap.size + 1, Z38), (w.heap.size, TT)] w6) := by
    obtain ⟨r1, r2⟩ := two_rows w TT Z38
    rw [← hW] at r1 r2
    have hz : w6.heap.size = w.heap.size + 2 := by rw [hW, sz_alloc, sz_alloc]
    refine ⟨by rw [hW]; exact (by repeat (first | (with_reducible first | exact Below.refl _ _ | assumption | exact Nat.le_refl _ | refine Below.drew ?_ | refine Below.alloc ?_ ?_ _ | refine Below.setCell ?_ ?_ _ | refine le_alloc ?_ | refine le_set ?_ | refine le_drew ?_ | refine below_step (by assumption) ?_ ?_ | refine le_below (by assumption) ?_) | (dsimp only; omega))), fun p hp => ?_⟩
    rcases List.mem_cons.1 hp with rfl | hp
    · exact ⟨Nat.le_succ _, by rw [hz]; exact Nat.lt_succ_self _, r2⟩
    · obtain rfl := List.mem_singleton.1 hp
      exact ⟨Nat.le_refl _, by rw [hz]; omega, r1⟩
  have HW := Lib.hid hW
  clear hW hTT hS ht y1 hs ls hbo hx1 lx1 hx2 lx2 hx3 lx3 hx4 lx4
  go_enter Tryd.func12, Tryd.ntmps12
  go_wp2_with fail
  refine (P0.out _).mono ?_; rintro e w1 ⟨rfl, h⟩; replace h := h.symm; subst h
  go_wp2_with fail
  refine (PB.out _).mono ?_; rintro e w1 ⟨rfl, h⟩; replace h := h.symm; subst h
  go_wp2_with fail
  refine (Px1.out _).mono ?_; rintro e w1 ⟨rfl, h⟩; replace h := h.symm; subst h
  go_wp2_with fail
  refine (Px2.out _).mono ?_; rintro e w1 ⟨rfl, h⟩; replace h := h.symm; subst h
  go_wp2_with fail
  refine (Px3.out _).mono ?_; rintro e w1 ⟨rfl, h⟩; replace h := h.symm; subst h
  go_wp2_with fail
  refine (Px4.out _).mono ?_; rintro e w1 ⟨rfl, h⟩; replace h := h.symm; subst h
  go_wp2_with fail
  rw [show (w.alloc (Obj.cells (cs TT) 26)).alloc (Obj.cells #[.int .u64 0, .int .u64 0, .int .u64 0, .int .u64 0, .int .u64 0, .int .u64 0, .int .u64 0, .int .u64 0, .int .u64 0, .int .u64 0, .int .u64 0, .int .u64 0, .int .u64 0, .int .u64 0, .int .u64 0, .int .u64 0, .int .u64 0, .int .u64 0, .int .u64 0, .int .u64 0, .int .u64 0, .int .u64 0, .int .u8 0, .int .u8 0, .int .u8 0, .int .u8 0, .int .u8 0, .int .u8 0, .int .u8 0, .int .u8 0, .int .u64 0, .int .u64 0, .int .u64 0, .int .u64 0, .int .u64 0, .int .u64 0, .int .u64 0, .int .u64 0] 26) = w6 from HW.out.symm]
  clear HW g0 gs1
  have HP := Lib.hid HG.out.drew
  refine wp_region_held_drew (S := Gs w [(w.heap.size, TT)]) (by kernel_rfl) HG.out.tail.drew (fun hHeld => ?_)
  refine wpAnyH_take (i := 0) (v := .agg (cs TT)) rfl (by kernel_rfl) (by kernel_rfl) (by kernel_rfl) (fun _ _ _ h => h) (Or.inl ⟨by rfl, fun w' hw' => run_load_row 26 _ rfl w.heap.size rfl 26 (cs TT) (0, 0) _ (hw'.row w.heap.size TT (by simp)) Tryd.underlying26 rfl (infoS _)⟩) hHeld ?_
  simp only [Act.put, List.setIfInBounds_toArray, List.set_cons_zero, List.set_cons_succ]
  refine wpAnyH_take (i := 1) (v := .int .i64 1) rfl (by kernel_rfl) (by kernel_rfl) (by kernel_rfl) (fun _ _ _ h => h) (Or.inl ⟨by rfl, fun w' hw' => by go_simp⟩) hHeld ?_
  simp only [Act.put, List.setIfInBounds_toArray, List.set_cons_zero, List.set_cons_succ]
  refine wpAnyH_take (i := 2) (v := .pointer (some ⟨w.heap.size, 15, none⟩)) rfl (by kernel_rfl) (by kernel_rfl) (by kernel_rfl) (fun _ _ _ h => h) (Or.inl ⟨by rfl, fun w' hw' => by go_simp⟩) hHeld ?_
  simp only [Act.put, List.setIfInBounds_toArray, List.set_cons_zero, List.set_cons_succ]
  refine wpAnyH_take (i := 3) (v := .int .u64 (TT 15 : Nat)) rfl (by kernel_rfl) (by kernel_rfl) (by kernel_rfl) (fun _ _ _ h => h) (Or.inl ⟨by rfl, fun w' hw' => by have k9 := hw'.u w.heap.size TT (by simp) 15 (by unfold isU; decide); go_simp⟩) hHeld ?_
  simp only [Act.put, List.setIfInBounds_toArray, List.set_cons_zero, List.set_cons_succ]
  clear hHeld
  generalize w6.drew = wy at HP ⊢
  clear HG
  refine wpAnyH_ready (rs := [4]) (by kernel_rfl) (by simp) ?_
  refine AllReadyH.cons rfl (fun K hK => ?_) AllReadyH.nil
  rw [if_pos (by rfl)]
  refine wp_store_row 26 _ _ rfl (w.heap.size + 1) (cs TT) rfl rfl 26 (cs Z38) (HP.out.row (w.heap.size + 1) Z38 (by simp)) (infoS _) rfl (oneS _) ?_
  refine on_to hK (fun w' => Gs w [(w.heap.size + 1, TT), (w.heap.size, TT)] w') _ _ (gs_row HP.out (by simp)) (fun w' h => h.tail) ?_
  intro wz1 hp
  clear hK
  replace hp := Lib.hid hp
  refine wpAnyH_ready (rs := [5]) (by kernel_rfl) (by simp) ?_
  refine AllReadyH.cons rfl (fun K hK => ?_) AllReadyH.nil
  go_simp
  refine on_to hK (fun w' => Gs w [(w.heap.size + 1, TT), (w.heap.size, TT)] w') _ _ hp.out (fun w' h => h.tail) ?_
  intro wz2 hp
  clear hK
  replace hp := Lib.hid hp
  refine wpAnyH_ready (rs := [6]) (by kernel_rfl) (by simp) ?_
  refine AllReadyH.cons rfl (fun K hK => ?_) AllReadyH.nil
  go_simp
  refine on_to hK (fun w' => Gs w [(w.heap.size + 1, TT), (w.heap.size, TT)] w') _ _ hp.out (fun w' h => h.tail) ?_
  intro wz3 hp
  clear hK
  replace hp := Lib.hid hp
  refine wpAnyH_done (by decide +kernel) ?_ _
  go_wp2_with fail
  refine bodyPost_ret (results_row3 rfl _ _ (w.heap.size + 1) 26 (cs TT) (0, 0) _ rfl (hp.out.row (w.heap.size + 1) TT (by simp)) Tryd.underlying26 rfl (infoS _)) rfl ?_
  exact ⟨rfl, hp.out.1⟩
set_option maxRecDepth 100000 in
theorem retRN (S : Nat → Nat) (k : Int) (h1 : ¬ k = 49) (h2 : ¬ k = 50) (w : World) : Calls Tryd.prog 12 #[.agg (cs S), .int .i64 k] w (RetE S 3 0 w) := by
  have e1 : (k == 49) = false := by simpa using h1
  have e2 : (k == 50) = false := by simpa using h2
  have g0 : (cs S)[0]? = some (.int .u64 (S 0 : Nat)) := rfl
  obtain ⟨R1, R2⟩ := two_rows w S Z38
  replace R1 := Lib.hid R1; replace R2 := Lib.hid R2
  have hB : Hid (Below w.heap.size w ((w.alloc (Obj.cells (cs S) 26)).alloc (Obj.cells (cs Z38) 26))) := by show Below _ _ _; exact (by repeat (first | (with_reducible first | exact Below.refl _ _ | assumption | exact Nat.le_refl _ | refine Below.drew ?_ | refine Below.alloc ?_ ?_ _ | refine Below.setCell ?_ ?_ _ | refine le_alloc ?_ | refine le_set ?_ | refine le_drew ?_ | refine below_step (by assumption) ?_ ?_ | refine le_below (by assumption) ?_) | (dsimp only; omega)))
  clear h1 h2
  go_enter Tryd.func12, Tryd.ntmps12
  go_wp2_with (first
    | (refine wpList_load_row rfl 26 _ rfl w.heap.size rfl 26 (cs S) (0, 0) _ R1.out Tryd.underlying26 rfl (infoS _) ?_)
    | (refine wpList_store_row rfl 26 _ _ rfl (w.heap.size + 1) (cs S) rfl rfl 26 (cs Z38) R2.out (infoS _) rfl (oneS _) ?_))
  refine bodyPost_ret (results_row3 rfl _ _ (w.heap.size + 1) 26 (cs S) (0, 0) _ rfl (R2.out.setRow _) Tryd.underlying26 rfl (infoS _)) rfl ?_
  exact ⟨rfl, below_setRow hB.out (by omega) _⟩
end Go.Proofs.YteeifdmnagbjeaaDoor
