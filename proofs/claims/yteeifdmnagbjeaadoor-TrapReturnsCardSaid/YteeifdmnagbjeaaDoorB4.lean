/- Return. -/
import Derived.Test.YteeifdmnagbjeaaDoorB3
import Derived.Deep.RegionHeld
namespace Go.Proofs.YteeifdmnagbjeaaDoor
open Go.ChangeShapes Go.WideShapes Go.ChangeAt Go.RowKit Go.Sort Y
set_option linter.unusedVariables false
set_option linter.unusedSimpArgs false

theorem q_UI {w : World} {f : FuncId} {args : Array Value} {n : Nat} {t : Int} {dd : Nat} {os : Array Obj} (h : Calls Tryd.prog f args (grow (redrawn w dd) os) (RetUI n t (grow (redrawn w dd) os))) :
    Calls Tryd.prog f args (grow (redrawn w dd) os) fun e w'' => e = .returned (.tuple #[.int .u64 n, .int .i64 t]) ∧ ∃ p : Regrown, w'' = grow (redrawn w p.d) p.os := Calls.regrown_of h
set_option maxRecDepth 100000 in
set_option maxHeartbeats 1000000 in
theorem retM_0 (S : Nat → Nat) (hS : Hid (OkS S)) (ht : mpI (S 0) = 0) (w : World) :
    Calls Tryd.prog 11 #[.agg (cs S), .int .i64 49] w (RetE (setN S 0 (lM (S 0) 0)) 0 (S 6) w) := by
  have PF := Lib.hid (fun u => fieldsOf_3 u)
  have PE : Hid (∀ u, Calls Tryd.prog 24 #[.agg #[.int .u64 8, .int .u64 128, .int .u64 6144, .int .i64 11], .int .u64 (S 0 : Nat)] u (RetUI (lM (S 0) 0) 0 u)) := fun u => leftM_0 (S 0) (hS.out.u 0 (by decide)) ht u
  obtain ⟨x, hx⟩ : ∃ x, lM (S 0) 0 = x := ⟨_, rfl⟩
  rw [hx] at PE ⊢
  obtain ⟨TT, hTT⟩ : ∃ TT, setN S 0 x = TT := ⟨_, rfl⟩
  have y1 : S 6 = TT 6 := by rw [← hTT]; rfl
  rw [hTT, y1]
  obtain ⟨W1, hW⟩ : ∃ W1, W1 = (w.alloc (Obj.cells (cs S) 26)).alloc (Obj.cells (cs Z38) 26) := ⟨_, rfl⟩
  have HR : Hid (Row W1 w.heap.size 26 (cs S) ∧ Row W1 (w.heap.size + 1) 26 (cs Z38)) := by show _ ∧ _; rw [hW]; exact two_rows w S Z38
  have HB : Hid (Below w.heap.size w W1) := by show Below _ _ _; rw [hW]; exact (by repeat (first | (with_reducible first | exact Below.refl _ _ | assumption | exact Nat.le_refl _ | refine Below.drew ?_ | refine Below.alloc ?_ ?_ _ | refine Below.setCell ?_ ?_ _ | refine le_alloc ?_ | refine le_set ?_ | refine le_drew ?_ | refine below_step (by assumption) ?_ ?_ | refine le_below (by assumption) ?_) | (dsimp only; omega)))
  have HW := Lib.hid hW
  have HTT := Lib.hid hTT
  clear hW hTT hx hS ht y1
  go_enter Tryd.func11, Tryd.ntmps11
  go_wp2_with fail
  rw [show (w.alloc (Obj.cells (cs S) 26)).alloc (Obj.cells #[.int .u64 0, .int .u64 0, .int .u64 0, .int .u64 0, .int .u64 0, .int .u64 0, .int .u64 0, .int .u64 0, .int .u64 0, .int .u64 0, .int .u64 0, .int .u64 0, .int .u64 0, .int .u64 0, .int .u64 0, .int .u64 0, .int .u64 0, .int .u64 0, .int .u64 0, .int .u64 0, .int .u64 0, .int .u64 0, .int .u8 0, .int .u8 0, .int .u8 0, .int .u8 0, .int .u8 0, .int .u8 0, .int .u8 0, .int .u8 0, .int .u64 0, .int .u64 0, .int .u64 0, .int .u64 0, .int .u64 0, .int .u64 0, .int .u64 0, .int .u64 0] 26) = W1 from HW.out.symm]
  have K0 := cell_regrown ((HR.out.1.cell 0).trans (show (cs S)[0]? = some (.int .u64 (S 0 : Nat)) from rfl))
  have q1 := fun dd os => q_V (w := W1) (dd := dd) (os := os) (PF.out _)
  have q2 := fun dd os => q_UI (w := W1) (dd := dd) (os := os) (PE.out _)
  refine wp_region_below_head 4 6 #[true, true, true, true, false, false, false, false, false, false] (by kernel_rfl) (by kernel_rfl) rfl ?_
  simp only [List.take_succ_cons, List.take_zero]
  repeat (first
    | go_big_quiet_skip
    | (go_big_quiet_want; go_big_quiet_op; first | go_big_quiet_on | go_big_quiet_call ((first | (go_at_call 17; exact q1 _ _) | (go_at_call 24; exact q2 _ _)))))
  refine wpQuiet_nil ?_
  intro _ hw'
  obtain ⟨⟨dq, osq⟩, hw''⟩ := hw'
  subst hw''
  have hb := below_regrown W1 dq osq
  have hz : w.heap.size + 1 < W1.heap.size := by rw [HW.out, sz_alloc, sz_alloc]; omega
  have HR5 : Hid (Gs w [(w.heap.size + 1, Z38), (w.heap.size, S)] (grow (redrawn W1 dq) osq)) := ⟨below_step hb HB.out HB.out.size, fun p hp => by
    have hs := hb.size
    rcases List.mem_cons.1 hp with rfl | hp
    · exact ⟨Nat.le_succ _, Nat.lt_of_lt_of_le hz hs, HR.out.2.below hb hz⟩
    · obtain rfl := List.mem_singleton.1 hp
      exact ⟨Nat.le_refl _, Nat.lt_of_lt_of_le (Nat.lt_trans (Nat.lt_succ_self _) hz) hs, HR.out.1.below hb (Nat.lt_trans (Nat.lt_succ_self _) hz)⟩⟩
  generalize grow (redrawn W1 dq) osq = w5 at HR5 ⊢
  clear hb hz q1 q2 K0 HB HR HW PE PF
  have k0 : w5.cell? ⟨w.heap.size, 0, none⟩ = some (.int .u64 (S 0 : Nat)) := (HR5.out.row w.heap.size S (by simp)).cell 0
  have z0 : w5.frozen? ⟨w.heap.size, 0, none⟩ = false := (HR5.out.row w.heap.size S (by simp)).fz 0
  refine wpAny_of_held (S := fun _ => True) _ _ _ _ ?_
  have hHeld : True := True.intro
  refine wpAnyH_take (i := 4) (v := .tuple #[.int .u64 x, .int .i64 0]) rfl (by kernel_rfl) (by kernel_rfl) (by kernel_rfl) (fun _ _ _ h => h) (Or.inl ⟨by rfl, fun w' hw' => by go_simp⟩) hHeld ?_
  simp only [Act.put, List.setIfInBounds_toArray, List.set_cons_zero, List.set_cons_succ]
  refine wpAnyH_take (i := 5) (v := .int .u64 x) rfl (by kernel_rfl) (by kernel_rfl) (by kernel_rfl) (fun _ _ _ h => h) (Or.inl ⟨by rfl, fun w' hw' => by go_simp⟩) hHeld ?_
  simp only [Act.put, List.setIfInBounds_toArray, List.set_cons_zero, List.set_cons_succ]
  refine wpAnyH_take (i := 6) (v := .int .i64 0) rfl (by kernel_rfl) (by kernel_rfl) (by kernel_rfl) (fun _ _ _ h => h) (Or.inl ⟨by rfl, fun w' hw' => by go_simp⟩) hHeld ?_
  simp only [Act.put, List.setIfInBounds_toArray, List.set_cons_zero, List.set_cons_succ]
  refine wpAnyH_take (i := 7) (v := .pointer (some ⟨w.heap.size, 0, none⟩)) rfl (by kernel_rfl) (by kernel_rfl) (by kernel_rfl) (fun _ _ _ h => h) (Or.inl ⟨by rfl, fun w' hw' => by go_simp⟩) hHeld ?_
  simp only [Act.put, List.setIfInBounds_toArray, List.set_cons_zero, List.set_cons_succ]
  refine wpAnyH_ready (rs := [8]) (by kernel_rfl) (by simp) ?_
  refine AllReadyH.cons rfl (fun K hK => ?_) AllReadyH.nil
  go_simp
  refine hK.out _ _ True.intro (fun _ => ?_)
  clear hK
  have HG : Hid (Gs w [(w.heap.size + 1, Z38), (w.heap.size, TT)] (w5.setCell ⟨w.heap.size, 0, none⟩ (.int .u64 (x : Nat)))) := by
    have := gs_cell (gs_perm (L' := [(w.heap.size, S), (w.heap.size + 1, Z38)]) HR5.out (by simp)) (by simp) 0 x (by unfold isU; decide)
    rw [HTT.out] at this
    exact gs_perm this (by simp)
  generalize w5.setCell ⟨w.heap.size, 0, none⟩ (.int .u64 (x : Nat)) = w6 at HG ⊢
  clear k0 z0 HR5 HTT
  refine wpAnyH_ready (rs := [9]) (by kernel_rfl) (by simp) ?_
  refine AllReadyH.cons rfl (fun K hK => ?_) AllReadyH.nil
  go_simp
  refine hK.out _ _ True.intro (fun _ => ?_)
  clear hK
  refine wpAnyH_done (by decide +kernel) ?_ _
  go_wp2_with fail
  have HP := Lib.hid HG.out.drew
  refine wp_region_held_drew (S := Gs w [(w.heap.size, TT)]) (by kernel_rfl) HG.out.tail.drew (fun hHeld => ?_)
  refine wpAnyH_take (i := 0) (v := .agg (cs TT)) rfl (by kernel_rfl) (by kernel_rfl) (by kernel_rfl) (fun _ _ _ h => h) (Or.inl ⟨by rfl, fun w' hw' => run_load_row 26 _ rfl w.heap.size rfl 26 (cs TT) (0, 0) _ (hw'.row w.heap.size TT (by simp)) Tryd.underlying26 rfl (infoS _)⟩) hHeld ?_
  simp only [Act.put, List.setIfInBounds_toArray, List.set_cons_zero, List.set_cons_succ]
  refine wpAnyH_take (i := 1) (v := .int .i64 0) rfl (by kernel_rfl) (by kernel_rfl) (by kernel_rfl) (fun _ _ _ h => h) (Or.inl ⟨by rfl, fun w' hw' => by go_simp⟩) hHeld ?_
  simp only [Act.put, List.setIfInBounds_toArray, List.set_cons_zero, List.set_cons_succ]
  refine wpAnyH_take (i := 2) (v := .pointer (some ⟨w.heap.size, 6, none⟩)) rfl (by kernel_rfl) (by kernel_rfl) (by kernel_rfl) (fun _ _ _ h => h) (Or.inl ⟨by rfl, fun w' hw' => by go_simp⟩) hHeld ?_
  simp only [Act.put, List.setIfInBounds_toArray, List.set_cons_zero, List.set_cons_succ]
  refine wpAnyH_take (i := 3) (v := .int .u64 (TT 6 : Nat)) rfl (by kernel_rfl) (by kernel_rfl) (by kernel_rfl) (fun _ _ _ h => h) (Or.inl ⟨by rfl, fun w' hw' => by have k9 := hw'.u w.heap.size TT (by simp) 6 (by unfold isU; decide); go_simp⟩) hHeld ?_
  simp only [Act.put, List.setIfInBounds_toArray, List.set_cons_zero, List.set_cons_succ]
  clear hHeld
  generalize w6.drew = wy at HP ⊢
  clear HG
  refine wpAnyH_ready (rs := [4]) (by kernel_rfl) (by simp) ?_
  refine AllReadyH.cons rfl (fun K hK => ?_) AllReadyH.nil
  rw [if_pos (by rfl)]
  refine wp_store_row 26 _ _ rfl (w.heap.size + 1) (cs TT) rfl rfl 26 (cs Z38) (HP.out.row (w.heap.size + 1) Z38 (by simp)) (infoS _) rfl (oneS _) ?_
  refine on_to hK (fun w' => Gs w [(w.heap.size + 1, TT), (w.heap.size, TT)] w') _ _ (gs_row HP.out (by simp)) (fun w' h => h.tail) ?_
  intro wz1 hp
  clear hK
  replace hp := Lib.hid hp
  refine wpAnyH_ready (rs := [5]) (by kernel_rfl) (by simp) ?_
  refine AllReadyH.cons rfl (fun K hK => ?_) AllReadyH.nil
  go_simp
  refine on_to hK (fun w' => Gs w [(w.heap.size + 1, TT), (w.heap.size, TT)] w') _ _ hp.out (fun w' h => h.tail) ?_
  intro wz2 hp
  clear hK
  replace hp := Lib.hid hp
  refine wpAnyH_ready (rs := [6]) (by kernel_rfl) (by simp) ?_
  refine AllReadyH.cons rfl (fun K hK => ?_) AllReadyH.nil
  go_simp
  refine on_to hK (fun w' => Gs w [(w.heap.size + 1, TT), (w.heap.size, TT)] w') _ _ hp.out (fun w' h => h.tail) ?_
  intro wz3 hp
  clear hK
  replace hp := Lib.hid hp
  refine wpAnyH_done (by decide +kernel) ?_ _
  go_wp2_with fail
  refine bodyPost_ret (results_row3 rfl _ _ (w.heap.size + 1) 26 (cs TT) (0, 0) _ rfl (hp.out.row (w.heap.size + 1) TT (by simp)) Tryd.underlying26 rfl (infoS _)) rfl ?_
  exact ⟨rfl, hp.out.1⟩

set_option maxRecDepth 100000 in
set_option maxHeartbeats 1000000 in
theorem retM_1 (S : Nat → Nat) (hS : Hid (OkS S)) (ht : mpI (S 0) = 1) (w : World) :
    Calls Tryd.prog 11 #[.agg (cs S), .int .i64 49] w (RetE (setN S 0 (lM (S 0) 1)) 1 (S 6) w) := by
  have PF := Lib.hid (fun u => fieldsOf_3 u)
  have PE : Hid (∀ u, Calls Tryd.prog 24 #[.agg #[.int .u64 8, .int .u64 128, .int .u64 6144, .int .i64 11], .int .u64 (S 0 : Nat)] u (RetUI (lM (S 0) 1) 1 u)) := fun u => leftM_1 (S 0) (hS.out.u 0 (by decide)) ht u
  obtain ⟨x, hx⟩ : ∃ x, lM (S 0) 1 = x := ⟨_, rfl⟩
  rw [hx] at PE ⊢
  obtain ⟨TT, hTT⟩ : ∃ TT, setN S 0 x = TT := ⟨_, rfl⟩
  have y1 : S 6 = TT 6 := by rw [← hTT]; rfl
  rw [hTT, y1]
  obtain ⟨W1, hW⟩ : ∃ W1, W1 = (w.alloc (Obj.cells (cs S) 26)).alloc (Obj.cells (cs Z38) 26) := ⟨_, rfl⟩
  have HR : Hid (Row W1 w.heap.size 26 (cs S) ∧ Row W1 (w.heap.size + 1) 26 (cs Z38)) := by show _ ∧ _; rw [hW]; exact two_rows w S Z38
  have HB : Hid (Below w.heap.size w W1) := by show Below _ _ _; rw [hW]; exact (by repeat (first | (with_reducible first | exact Below.refl _ _ | assumption | exact Nat.le_refl _ | refine Below.drew ?_ | refine Below.alloc ?_ ?_ _ | refine Below.setCell ?_ ?_ _ | refine le_alloc ?_ | refine le_set ?_ | refine le_drew ?_ | refine below_step (by assumption) ?_ ?_ | refine le_below (by assumption) ?_) | (dsimp only; omega)))
  have HW := Lib.hid hW
  have HTT := Lib.hid hTT
  clear hW hTT hx hS ht y1
  go_enter Tryd.func11, Tryd.ntmps11
  go_wp2_with fail
  rw [show (w.alloc (Obj.cells (cs S) 26)).alloc (Obj.cells #[.int .u64 0, .int .u64 0, .int .u64 0, .int .u64 0, .int .u64 0, .int .u64 0, .int .u64 0, .int .u64 0, .int .u64 0, .int .u64 0, .int .u64 0, .int .u64 0, .int .u64 0, .int .u64 0, .int .u64 0, .int .u64 0, .int .u64 0, .int .u64 0, .int .u64 0, .int .u64 0, .int .u64 0, .int .u64 0, .int .u8 0, .int .u8 0, .int .u8 0, .int .u8 0, .int .u8 0, .int .u8 0, .int .u8 0, .int .u8 0, .int .u64 0, .int .u64 0, .int .u64 0, .int .u64 0, .int .u64 0, .int .u64 0, .int .u64 0, .int .u64 0] 26) = W1 from HW.out.symm]
  have K0 := cell_regrown ((HR.out.1.cell 0).trans (show (cs S)[0]? = some (.int .u64 (S 0 : Nat)) from rfl))
  have q1 := fun dd os => q_V (w := W1) (dd := dd) (os := os) (PF.out _)
  have q2 := fun dd os => q_UI (w := W1) (dd := dd) (os := os) (PE.out _)
  refine wp_region_below_head 4 6 #[true, true, true, true, false, false, false, false, false, false] (by kernel_rfl) (by kernel_rfl) rfl ?_
  simp only [List.take_succ_cons, List.take_zero]
  repeat (first
    | go_big_quiet_skip
    | (go_big_quiet_want; go_big_quiet_op; first | go_big_quiet_on | go_big_quiet_call ((first | (go_at_call 17; exact q1 _ _) | (go_at_call 24; exact q2 _ _)))))
  refine wpQuiet_nil ?_
  intro _ hw'
  obtain ⟨⟨dq, osq⟩, hw''⟩ := hw'
  subst hw''
  have hb := below_regrown W1 dq osq
  have hz : w.heap.size + 1 < W1.heap.size := by rw [HW.out, sz_alloc, sz_alloc]; omega
  have HR5 : Hid (Gs w [(w.heap.size + 1, Z38), (w.heap.size, S)] (grow (redrawn W1 dq) osq)) := ⟨below_step hb HB.out HB.out.size, fun p hp => by
    have hs := hb.size
    rcases List.mem_cons.1 hp with rfl | hp
    · exact ⟨Nat.le_succ _, Nat.lt_of_lt_of_le hz hs, HR.out.2.below hb hz⟩
    · obtain rfl := List.mem_singleton.1 hp
      exact ⟨Nat.le_refl _, Nat.lt_of_lt_of_le (Nat.lt_trans (Nat.lt_succ_self _) hz) hs, HR.out.1.below hb (Nat.lt_trans (Nat.lt_succ_self _) hz)⟩⟩
  generalize grow (redrawn W1 dq) osq = w5 at HR5 ⊢
  clear hb hz q1 q2 K0 HB HR HW PE PF
  have k0 : w5.cell? ⟨w.heap.size, 0, none⟩ = some (.int .u64 (S 0 : Nat)) := (HR5.out.row w.heap.size S (by simp)).cell 0
  have z0 : w5.frozen? ⟨w.heap.size, 0, none⟩ = false := (HR5.out.row w.heap.size S (by simp)).fz 0
  refine wpAny_of_held (S := fun _ => True) _ _ _ _ ?_
  have hHeld : True := True.intro
  refine wpAnyH_take (i := 4) (v := .tuple #[.int .u64 x, .int .i64 1]) rfl (by kernel_rfl) (by kernel_rfl) (by kernel_rfl) (fun _ _ _ h => h) (Or.inl ⟨by rfl, fun w' hw' => by go_simp⟩) hHeld ?_
  simp only [Act.put, List.setIfInBounds_toArray, List.set_cons_zero, List.set_cons_succ]
  refine wpAnyH_take (i := 5) (v := .int .u64 x) rfl (by kernel_rfl) (by kernel_rfl) (by kernel_rfl) (fun _ _ _ h => h) (Or.inl ⟨by rfl, fun w' hw' => by go_simp⟩) hHeld ?_
  simp only [Act.put, List.setIfInBounds_toArray, List.set_cons_zero, List.set_cons_succ]
  refine wpAnyH_take (i := 6) (v := .int .i64 1) rfl (by kernel_rfl) (by kernel_rfl) (by kernel_rfl) (fun _ _ _ h => h) (Or.inl ⟨by rfl, fun w' hw' => by go_simp⟩) hHeld ?_
  simp only [Act.put, List.setIfInBounds_toArray, List.set_cons_zero, List.set_cons_succ]
  refine wpAnyH_take (i := 7) (v := .pointer (some ⟨w.heap.size, 0, none⟩)) rfl (by kernel_rfl) (by kernel_rfl) (by kernel_rfl) (fun _ _ _ h => h) (Or.inl ⟨by rfl, fun w' hw' => by go_simp⟩) hHeld ?_
  simp only [Act.put, List.setIfInBounds_toArray, List.set_cons_zero, List.set_cons_succ]
  refine wpAnyH_ready (rs := [8]) (by kernel_rfl) (by simp) ?_
  refine AllReadyH.cons rfl (fun K hK => ?_) AllReadyH.nil
  go_simp
  refine hK.out _ _ True.intro (fun _ => ?_)
  clear hK
  have HG : Hid (Gs w [(w.heap.size + 1, Z38), (w.heap.size, TT)] (w5.setCell ⟨w.heap.size, 0, none⟩ (.int .u64 (x : Nat)))) := by
    have := gs_cell (gs_perm (L' := [(w.heap.size, S), (w.heap.size + 1, Z38)]) HR5.out (by simp)) (by simp) 0 x (by unfold isU; decide)
    rw [HTT.out] at this
    exact gs_perm this (by simp)
  generalize w5.setCell ⟨w.heap.size, 0, none⟩ (.int .u64 (x : Nat)) = w6 at HG ⊢
  clear k0 z0 HR5 HTT
  refine wpAnyH_ready (rs := [9]) (by kernel_rfl) (by simp) ?_
  refine AllReadyH.cons rfl (fun K hK => ?_) AllReadyH.nil
  go_simp
  refine hK.out _ _ True.intro (fun _ => ?_)
  clear hK
  refine wpAnyH_done (by decide +kernel) ?_ _
  go_wp2_with fail
  have HP := Lib.hid HG.out.drew
  refine wp_region_held_drew (S := Gs w [(w.heap.size, TT)]) (by kernel_rfl) HG.out.tail.drew (fun hHeld => ?_)
  refine wpAnyH_take (i := 0) (v := .agg (cs TT)) rfl (by kernel_rfl) (by kernel_rfl) (by kernel_rfl) (fun _ _ _ h => h) (Or.inl ⟨by rfl, fun w' hw' => run_load_row 26 _ rfl w.heap.size rfl 26 (cs TT) (0, 0) _ (hw'.row w.heap.size TT (by simp)) Tryd.underlying26 rfl (infoS _)⟩) hHeld ?_
  simp only [Act.put, List.setIfInBounds_toArray, List.set_cons_zero, List.set_cons_succ]
  refine wpAnyH_take (i := 1) (v := .int .i64 1) rfl (by kernel_rfl) (by kernel_rfl) (by kernel_rfl) (fun _ _ _ h => h) (Or.inl ⟨by rfl, fun w' hw' => by go_simp⟩) hHeld ?_
  simp only [Act.put, List.setIfInBounds_toArray, List.set_cons_zero, List.set_cons_succ]
  refine wpAnyH_take (i := 2) (v := .pointer (some ⟨w.heap.size, 6, none⟩)) rfl (by kernel_rfl) (by kernel_rfl) (by kernel_rfl) (fun _ _ _ h => h) (Or.inl ⟨by rfl, fun w' hw' => by go_simp⟩) hHeld ?_
  simp only [Act.put, List.setIfInBounds_toArray, List.set_cons_zero, List.set_cons_succ]
  refine wpAnyH_take (i := 3) (v := .int .u64 (TT 6 : Nat)) rfl (by kernel_rfl) (by kernel_rfl) (by kernel_rfl) (fun _ _ _ h => h) (Or.inl ⟨by rfl, fun w' hw' => by have k9 := hw'.u w.heap.size TT (by simp) 6 (by unfold isU; decide); go_simp⟩) hHeld ?_
  simp only [Act.put, List.setIfInBounds_toArray, List.set_cons_zero, List.set_cons_succ]
  clear hHeld
  generalize w6.drew = wy at HP ⊢
  clear HG
  refine wpAnyH_ready (rs := [4]) (by kernel_rfl) (by simp) ?_
  refine AllReadyH.cons rfl (fun K hK => ?_) AllReadyH.nil
  rw [if_pos (by rfl)]
  refine wp_store_row 26 _ _ rfl (w.heap.size + 1) (cs TT) rfl rfl 26 (cs Z38) (HP.out.row (w.heap.size + 1) Z38 (by simp)) (infoS _) rfl (oneS _) ?_
  refine on_to hK (fun w' => Gs w [(w.heap.size + 1, TT), (w.heap.size, TT)] w') _ _ (gs_row HP.out (by simp)) (fun w' h => h.tail) ?_
  intro wz1 hp
  clear hK
  replace hp := Lib.hid hp
  refine wpAnyH_ready (rs := [5]) (by kernel_rfl) (by simp) ?_
  refine AllReadyH.cons rfl (fun K hK => ?_) AllReadyH.nil
  go_simp
  refine on_to hK (fun w' => Gs w [(w.heap.size + 1, TT), (w.heap.size, TT)] w') _ _ hp.out (fun w' h => h.tail) ?_
  intro wz2 hp
  clear hK
  replace hp := Lib.hid hp
  refine wpAnyH_ready (rs := [6]) (by kernel_rfl) (by simp) ?_
  refine AllReadyH.cons rfl (fun K hK => ?_) AllReadyH.nil
  go_simp
  refine on_to hK (fun w' => Gs w [(w.heap.size + 1, TT), (w.heap.size, TT)] w') _ _ hp.out (fun w' h => h.tail) ?_
  intro wz3 hp
  clear hK
  replace hp := Lib.hid hp
  refine wpAnyH_done (by decide +kernel) ?_ _
  go_wp2_with fail
  refine bodyPost_ret (results_row3 rfl _ _ (w.heap.size + 1) 26 (cs TT) (0, 0) _ rfl (hp.out.row (w.heap.size + 1) TT (by simp)) Tryd.underlying26 rfl (infoS _)) rfl ?_
  exact ⟨rfl, hp.out.1⟩

set_option maxRecDepth 100000 in
set_option maxHeartbeats 1000000 in
theorem retM_3 (S : Nat → Nat) (hS : Hid (OkS S)) (ht : mpI (S 0) = 3) (w : World) :
    Calls Tryd.prog 11 #[.agg (cs S), .int .i64 49] w (RetE (setN S 0 (lM (S 0) 3)) 3 (S 6) w) := by
  have PF := Lib.hid (fun u => fieldsOf_3 u)
  have PE : Hid (∀ u, Calls Tryd.prog 24 #[.agg #[.int .u64 8, .int .u64 128, .int .u64 6144, .int .i64 11], .int .u64 (S 0 : Nat)] u (RetUI (lM (S 0) 3) 3 u)) := fun u => leftM_3 (S 0) (hS.out.u 0 (by decide)) ht u
  obtain ⟨x, hx⟩ : ∃ x, lM (S 0) 3 = x := ⟨_, rfl⟩
  rw [hx] at PE ⊢
  obtain ⟨TT, hTT⟩ : ∃ TT, setN S 0 x = TT := ⟨_, rfl⟩
  have y1 : S 6 = TT 6 := by rw [← hTT]; rfl
  rw [hTT, y1]
  obtain ⟨W1, hW⟩ : ∃ W1, W1 = (w.alloc (Obj.cells (cs S) 26)).alloc (Obj.cells (cs Z38) 26) := ⟨_, rfl⟩
  have HR : Hid (Row W1 w.heap.size 26 (cs S) ∧ Row W1 (w.heap.size + 1) 26 (cs Z38)) := by show _ ∧ _; rw [hW]; exact two_rows w S Z38
  have HB : Hid (Below w.heap.size w W1) := by show Below _ _ _; rw [hW]; exact (by repeat (first | (with_reducible first | exact Below.refl _ _ | assumption | exact Nat.le_refl _ | refine Below.drew ?_ | refine Below.alloc ?_ ?_ _ | refine Below.setCell ?_ ?_ _ | refine le_alloc ?_ | refine le_set ?_ | refine le_drew ?_ | refine below_step (by assumption) ?_ ?_ | refine le_below (by assumption) ?_) | (dsimp only; omega)))
  have HW := Lib.hid hW
  have HTT := Lib.hid hTT
  clear hW hTT hx hS ht y1
  go_enter Tryd.func11, Tryd.ntmps11
  go_wp2_with fail
  rw [show (w.alloc (Obj.cells (cs S) 26)).alloc (Obj.cells #[.int .u64 0, .int .u64 0, .int .u64 0, .int .u64 0, .int .u64 0, .int .u64 0, .int .u64 0, .int .u64 0, .int .u64 0, .int .u64 0, .int .u64 0, .int .u64 0, .int .u64 0, .int .u64 0, .int .u64 0, .int .u64 0, .int .u64 0, .int .u64 0, .int .u64 0, .int .u64 0, .int .u64 0, .int .u64 0, .int .u8 0, .int .u8 0, .int .u8 0, .int .u8 0, .int .u8 0, .int .u8 0, .int .u8 0, .int .u8 0, .int .u64 0, .int .u64 0, .int .u64 0, .int .u64 0, .int .u64 0, .int .u64 0, .int .u64 0, .int .u64 0] 26) = W1 from HW.out.symm]
  have K0 := cell_regrown ((HR.out.1.cell 0).trans (show (cs S)[0]? = some (.int .u64 (S 0 : Nat)) from rfl))
  have q1 := fun dd os => q_V (w := W1) (dd := dd) (os := os) (PF.out _)
  have q2 := fun dd os => q_UI (w := W1) (dd := dd) (os := os) (PE.out _)
  refine wp_region_below_head 4 6 #[true, true, true, true, false, false, false, false, false, false] (by kernel_rfl) (by kernel_rfl) rfl ?_
  simp only [List.take_succ_cons, List.take_zero]
  repeat (first
    | go_big_quiet_skip
    | (go_big_quiet_want; go_big_quiet_op; first | go_big_quiet_on | go_big_quiet_call ((first | (go_at_call 17; exact q1 _ _) | (go_at_call 24; exact q2 _ _)))))
  refine wpQuiet_nil ?_
  intro _ hw'
  obtain ⟨⟨dq, osq⟩, hw''⟩ := hw'
  subst hw''
  have hb := below_regrown W1 dq osq
  have hz : w.heap.size + 1 < W1.heap.size := by rw [HW.out, sz_alloc, sz_alloc]; omega
  have HR5 : Hid (Gs w [(w.heap.size + 1, Z38), (w.heap.size, S)] (grow (redrawn W1 dq) osq)) := ⟨below_step hb HB.out HB.out.size, fun p hp => by
    have hs := hb.size
    rcases List.mem_cons.1 hp with rfl | hp
    · exact ⟨Nat.le_succ _, Nat.lt_of_lt_of_le hz hs, HR.out.2.below hb hz⟩
    · obtain rfl := List.mem_singleton.1 hp
      exact ⟨Nat.le_refl _, Nat.lt_of_lt_of_le (Nat.lt_trans (Nat.lt_succ_self _) hz) hs, HR.out.1.below hb (Nat.lt_trans (Nat.lt_succ_self _) hz)⟩⟩
  generalize grow (redrawn W1 dq) osq = w5 at HR5 ⊢
  clear hb hz q1 q2 K0 HB HR HW PE PF
  have k0 : w5.cell? ⟨w.heap.size, 0, none⟩ = some (.int .u64 (S 0 : Nat)) := (HR5.out.row w.heap.size S (by simp)).cell 0
  have z0 : w5.frozen? ⟨w.heap.size, 0, none⟩ = false := (HR5.out.row w.heap.size S (by simp)).fz 0
  refine wpAny_of_held (S := fun _ => True) _ _ _ _ ?_
  have hHeld : True := True.intro
  refine wpAnyH_take (i := 4) (v := .tuple #[.int .u64 x, .int .i64 3]) rfl (by kernel_rfl) (by kernel_rfl) (by kernel_rfl) (fun _ _ _ h => h) (Or.inl ⟨by rfl, fun w' hw' => by go_simp⟩) hHeld ?_
  simp only [Act.put, List.setIfInBounds_toArray, List.set_cons_zero, List.set_cons_succ]
  refine wpAnyH_take (i := 5) (v := .int .u64 x) rfl (by kernel_rfl) (by kernel_rfl) (by kernel_rfl) (fun _ _ _ h => h) (Or.inl ⟨by rfl, fun w' hw' => by go_simp⟩) hHeld ?_
  simp only [Act.put, List.setIfInBounds_toArray, List.set_cons_zero, List.set_cons_succ]
  refine wpAnyH_take (i := 6) (v := .int .i64 3) rfl (by kernel_rfl) (by kernel_rfl) (by kernel_rfl) (fun _ _ _ h => h) (Or.inl ⟨by rfl, fun w' hw' => by go_simp⟩) hHeld ?_
  simp only [Act.put, List.setIfInBounds_toArray, List.set_cons_zero, List.set_cons_succ]
  refine wpAnyH_take (i := 7) (v := .pointer (some ⟨w.heap.size, 0, none⟩)) rfl (by kernel_rfl) (by kernel_rfl) (by kernel_rfl) (fun _ _ _ h => h) (Or.inl ⟨by rfl, fun w' hw' => by go_simp⟩) hHeld ?_
  simp only [Act.put, List.setIfInBounds_toArray, List.set_cons_zero, List.set_cons_succ]
  refine wpAnyH_ready (rs := [8]) (by kernel_rfl) (by simp) ?_
  refine AllReadyH.cons rfl (fun K hK => ?_) AllReadyH.nil
  go_simp
  refine hK.out _ _ True.intro (fun _ => ?_)
  clear hK
  have HG : Hid (Gs w [(w.heap.size + 1, Z38), (w.heap.size, TT)] (w5.setCell ⟨w.heap.size, 0, none⟩ (.int .u64 (x : Nat)))) := by
    have := gs_cell (gs_perm (L' := [(w.heap.size, S), (w.heap.size + 1, Z38)]) HR5.out (by simp)) (by simp) 0 x (by unfold isU; decide)
    rw [HTT.out] at this
    exact gs_perm this (by simp)
  generalize w5.setCell ⟨w.heap.size, 0, none⟩ (.int .u64 (x : Nat)) = w6 at HG ⊢
  clear k0 z0 HR5 HTT
  refine wpAnyH_ready (rs := [9]) (by kernel_rfl) (by simp) ?_
  refine AllReadyH.cons rfl (fun K hK => ?_) AllReadyH.nil
  go_simp
  refine hK.out _ _ True.intro (fun _ => ?_)
  clear hK
  refine wpAnyH_done (by decide +kernel) ?_ _
  go_wp2_with fail
  have HP := Lib.hid HG.out.drew
  refine wp_region_held_drew (S := Gs w [(w.heap.size, TT)]) (by kernel_rfl) HG.out.tail.drew (fun hHeld => ?_)
  refine wpAnyH_take (i := 0) (v := .agg (cs TT)) rfl (by kernel_rfl) (by kernel_rfl) (by kernel_rfl) (fun _ _ _ h => h) (Or.inl ⟨by rfl, fun w' hw' => run_load_row 26 _ rfl w.heap.size rfl 26 (cs TT) (0, 0) _ (hw'.row w.heap.size TT (by simp)) Tryd.underlying26 rfl (infoS _)⟩) hHeld ?_
  simp only [Act.put, List.setIfInBounds_toArray, List.set_cons_zero, List.set_cons_succ]
  refine wpAnyH_take (i := 1) (v := .int .i64 3) rfl (by kernel_rfl) (by kernel_rfl) (by kernel_rfl) (fun _ _ _ h => h) (Or.inl ⟨by rfl, fun w' hw' => by go_simp⟩) hHeld ?_
  simp only [Act.put, List.setIfInBounds_toArray, List.set_cons_zero, List.set_cons_succ]
  refine wpAnyH_take (i := 2) (v := .pointer (some ⟨w.heap.size, 6, none⟩)) rfl (by kernel_rfl) (by kernel_rfl) (by kernel_rfl) (fun _ _ _ h => h) (Or.inl ⟨by rfl, fun w' hw' => by go_simp⟩) hHeld ?_
  simp only [Act.put, List.setIfInBounds_toArray, List.set_cons_zero, List.set_cons_succ]
  refine wpAnyH_take (i := 3) (v := .int .u64 (TT 6 : Nat)) rfl (by kernel_rfl) (by kernel_rfl) (by kernel_rfl) (fun _ _ _ h => h) (Or.inl ⟨by rfl, fun w' hw' => by have k9 := hw'.u w.heap.size TT (by simp) 6 (by unfold isU; decide); go_simp⟩) hHeld ?_
  simp only [Act.put, List.setIfInBounds_toArray, List.set_cons_zero, List.set_cons_succ]
  clear hHeld
  generalize w6.drew = wy at HP ⊢
  clear HG
  refine wpAnyH_ready (rs := [4]) (by kernel_rfl) (by simp) ?_
  refine AllReadyH.cons rfl (fun K hK => ?_) AllReadyH.nil
  rw [if_pos (by rfl)]
  refine wp_store_row 26 _ _ rfl (w.heap.size + 1) (cs TT) rfl rfl 26 (cs Z38) (HP.out.row (w.heap.size + 1) Z38 (by simp)) (infoS _) rfl (oneS _) ?_
  refine on_to hK (fun w' => Gs w [(w.heap.size + 1, TT), (w.heap.size, TT)] w') _ _ (gs_row HP.out (by simp)) (fun w' h => h.tail) ?_
  intro wz1 hp
  clear hK
  replace hp := Lib.hid hp
  refine wpAnyH_ready (rs := [5]) (by kernel_rfl) (by simp) ?_
  refine AllReadyH.cons rfl (fun K hK => ?_) AllReadyH.nil
  go_simp
  refine on_to hK (fun w' => Gs w [(w.heap.size + 1, TT), (w.heap.size, TT)] w') _ _ hp.out (fun w' h => h.tail) ?_
  intro wz2 hp
  clear hK
  replace hp := Lib.hid hp
  refine wpAnyH_ready (rs := [6]) (by kernel_rfl) (by simp) ?_
  refine AllReadyH.cons rfl (fun K hK => ?_) AllReadyH.nil
  go_simp
  refine on_to hK (fun w' => Gs w [(w.heap.size + 1, TT), (w.heap.size, TT)] w') _ _ hp.out (fun w' h => h.tail) ?_
  intro wz3 hp
  clear hK
  replace hp := Lib.hid hp
  refine wpAnyH_done (by decide +kernel) ?_ _
  go_wp2_with fail
  refine bodyPost_ret (results_row3 rfl _ _ (w.heap.size + 1) 26 (cs TT) (0, 0) _ rfl (hp.out.row (w.heap.size + 1) TT (by simp)) Tryd.underlying26 rfl (infoS _)) rfl ?_
  exact ⟨rfl, hp.out.1⟩

set_option maxRecDepth 100000 in
set_option maxHeartbeats 1000000 in
theorem retS_0 (S : Nat → Nat) (hS : Hid (OkS S)) (ht : spI (S 0) = 0) (w : World) :
    Calls Tryd.prog 11 #[.agg (cs S), .int .i64 50] w (RetE (setN S 0 (lS (S 0))) 0 (S 15) w) := by
  have PF := Lib.hid (fun u => fieldsOf_1 u)
  have PE : Hid (∀ u, Calls Tryd.prog 24 #[.agg #[.int .u64 2, .int .u64 32, .int .u64 256, .int .i64 8], .int .u64 (S 0 : Nat)] u (RetUI (lS (S 0)) 0 u)) := fun u => leftS_0 (S 0) (hS.out.u 0 (by decide)) ht u
  obtain ⟨x, hx⟩ : ∃ x, lS (S 0) = x := ⟨_, rfl⟩
  rw [hx] at PE ⊢
  obtain ⟨TT, hTT⟩ : ∃ TT, setN S 0 x = TT := ⟨_, rfl⟩
  have y1 : S 15 = TT 15 := by rw [← hTT]; rfl
  rw [hTT, y1]
  obtain ⟨W1, hW⟩ : ∃ W1, W1 = (w.alloc (Obj.cells (cs S) 26)).alloc (Obj.cells (cs Z38) 26) := ⟨_, rfl⟩
  have HR : Hid (Row W1 w.heap.size 26 (cs S) ∧ Row W1 (w.heap.size + 1) 26 (cs Z38)) := by show _ ∧ _; rw [hW]; exact two_rows w S Z38
  have HB : Hid (Below w.heap.size w W1) := by show Below _ _ _; rw [hW]; exact (by repeat (first | (with_reducible first | exact Below.refl _ _ | assumption | exact Nat.le_refl _ | refine Below.drew ?_ | refine Below.alloc ?_ ?_ _ | refine Below.setCell ?_ ?_ _ | refine le_alloc ?_ | refine le_set ?_ | refine le_drew ?_ | refine below_step (by assumption) ?_ ?_ | refine le_below (by assumption) ?_) | (dsimp only; omega)))
  have HW := Lib.hid hW
  have HTT := Lib.hid hTT
  clear hW hTT hx hS ht y1
  go_enter Tryd.func11, Tryd.ntmps11
  go_wp2_with fail
  rw [show (w.alloc (Obj.cells (cs S) 26)).alloc (Obj.cells #[.int .u64 0, .int .u64 0, .int .u64 0, .int .u64 0, .int .u64 0, .int .u64 0, .int .u64 0, .int .u64 0, .int .u64 0, .int .u64 0, .int .u64 0, .int .u64 0, .int .u64 0, .int .u64 0, .int .u64 0, .int .u64 0, .int .u64 0, .int .u64 0, .int .u64 0, .int .u64 0, .int .u64 0, .int .u64 0, .int .u8 0, .int .u8 0, .int .u8 0, .int .u8 0, .int .u8 0, .int .u8 0, .int .u8 0, .int .u8 0, .int .u64 0, .int .u64 0, .int .u64 0, .int .u64 0, .int .u64 0, .int .u64 0, .int .u64 0, .int .u64 0] 26) = W1 from HW.out.symm]
  have K0 := cell_regrown ((HR.out.1.cell 0).trans (show (cs S)[0]? = some (.int .u64 (S 0 : Nat)) from rfl))
  have q1 := fun dd os => q_V (w := W1) (dd := dd) (os := os) (PF.out _)
  have q2 := fun dd os => q_UI (w := W1) (dd := dd) (os := os) (PE.out _)
  refine wp_region_below_head 4 6 #[true, true, true, true, false, false, false, false, false, false] (by kernel_rfl) (by kernel_rfl) rfl ?_
  simp only [List.take_succ_cons, List.take_zero]
  repeat (first
    | go_big_quiet_skip
    | (go_big_quiet_want; go_big_quiet_op; first | go_big_quiet_on | go_big_quiet_call ((first | (go_at_call 17; exact q1 _ _) | (go_at_call 24; exact q2 _ _)))))
  refine wpQuiet_nil ?_
  intro _ hw'
  obtain ⟨⟨dq, osq⟩, hw''⟩ := hw'
  subst hw''
  have hb := below_regrown W1 dq osq
  have hz : w.heap.size + 1 < W1.heap.size := by rw [HW.out, sz_alloc, sz_alloc]; omega
  have HR5 : Hid (Gs w [(w.heap.size + 1, Z38), (w.heap.size, S)] (grow (redrawn W1 dq) osq)) := ⟨below_step hb HB.out HB.out.size, fun p hp => by
    have hs := hb.size
    rcases List.mem_cons.1 hp with rfl | hp
    · exact ⟨Nat.le_succ _, Nat.lt_of_lt_of_le hz hs, HR.out.2.below hb hz⟩
    · obtain rfl := List.mem_singleton.1 hp
      exact ⟨Nat.le_refl _, Nat.lt_of_lt_of_le (Nat.lt_trans (Nat.lt_succ_self _) hz) hs, HR.out.1.below hb (Nat.lt_trans (Nat.lt_succ_self _) hz)⟩⟩
  generalize grow (redrawn W1 dq) osq = w5 at HR5 ⊢
  clear hb hz q1 q2 K0 HB HR HW PE PF
  have k0 : w5.cell? ⟨w.heap.size, 0, none⟩ = some (.int .u64 (S 0 : Nat)) := (HR5.out.row w.heap.size S (by simp)).cell 0
  have z0 : w5.frozen? ⟨w.heap.size, 0, none⟩ = false := (HR5.out.row w.heap.size S (by simp)).fz 0
  refine wpAny_of_held (S := fun _ => True) _ _ _ _ ?_
  have hHeld : True := True.intro
  refine wpAnyH_take (i := 4) (v := .tuple #[.int .u64 x, .int .i64 0]) rfl (by kernel_rfl) (by kernel_rfl) (by kernel_rfl) (fun _ _ _ h => h) (Or.inl ⟨by rfl, fun w' hw' => by go_simp⟩) hHeld ?_
  simp only [Act.put, List.setIfInBounds_toArray, List.set_cons_zero, List.set_cons_succ]
  refine wpAnyH_take (i := 5) (v := .int .u64 x) rfl (by kernel_rfl) (by kernel_rfl) (by kernel_rfl) (fun _ _ _ h => h) (Or.inl ⟨by rfl, fun w' hw' => by go_simp⟩) hHeld ?_
  simp only [Act.put, List.setIfInBounds_toArray, List.set_cons_zero, List.set_cons_succ]
  refine wpAnyH_take (i := 6) (v := .int .i64 0) rfl (by kernel_rfl) (by kernel_rfl) (by kernel_rfl) (fun _ _ _ h => h) (Or.inl ⟨by rfl, fun w' hw' => by go_simp⟩) hHeld ?_
  simp only [Act.put, List.setIfInBounds_toArray, List.set_cons_zero, List.set_cons_succ]
  refine wpAnyH_take (i := 7) (v := .pointer (some ⟨w.heap.size, 0, none⟩)) rfl (by kernel_rfl) (by kernel_rfl) (by kernel_rfl) (fun _ _ _ h => h) (Or.inl ⟨by rfl, fun w' hw' => by go_simp⟩) hHeld ?_
  simp only [Act.put, List.setIfInBounds_toArray, List.set_cons_zero, List.set_cons_succ]
  refine wpAnyH_ready (rs := [8]) (by kernel_rfl) (by simp) ?_
  refine AllReadyH.cons rfl (fun K hK => ?_) AllReadyH.nil
  go_simp
  refine hK.out _ _ True.intro (fun _ => ?_)
  clear hK
  have HG : Hid (Gs w [(w.heap.size + 1, Z38), (w.heap.size, TT)] (w5.setCell ⟨w.heap.size, 0, none⟩ (.int .u64 (x : Nat)))) := by
    have := gs_cell (gs_perm (L' := [(w.heap.size, S), (w.heap.size + 1, Z38)]) HR5.out (by simp)) (by simp) 0 x (by unfold isU; decide)
    rw [HTT.out] at this
    exact gs_perm this (by simp)
  generalize w5.setCell ⟨w.heap.size, 0, none⟩ (.int .u64 (x : Nat)) = w6 at HG ⊢
  clear k0 z0 HR5 HTT
  refine wpAnyH_ready (rs := [9]) (by kernel_rfl) (by simp) ?_
  refine AllReadyH.cons rfl (fun K hK => ?_) AllReadyH.nil
  go_simp
  refine hK.out _ _ True.intro (fun _ => ?_)
  clear hK
  refine wpAnyH_done (by decide +kernel) ?_ _
  go_wp2_with fail
  have HP := Lib.hid HG.out.drew
  refine wp_region_held_drew (S := Gs w [(w.heap.size, TT)]) (by kernel_rfl) HG.out.tail.drew (fun hHeld => ?_)
  refine wpAnyH_take (i := 0) (v := .agg (cs TT)) rfl (by kernel_rfl) (by kernel_rfl) (by kernel_rfl) (fun _ _ _ h => h) (Or.inl ⟨by rfl, fun w' hw' => run_load_row 26 _ rfl w.heap.size rfl 26 (cs TT) (0, 0) _ (hw'.row w.heap.size TT (by simp)) Tryd.underlying26 rfl (infoS _)⟩) hHeld ?_
  simp only [Act.put, List.setIfInBounds_toArray, List.set_cons_zero, List.set_cons_succ]
  refine wpAnyH_take (i := 1) (v := .int .i64 0) rfl (by kernel_rfl) (by kernel_rfl) (by kernel_rfl) (fun _ _ _ h => h) (Or.inl ⟨by rfl, fun w' hw' => by go_simp⟩) hHeld ?_
  simp only [Act.put, List.setIfInBounds_toArray, List.set_cons_zero, List.set_cons_succ]
  refine wpAnyH_take (i := 2) (v := .pointer (some ⟨w.heap.size, 15, none⟩)) rfl (by kernel_rfl) (by kernel_rfl) (by kernel_rfl) (fun _ _ _ h => h) (Or.inl ⟨by rfl, fun w' hw' => by go_simp⟩) hHeld ?_
  simp only [Act.put, List.setIfInBounds_toArray, List.set_cons_zero, List.set_cons_succ]
  refine wpAnyH_take (i := 3) (v := .int .u64 (TT 15 : Nat)) rfl (by kernel_rfl) (by kernel_rfl) (by kernel_rfl) (fun _ _ _ h => h) (Or.inl ⟨by rfl, fun w' hw' => by have k9 := hw'.u w.heap.size TT (by simp) 15 (by unfold isU; decide); go_simp⟩) hHeld ?_
  simp only [Act.put, List.setIfInBounds_toArray, List.set_cons_zero, List.set_cons_succ]
  clear hHeld
  generalize w6.drew = wy at HP ⊢
  clear HG
  refine wpAnyH_ready (rs := [4]) (by kernel_rfl) (by simp) ?_
  refine AllReadyH.cons rfl (fun K hK => ?_) AllReadyH.nil
  rw [if_pos (by rfl)]
  refine wp_store_row 26 _ _ rfl (w.heap.size + 1) (cs TT) rfl rfl 26 (cs Z38) (HP.out.row (w.heap.size + 1) Z38 (by simp)) (infoS _) rfl (oneS _) ?_
  refine on_to hK (fun w' => Gs w [(w.heap.size + 1, TT), (w.heap.size, TT)] w') _ _ (gs_row HP.out (by simp)) (fun w' h => h.tail) ?_
  intro wz1 hp
  clear hK
  replace hp := Lib.hid hp
  refine wpAnyH_ready (rs := [5]) (by kernel_rfl) (by simp) ?_
  refine AllReadyH.cons rfl (fun K hK => ?_) AllReadyH.nil
  go_simp
  refine on_to hK (fun w' => Gs w [(w.heap.size + 1, TT), (w.heap.size, TT)] w') _ _ hp.out (fun w' h => h.tail) ?_
  intro wz2 hp
  clear hK
  replace hp := Lib.hid hp
  refine wpAnyH_ready (rs := [6]) (by kernel_rfl) (by simp) ?_
  refine AllReadyH.cons rfl (fun K hK => ?_) AllReadyH.nil
  go_simp
  refine on_to hK (fun w' => Gs w [(w.heap.size + 1, TT), (w.heap.size, TT)] w') _ _ hp.out (fun w' h => h.tail) ?_
  intro wz3 hp
  clear hK
  replace hp := Lib.hid hp
  refine wpAnyH_done (by decide +kernel) ?_ _
  go_wp2_with fail
  refine bodyPost_ret (results_row3 rfl _ _ (w.heap.size + 1) 26 (cs TT) (0, 0) _ rfl (hp.out.row (w.heap.size + 1) TT (by simp)) Tryd.underlying26 rfl (infoS _)) rfl ?_
  exact ⟨rfl, hp.out.1⟩

set_option maxRecDepth 100000 in
set_option maxHeartbeats 1000000 in
theorem retS_1 (S : Nat → Nat) (hS : Hid (OkS S)) (ht : spI (S 0) = 1) (w : World) :
    Calls Tryd.prog 11 #[.agg (cs S), .int .i64 50] w (RetE (setN S 0 (lS (S 0))) 1 (S 15) w) := by
  have PF := Lib.hid (fun u => fieldsOf_1 u)
  have PE : Hid (∀ u, Calls Tryd.prog 24 #[.agg #[.int .u64 2, .int .u64 32, .int .u64 256, .int .i64 8], .int .u64 (S 0 : Nat)] u (RetUI (lS (S 0)) 1 u)) := fun u => leftS_1 (S 0) (hS.out.u 0 (by decide)) ht u
  obtain ⟨x, hx⟩ : ∃ x, lS (S 0) = x := ⟨_, rfl⟩
  rw [hx] at PE ⊢
  obtain ⟨TT, hTT⟩ : ∃ TT, setN S 0 x = TT := ⟨_, rfl⟩
  have y1 : S 15 = TT 15 := by rw [← hTT]; rfl
  rw [hTT, y1]
  obtain ⟨W1, hW⟩ : ∃ W1, W1 = (w.alloc (Obj.cells (cs S) 26)).alloc (Obj.cells (cs Z38) 26) := ⟨_, rfl⟩
  have HR : Hid (Row W1 w.heap.size 26 (cs S) ∧ Row W1 (w.heap.size + 1) 26 (cs Z38)) := by show _ ∧ _; rw [hW]; exact two_rows w S Z38
  have HB : Hid (Below w.heap.size w W1) := by show Below _ _ _; rw [hW]; exact (by repeat (first | (with_reducible first | exact Below.refl _ _ | assumption | exact Nat.le_refl _ | refine Below.drew ?_ | refine Below.alloc ?_ ?_ _ | refine Below.setCell ?_ ?_ _ | refine le_alloc ?_ | refine le_set ?_ | refine le_drew ?_ | refine below_step (by assumption) ?_ ?_ | refine le_below (by assumption) ?_) | (dsimp only; omega)))
  have HW := Lib.hid hW
  have HTT := Lib.hid hTT
  clear hW hTT hx hS ht y1
  go_enter Tryd.func11, Tryd.ntmps11
  go_wp2_with fail
  rw [show (w.alloc (Obj.cells (cs S) 26)).alloc (Obj.cells #[.int .u64 0, .int .u64 0, .int .u64 0, .int .u64 0, .int .u64 0, .int .u64 0, .int .u64 0, .int .u64 0, .int .u64 0, .int .u64 0, .int .u64 0, .int .u64 0, .int .u64 0, .int .u64 0, .int .u64 0, .int .u64 0, .int .u64 0, .int .u64 0, .int .u64 0, .int .u64 0, .int .u64 0, .int .u64 0, .int .u8 0, .int .u8 0, .int .u8 0, .int .u8 0, .int .u8 0, .int .u8 0, .int .u8 0, .int .u8 0, .int .u64 0, .int .u64 0, .int .u64 0, .int .u64 0, .int .u64 0, .int .u64 0, .int .u64 0, .int .u64 0] 26) = W1 from HW.out.symm]
  have K0 := cell_regrown ((HR.out.1.cell 0).trans (show (cs S)[0]? = some (.int .u64 (S 0 : Nat)) from rfl))
  have q1 := fun dd os => q_V (w := W1) (dd := dd) (os := os) (PF.out _)
  have q2 := fun dd os => q_UI (w := W1) (dd := dd) (os := os) (PE.out _)
  refine wp_region_below_head 4 6 #[true, true, true, true, false, false, false, false, false, false] (by kernel_rfl) (by kernel_rfl) rfl ?_
  simp only [List.take_succ_cons, List.take_zero]
  repeat (first
    | go_big_quiet_skip
    | (go_big_quiet_want; go_big_quiet_op; first | go_big_quiet_on | go_big_quiet_call ((first | (go_at_call 17; exact q1 _ _) | (go_at_call 24; exact q2 _ _)))))
  refine wpQuiet_nil ?_
  intro _ hw'
  obtain ⟨⟨dq, osq⟩, hw''⟩ := hw'
  subst hw''
  have hb := below_regrown W1 dq osq
  have hz : w.heap.size + 1 < W1.heap.size := by rw [HW.out, sz_alloc, sz_alloc]; omega
  have HR5 : Hid (Gs w [(w.heap.size + 1, Z38), (w.heap.size, S)] (grow (redrawn W1 dq) osq)) := ⟨below_step hb HB.out HB.out.size, fun p hp => by
    have hs := hb.size
    rcases List.mem_cons.1 hp with rfl | hp
    · exact ⟨Nat.le_succ _, Nat.lt_of_lt_of_le hz hs, HR.out.2.below hb hz⟩
    · obtain rfl := List.mem_singleton.1 hp
      exact ⟨Nat.le_refl _, Nat.lt_of_lt_of_le (Nat.lt_trans (Nat.lt_succ_self _) hz) hs, HR.out.1.below hb (Nat.lt_trans (Nat.lt_succ_self _) hz)⟩⟩
  generalize grow (redrawn W1 dq) osq = w5 at HR5 ⊢
  clear hb hz q1 q2 K0 HB HR HW PE PF
  have k0 : w5.cell? ⟨w.heap.size, 0, none⟩ = some (.int .u64 (S 0 : Nat)) := (HR5.out.row w.heap.size S (by simp)).cell 0
  have z0 : w5.frozen? ⟨w.heap.size, 0, none⟩ = false := (HR5.out.row w.heap.size S (by simp)).fz 0
  refine wpAny_of_held (S := fun _ => True) _ _ _ _ ?_
  have hHeld : True := True.intro
  refine wpAnyH_take (i := 4) (v := .tuple #[.int .u64 x, .int .i64 1]) rfl (by kernel_rfl) (by kernel_rfl) (by kernel_rfl) (fun _ _ _ h => h) (Or.inl ⟨by rfl, fun w' hw' => by go_simp⟩) hHeld ?_
  simp only [Act.put, List.setIfInBounds_toArray, List.set_cons_zero, List.set_cons_succ]
  refine wpAnyH_take (i := 5) (v := .int .u64 x) rfl (by kernel_rfl) (by kernel_rfl) (by kernel_rfl) (fun _ _ _ h => h) (Or.inl ⟨by rfl, fun w' hw' => by go_simp⟩) hHeld ?_
  simp only [Act.put, List.setIfInBounds_toArray, List.set_cons_zero, List.set_cons_succ]
  refine wpAnyH_take (i := 6) (v := .int .i64 1) rfl (by kernel_rfl) (by kernel_rfl) (by kernel_rfl) (fun _ _ _ h => h) (Or.inl ⟨by rfl, fun w' hw' => by go_simp⟩) hHeld ?_
  simp only [Act.put, List.setIfInBounds_toArray, List.set_cons_zero, List.set_cons_succ]
  refine wpAnyH_take (i := 7) (v := .pointer (some ⟨w.heap.size, 0, none⟩)) rfl (by kernel_rfl) (by kernel_rfl) (by kernel_rfl) (fun _ _ _ h => h) (Or.inl ⟨by rfl, fun w' hw' => by go_simp⟩) hHeld ?_
  simp only [Act.put, List.setIfInBounds_toArray, List.set_cons_zero, List.set_cons_succ]
  refine wpAnyH_ready (rs := [8]) (by kernel_rfl) (by simp) ?_
  refine AllReadyH.cons rfl (fun K hK => ?_) AllReadyH.nil
  go_simp
  refine hK.out _ _ True.intro (fun _ => ?_)
  clear hK
  have HG : Hid (Gs w [(w.heap.size + 1, Z38), (w.heap.size, TT)] (w5.setCell ⟨w.heap.size, 0, none⟩ (.int .u64 (x : Nat)))) := by
    have := gs_cell (gs_perm (L' := [(w.heap.size, S), (w.heap.size + 1, Z38)]) HR5.out (by simp)) (by simp) 0 x (by unfold isU; decide)
    rw [HTT.out] at this
    exact gs_perm this (by simp)
  generalize w5.setCell ⟨w.heap.size, 0, none⟩ (.int .u64 (x : Nat)) = w6 at HG ⊢
  clear k0 z0 HR5 HTT
  refine wpAnyH_ready (rs := [9]) (by kernel_rfl) (by simp) ?_
  refine AllReadyH.cons rfl (fun K hK => ?_) AllReadyH.nil
  go_simp
  refine hK.out _ _ True.intro (fun _ => ?_)
  clear hK
  refine wpAnyH_done (by decide +kernel) ?_ _
  go_wp2_with fail
  have HP := Lib.hid HG.out.drew
  refine wp_region_held_drew (S := Gs w [(w.heap.size, TT)]) (by kernel_rfl) HG.out.tail.drew (fun hHeld => ?_)
  refine wpAnyH_take (i := 0) (v := .agg (cs TT)) rfl (by kernel_rfl) (by kernel_rfl) (by kernel_rfl) (fun _ _ _ h => h) (Or.inl ⟨by rfl, fun w' hw' => run_load_row 26 _ rfl w.heap.size rfl 26 (cs TT) (0, 0) _ (hw'.row w.heap.size TT (by simp)) Tryd.underlying26 rfl (infoS _)⟩) hHeld ?_
  simp only [Act.put, List.setIfInBounds_toArray, List.set_cons_zero, List.set_cons_succ]
  refine wpAnyH_take (i := 1) (v := .int .i64 1) rfl (by kernel_rfl) (by kernel_rfl) (by kernel_rfl) (fun _ _ _ h => h) (Or.inl ⟨by rfl, fun w' hw' => by go_simp⟩) hHeld ?_
  simp only [Act.put, List.setIfInBounds_toArray, List.set_cons_zero, List.set_cons_succ]
  refine wpAnyH_take (i := 2) (v := .pointer (some ⟨w.heap.size, 15, none⟩)) rfl (by kernel_rfl) (by kernel_rfl) (by kernel_rfl) (fun _ _ _ h => h) (Or.inl ⟨by rfl, fun w' hw' => by go_simp⟩) hHeld ?_
  simp only [Act.put, List.setIfInBounds_toArray, List.set_cons_zero, List.set_cons_succ]
  refine wpAnyH_take (i := 3) (v := .int .u64 (TT 15 : Nat)) rfl (by kernel_rfl) (by kernel_rfl) (by kernel_rfl) (fun _ _ _ h => h) (Or.inl ⟨by rfl, fun w' hw' => by have k9 := hw'.u w.heap.size TT (by simp) 15 (by unfold isU; decide); go_simp⟩) hHeld ?_
  simp only [Act.put, List.setIfInBounds_toArray, List.set_cons_zero, List.set_cons_succ]
  clear hHeld
  generalize w6.drew = wy at HP ⊢
  clear HG
  refine wpAnyH_ready (rs := [4]) (by kernel_rfl) (by simp) ?_
  refine AllReadyH.cons rfl (fun K hK => ?_) AllReadyH.nil
  rw [if_pos (by rfl)]
  refine wp_store_row 26 _ _ rfl (w.heap.size + 1) (cs TT) rfl rfl 26 (cs Z38) (HP.out.row (w.heap.size + 1) Z38 (by simp)) (infoS _) rfl (oneS _) ?_
  refine on_to hK (fun w' => Gs w [(w.heap.size + 1, TT), (w.heap.size, TT)] w') _ _ (gs_row HP.out (by simp)) (fun w' h => h.tail) ?_
  intro wz1 hp
  clear hK
  replace hp := Lib.hid hp
  refine wpAnyH_ready (rs := [5]) (by kernel_rfl) (by simp) ?_
  refine AllReadyH.cons rfl (fun K hK => ?_) AllReadyH.nil
  go_simp
  refine on_to hK (fun w' => Gs w [(w.heap.size + 1, TT), (w.heap.size, TT)] w') _ _ hp.out (fun w' h => h.tail) ?_
  intro wz2 hp
  clear hK
  replace hp := Lib.hid hp
  refine wpAnyH_ready (rs := [6]) (by kernel_rfl) (by simp) ?_
  refine AllReadyH.cons rfl (fun K hK => ?_) AllReadyH.nil
  go_simp
  refine on_to hK (fun w' => Gs w [(w.heap.size + 1, TT), (w.heap.size, TT)] w') _ _ hp.out (fun w' h => h.tail) ?_
  intro wz3 hp
  clear hK
  replace hp := Lib.hid hp
  refine wpAnyH_done (by decide +kernel) ?_ _
  go_wp2_with fail
  refine bodyPost_ret (results_row3 rfl _ _ (w.heap.size + 1) 26 (cs TT) (0, 0) _ rfl (hp.out.row (w.heap.size + 1) TT (by simp)) Tryd.underlying26 rfl (infoS _)) rfl ?_
  exact ⟨rfl, hp.out.1⟩

set_option maxRecDepth 100000 in
theorem retN (S : Nat → Nat) (k : Int) (h1 : ¬ k = 49) (h2 : ¬ k = 50) (w : World) : Calls Tryd.prog 11 #[.agg (cs S), .int .i64 k] w (RetE S 3 0 w) := by
  have e1 : (k == 49) = false := by simpa using h1
  have e2 : (k == 50) = false := by simpa using h2
  obtain ⟨R1, R2⟩ := two_rows w S Z38
  replace R1 := Lib.hid R1; replace R2 := Lib.hid R2
  have hB : Hid (Below w.heap.size w ((w.alloc (Obj.cells (cs S) 26)).alloc (Obj.cells (cs Z38) 26))) := by show Below _ _ _; exact (by repeat (first | (with_reducible first | exact Below.refl _ _ | assumption | exact Nat.le_refl _ | refine Below.drew ?_ | refine Below.alloc ?_ ?_ _ | refine Below.setCell ?_ ?_ _ | refine le_alloc ?_ | refine le_set ?_ | refine le_drew ?_ | refine below_step (by assumption) ?_ ?_ | refine le_below (by assumption) ?_) | (dsimp only; omega)))
  clear h1 h2
  go_enter Tryd.func11, Tryd.ntmps11
  go_wp2_with (first
    | (refine wpList_load_row rfl 26 _ rfl w.heap.size rfl 26 (cs S) (0, 0) _ R1.out Tryd.underlying26 rfl (infoS _) ?_)
    | (refine wpList_store_row rfl 26 _ _ rfl (w.heap.size + 1) (cs S) rfl rfl 26 (cs Z38) R2.out (infoS _) rfl (oneS _) ?_))
  refine bodyPost_ret (results_row3 rfl _ _ (w.heap.size + 1) 26 (cs S) (0, 0) _ rfl (R2.out.setRow _) Tryd.underlying26 rfl (infoS _)) rfl ?_
  exact ⟨rfl, below_setRow hB.out (by omega) _⟩
end Go.Proofs.YteeifdmnagbjeaaDoor
