/- The walks of WalkModes, WalkAllows. -/
import Derived.Test.YthhlcchofilimaaDoorF2
namespace Go.Proofs.YthhlcchofilimaaDoor
open Go.ChangeShapes Go.WideShapes Go.ChangeAt Go.RowKit Go.Sort Y
set_option linter.unusedVariables false
set_option linter.unusedSimpArgs false

theorem gs_lt {w : World} {L : List (Nat × (Nat → Nat))} {w1 : World} (h : Gs w L w1) : ∀ p ∈ L, p.1 < w1.heap.size := fun p hp => (h.2 p hp).2.1
theorem gs_row {w : World} {L : List (Nat × (Nat → Nat))} {db : Nat} {S0 T : Nat → Nat} {w1 : World} (h : Gs w ((db, S0) :: L) w1) (hl : ∀ p ∈ L, p.1 ≠ db) : Gs w ((db, T) :: L) (w1.setRow db (cs T)) := by
  have h0 := h.2 (db, S0) (List.mem_cons_self ..)
  refine ⟨below_setRow h.1 h0.1 _, fun p hp => ?_⟩
  rcases List.mem_cons.1 hp with rfl | hp
  · exact ⟨h0.1, by rw [sz_setRow]; exact h0.2.1, h0.2.2.setRow _⟩
  · have hq := h.2 p (List.mem_cons_of_mem _ hp)
    exact ⟨hq.1, by rw [sz_setRow]; exact hq.2.1, hq.2.2.setRow_ne (hl p hp).symm _⟩
theorem gs_new {w : World} {L : List (Nat × (Nat → Nat))} {w1 : World} (h : Gs w L w1) (T : Nat → Nat) : Gs w ((w1.heap.size, T) :: L) ((w1.alloc (Obj.cells (cs Z38) 26)).setRow w1.heap.size (cs T)) :=
  gs_row h.alloc (fun p hp => Nat.ne_of_lt (gs_lt h p hp))
theorem eq_csG {ops : Array Oper} {rest : List Oper} {o : Oper} {a : Act} {w : World} {Q : Exit → Act → World → Prop} (hw : Region.wanted o (yielded ops a.tmps) = true) (x y : Operand) (t : TypeId) (ho : o.op = .binOp .eql 26 x y t) (S : Nat → Nat)
    (hx : a.eval x = .agg (cs S)) (hy : a.eval y = .agg (cs S)) (h : wpList Tryd.prog ops Q rest (a.put o.dst (.bool true)) w) : wpList Tryd.prog ops Q (o :: rest) a w :=
  wpList_step fun K hK => by
    rw [if_pos hw]
    have h2 : (execOp a.eval o).run Tryd.prog w = .ok (.value (.bool true)) w := by
      unfold execOp
      simp only [ho, hx, hy]
      rw [Sem.run_bind, binOp_eq_cs w x y S]; rfl
    unfold Oper.wp
    rw [h2]
    exact hK _ _ h
set_option maxRecDepth 100000 in
set_option maxHeartbeats 1000000 in
theorem modes_core (hW : WalkOk) (hR : ReachOk) (hM : ModeOk) (hA : AllowsOk) (S : Nat → Nat) (m k : Int) (hS : Hid (OkS S)) (w : World) (hG : Hid (G w)) : Calls Tryd.prog 3 #[.agg (cs S), .int .i64 m, .int .i64 k] w (RetB true w) := by
  have HF := Lib.hid (fun u hu => fixed_w hW hR hM hA u hu)
  have R0 := Lib.hid (row_new w (cs S) 26)
  have HG0 : Hid (Gs w [(w.heap.size, S)] (w.alloc (Obj.cells (cs S) 26))) := ⟨(Below.refl w.heap.size w).alloc (Nat.le_refl _) _, fun p hp => by
    obtain rfl := List.mem_singleton.1 hp
    exact ⟨Nat.le_refl _, by rw [sz_alloc]; exact Nat.lt_succ_self _, row_new _ _ _⟩⟩
  obtain ⟨W0, hW0⟩ : ∃ W0, W0 = w.alloc (Obj.cells (cs S) 26) := ⟨_, rfl⟩
  have h0 : Hid (G W0) := by show G _; rw [hW0]; exact g_alloc hG.out _
  rw [← hW0] at R0 HG0
  have HW := Lib.hid hW0
  have hz : Hid (w.heap.size < W0.heap.size) := by show _ < _; rw [hW0, sz_alloc]; exact Nat.lt_succ_self _
  clear hW0
  go_enter Tryd.func3, Tryd.ntmps3
  go_upto_region 1 with fail
  rw [show w.alloc (Obj.cells (cs S) 26) = W0 from HW.out.symm]
  clear HW
  go_upto_region 2 with (first | (refine wpList_load_row rfl 26 _ rfl w.heap.size rfl 26 (cs S) (0, 0) _ R0.out Tryd.underlying26 rfl (infoS _) ?_) | (refine store_rowP (Gs w [(W0.heap.size, S), (w.heap.size, S)]) rfl 26 _ _ rfl W0.heap.size (cs S) rfl rfl 26 (cs Z38) (row_new _ _ _) (infoS _) rfl (oneS _) (gs_new HG0.out S) ?_; rintro wd HD; replace HD := Lib.hid HD))
  have hGd : Hid (G wd) := g_below hG.out HD.out.1 hG.out.1
  generalize W0.heap.size = db at HD hz ⊢
  clear HG0 R0 h0 W0
  go_wp2_with fail
  refine (HF.out _ hGd).mono ?_; rintro e w2 ⟨rfl, hb⟩
  replace HD := Lib.hid (HD.out.below hb)
  clear hb hGd HF hG
  go_wp2_with fail
  refine (hM _ _ m k _ hS (gs_lt HD.out (db, S) (by simp)) (HD.out.row db S (by simp))).mono ?_; rintro e w3 ⟨rfl, hb⟩
  replace HD := Lib.hid (HD.out.below hb)
  clear hb
  go_wp2_with fail
  refine (moder_c S w.heap.size m k hS _ ((HD.out.row w.heap.size S (by simp)).cell 0)).mono ?_; rintro e w4 ⟨rfl, h⟩; replace h := h.symm; subst h
  go_wp2_with (first | (refine wpList_load_rowG (by kernel_rfl) 26 _ rfl db rfl 26 (cs S) (0, 0) _ (HD.out.row db S (by simp)) Tryd.underlying26 rfl (infoS _) ?_) | (refine wpList_load_rowG (by kernel_rfl) 26 _ rfl w.heap.size rfl 26 (cs S) (0, 0) _ (HD.out.row w.heap.size S (by simp)) Tryd.underlying26 rfl (infoS _) ?_) | (refine eq_csG (by kernel_rfl) _ _ _ rfl S rfl rfl ?_))
  go_ret
  exact retB_mk (by simp) HD.out.1
set_option maxRecDepth 100000 in
set_option maxHeartbeats 1000000 in
theorem allows_core (hW : WalkOk) (hR : ReachOk) (hM : ModeOk) (hA : AllowsOk) (S : Nat → Nat) (m k : Int) (x : Nat) (hx : Hid (x < 18446744073709551616)) (hS : Hid (OkS S)) (w : World) (hG : Hid (G w)) : Calls Tryd.prog 4 #[.agg (cs S), .int .i64 m, .int .i64 k, .int .u64 x] w (RetB true w) := by
  have HF := Lib.hid (fun u hu => fixed_w hW hR hM hA u hu)
  have R0 := Lib.hid (row_new w (cs S) 26)
  have HG0 : Hid (Gs w [(w.heap.size, S)] (w.alloc (Obj.cells (cs S) 26))) := ⟨(Below.refl w.heap.size w).alloc (Nat.le_refl _) _, fun p hp => by
    obtain rfl := List.mem_singleton.1 hp
    exact ⟨Nat.le_refl _, by rw [sz_alloc]; exact Nat.lt_succ_self _, row_new _ _ _⟩⟩
  obtain ⟨W0, hW0⟩ : ∃ W0, W0 = w.alloc (Obj.cells (cs S) 26) := ⟨_, rfl⟩
  have h0 : Hid (G W0) := by show G _; rw [hW0]; exact g_alloc hG.out _
  rw [← hW0] at R0 HG0
  have HW := Lib.hid hW0
  have hz : Hid (w.heap.size < W0.heap.size) := by show _ < _; rw [hW0, sz_alloc]; exact Nat.lt_succ_self _
  clear hW0
  go_enter Tryd.func4, Tryd.ntmps4
  go_upto_region 1 with fail
  rw [show w.alloc (Obj.cells (cs S) 26) = W0 from HW.out.symm]
  clear HW
  go_upto_region 2 with (first | (refine wpList_load_row rfl 26 _ rfl w.heap.size rfl 26 (cs S) (0, 0) _ R0.out Tryd.underlying26 rfl (infoS _) ?_) | (refine store_rowP (Gs w [(W0.heap.size, S), (w.heap.size, S)]) rfl 26 _ _ rfl W0.heap.size (cs S) rfl rfl 26 (cs Z38) (row_new _ _ _) (infoS _) rfl (oneS _) (gs_new HG0.out S) ?_; rintro wd HD; replace HD := Lib.hid HD))
  have hGd : Hid (G wd) := g_below hG.out HD.out.1 hG.out.1
  generalize W0.heap.size = db at HD hz ⊢
  clear HG0 R0 h0 W0
  go_wp2_with fail
  refine (HF.out _ hGd).mono ?_; rintro e w2 ⟨rfl, hb⟩
  replace HD := Lib.hid (HD.out.below hb)
  clear hb hGd HF hG
  go_wp2_with fail
  refine (hA _ _ m k x _ hS hx (gs_lt HD.out (db, S) (by simp)) (HD.out.row db S (by simp))).mono ?_; rintro e w3 ⟨rfl, hb⟩
  replace HD := Lib.hid (HD.out.below hb)
  clear hb
  go_wp2_with fail
  refine (allowr_c S w.heap.size m k x hS hx _ ((HD.out.row w.heap.size S (by simp)).cell 0)).mono ?_; rintro e w4 ⟨rfl, h⟩; replace h := h.symm; subst h
  go_wp2_with (first | (refine wpList_load_rowG (by kernel_rfl) 26 _ rfl db rfl 26 (cs S) (0, 0) _ (HD.out.row db S (by simp)) Tryd.underlying26 rfl (infoS _) ?_) | (refine wpList_load_rowG (by kernel_rfl) 26 _ rfl w.heap.size rfl 26 (cs S) (0, 0) _ (HD.out.row w.heap.size S (by simp)) Tryd.underlying26 rfl (infoS _) ?_) | (refine eq_csG (by kernel_rfl) _ _ _ rfl S rfl rfl ?_))
  go_ret
  exact retB_mk (by simp) HD.out.1
end Go.Proofs.YthhlcchofilimaaDoor
