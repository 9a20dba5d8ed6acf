/- The reference's Write: all settings, all addresses. -/
import Derived.Test.YtmlbobjbkbcabaaB10
import Derived.Laws.CopyRow
namespace Go.Proofs.Ytmlbobjbkbcabaa
open Go.ChangeShapes Go.WideShapes Go.ChangeAt Go.RowKit P
set_option linter.unusedVariables false
set_option linter.unusedSimpArgs false
theorem wpList_store_at {P : Program} {ops : Array Oper} {rest : List Oper} {o : Oper} {a : Act} {w : World} {Q : Exit → Act → World → Prop} (hgd : o.guard = none) (ty : TypeId) (x y : Operand) (ho : o.op = .store ty x y)
    (g off : Nat) (cells : Array Value) (hx : a.eval x = .pointer (some ⟨g, off, none⟩)) (hy : a.eval y = .agg cells)
    (t : TypeId) (old new : Array Value) (hg : w.heap[g]? = some (.cells old t (0, 0))) (hi : (P.info? ty).map (·.size) = some cells.size) (hfit : off + cells.size ≤ old.size)
    (hnew : (old.toList.take off ++ cells.toList ++ old.toList.drop (off + cells.size)).toArray = new) (h1 : cells.all (·.oneCell') = true)
    (h : wpList P ops Q rest (a.put o.dst undef) (w.setRow g new)) : wpList P ops Q (o :: rest) a w := by
  refine wpList_plain hgd fun K hK => ?_
  have hr := run_storeCells_at P g off t cells.toList 0 old w hg (by simpa using hfit) (fun v hv => (Array.all_eq_true_iff_forall_mem.1 h1) v (by simpa using hv))
  simp only [Nat.add_zero, Array.length_toList] at hr
  rw [hnew] at hr
  have hv : (storeVar ty ⟨g, off, none⟩ (.agg cells)).run P w = .ok () (w.setRow g new) := by
    cases hq : P.info? ty with
    | none => simp [hq] at hi
    | some i =>
      have hs : cells.size = i.size := by simp [hq] at hi; omega
      simp [storeVar, sizeOf, typeInfo, hq, Value.cells, hs, hr]
  unfold Oper.wp execOp
  simp only [ho, hx, hy, Instr.storeAt, Instr.sureAddr, Sem.run_bind, Sem.run_pure, Result.andThen_ok, hv]
  exact hK _ _ h
theorem new_c (S F : Nat → Nat) : ((cs S).toList.take 22 ++ (u8s F).toList ++ (cs S).toList.drop (22 + (u8s F).size)).toArray = cs (setC S F) := rfl
theorem new_a (S F : Nat → Nat) : ((cs S).toList.take 30 ++ (u64s F).toList ++ (cs S).toList.drop (30 + (u64s F).size)).toArray = cs (setA S F) := rfl
set_option maxRecDepth 100000 in
theorem above_928 (S : Nat → Nat) (v : Nat) (hS : Hid (OkS S)) (hv : Hid (v < 18446744073709551616)) (w : World) : Calls Try.prog 43 #[.agg (cs S), .int .i64 928, .int .u64 v] w (RetS (wrF S 928 v) w) := by
  have HC := Lib.hid (fun u => ConfigR_c (cfO S) v hS.out.c hv u)
  have HW : Hid (wrF S 928 v = setC S (cfgF (cfO S) v)) := rfl
  obtain ⟨F, hF⟩ : ∃ F, cfgF (cfO S) v = F := ⟨_, rfl⟩
  rw [hF] at HC HW
  clear hF hS
  obtain ⟨R1, R2⟩ := two_rows w S Z38
  replace R1 := Lib.hid R1; replace R2 := Lib.hid R2
  have hB : Hid (Below w.heap.size w ((w.alloc (Obj.cells (cs S) 26)).alloc (Obj.cells (cs Z38) 26))) := by show Below _ _ _; exact (by repeat (first | (with_reducible first | exact Below.refl _ _ | assumption | exact Nat.le_refl _ | refine Below.drew ?_ | refine Below.alloc ?_ ?_ _ | refine Below.setCell ?_ ?_ _ | refine le_alloc ?_ | refine le_set ?_ | refine le_drew ?_ | refine below_step (by assumption) ?_ ?_ | refine le_below (by assumption) ?_) | (dsimp only; omega)))
  have hz : Hid (((w.alloc (Obj.cells (cs S) 26)).alloc (Obj.cells (cs Z38) 26)).heap.size = w.heap.size + 2) := by show _ = _; simp only [sz_alloc]
  have i0 : w.heap.size ≠ w.heap.size + 1 := by omega
  go_enter Try.func43, Try.ntmps43
  go_wp2_with (first | (refine wpList_load_at rfl 23 _ rfl w.heap.size 22 rfl (u8s (cfO S)) _ (cfg_cells R1.out) Try.underlying23 rfl (info8c _) ?_) | (refine wpList_load_at rfl 24 _ rfl w.heap.size 30 rfl (u64s (adO S)) _ (adr_cells R1.out) Try.underlying24 rfl (info8a _) ?_))
  refine (HC.out ((w.alloc (Obj.cells (cs S) 26)).alloc (Obj.cells (cs Z38) 26))).mono ?_; rintro e w1 ⟨rfl, hb⟩
  replace R1 := Lib.hid (R1.out.below hb (by rw [hz.out]; omega))
  replace R2 := Lib.hid (R2.out.below hb (by rw [hz.out]; omega))
  replace hB := Lib.hid (below_step hb hB.out hB.out.size)
  clear hb hz
  have RN := Lib.hid (R1.out.setRow (cs (setC S F)))
  have R2N := Lib.hid (R2.out.setRow_ne (b' := w.heap.size) i0 (cs (setC S F)))
  have HBN := Lib.hid (below_setRow hB.out (Nat.le_refl _) (cs (setC S F)))
  clear R2 hB
  go_wp2_with (first
    | (refine wpList_store_at rfl 23 _ _ rfl w.heap.size 22 (u8s F) rfl rfl 26 (cs S) (cs (setC S F)) R1.out (info8c F) (by show 30 ≤ 38; decide) (new_c S F) (one8c F) ?_)
    | (refine wpList_load_row rfl 26 _ rfl w.heap.size rfl 26 (cs (setC S F)) (0, 0) _ RN.out Try.underlying26 rfl (infoS _) ?_)
    | (refine wpList_store_row rfl 26 _ _ rfl (w.heap.size + 1) (cs (setC S F)) rfl rfl 26 (cs Z38) R2N.out (infoS _) rfl (oneS _) ?_))
  refine bodyPost_ret (results_cell_row rfl _ _ (w.heap.size + 1) 26 (cs (setC S F)) (0, 0) _ rfl (R2N.out.setRow _) Try.underlying26 rfl (infoS _)) rfl ?_
  exact ⟨by rw [HW.out], below_setRow HBN.out (by omega) _⟩
set_option maxRecDepth 100000 in
theorem above_944 (S : Nat → Nat) (v : Nat) (hS : Hid (OkS S)) (hv : Hid (v < 18446744073709551616)) (w : World) : Calls Try.prog 43 #[.agg (cs S), .int .i64 944, .int .u64 v] w (RetS (wrF S 944 v) w) := by
  have HC := Lib.hid (fun u => AddressR_c (cfO S) (adO S) 0 v (by decide) hS.out.c hS.out.a hv u)
  have HW : Hid (wrF S 944 v = setA S (adrF (cfO S) (adO S) 0 v)) := rfl
  obtain ⟨F, hF⟩ : ∃ F, adrF (cfO S) (adO S) 0 v = F := ⟨_, rfl⟩
  rw [hF] at HC HW
  clear hF hS
  obtain ⟨R1, R2⟩ := two_rows w S Z38
  replace R1 := Lib.hid R1; replace R2 := Lib.hid R2
  have hB : Hid (Below w.heap.size w ((w.alloc (Obj.cells (cs S) 26)).alloc (Obj.cells (cs Z38) 26))) := by show Below _ _ _; exact (by repeat (first | (with_reducible first | exact Below.refl _ _ | assumption | exact Nat.le_refl _ | refine Below.drew ?_ | refine Below.alloc ?_ ?_ _ | refine Below.setCell ?_ ?_ _ | refine le_alloc ?_ | refine le_set ?_ | refine le_drew ?_ | refine below_step (by assumption) ?_ ?_ | refine le_below (by assumption) ?_) | (dsimp only; omega)))
  have hz : Hid (((w.alloc (Obj.cells (cs S) 26)).alloc (Obj.cells (cs Z38) 26)).heap.size = w.heap.size + 2) := by show _ = _; simp only [sz_alloc]
  have i0 : w.heap.size ≠ w.heap.size + 1 := by omega
  go_enter Try.func43, Try.ntmps43
  go_wp2_with (first | (refine wpList_load_at rfl 23 _ rfl w.heap.size 22 rfl (u8s (cfO S)) _ (cfg_cells R1.out) Try.underlying23 rfl (info8c _) ?_) | (refine wpList_load_at rfl 24 _ rfl w.heap.size 30 rfl (u64s (adO S)) _ (adr_cells R1.out) Try.underlying24 rfl (info8a _) ?_))
  refine (HC.out ((w.alloc (Obj.cells (cs S) 26)).alloc (Obj.cells (cs Z38) 26))).mono ?_; rintro e w1 ⟨rfl, hb⟩
  replace R1 := Lib.hid (R1.out.below hb (by rw [hz.out]; omega))
  replace R2 := Lib.hid (R2.out.below hb (by rw [hz.out]; omega))
  replace hB := Lib.hid (below_step hb hB.out hB.out.size)
  clear hb hz
  have RN := Lib.hid (R1.out.setRow (cs (setA S F)))
  have R2N := Lib.hid (R2.out.setRow_ne (b' := w.heap.size) i0 (cs (setA S F)))
  have HBN := Lib.hid (below_setRow hB.out (Nat.le_refl _) (cs (setA S F)))
  clear R2 hB
  go_wp2_with (first
    | (refine wpList_store_at rfl 24 _ _ rfl w.heap.size 30 (u64s F) rfl rfl 26 (cs S) (cs (setA S F)) R1.out (info8a F) (by show 38 ≤ 38; decide) (new_a S F) (one8a F) ?_)
    | (refine wpList_load_row rfl 26 _ rfl w.heap.size rfl 26 (cs (setA S F)) (0, 0) _ RN.out Try.underlying26 rfl (infoS _) ?_)
    | (refine wpList_store_row rfl 26 _ _ rfl (w.heap.size + 1) (cs (setA S F)) rfl rfl 26 (cs Z38) R2N.out (infoS _) rfl (oneS _) ?_))
  refine bodyPost_ret (results_cell_row rfl _ _ (w.heap.size + 1) 26 (cs (setA S F)) (0, 0) _ rfl (R2N.out.setRow _) Try.underlying26 rfl (infoS _)) rfl ?_
  exact ⟨by rw [HW.out], below_setRow HBN.out (by omega) _⟩
set_option maxRecDepth 100000 in
theorem above_945 (S : Nat → Nat) (v : Nat) (hS : Hid (OkS S)) (hv : Hid (v < 18446744073709551616)) (w : World) : Calls Try.prog 43 #[.agg (cs S), .int .i64 945, .int .u64 v] w (RetS (wrF S 945 v) w) := by
  have HC := Lib.hid (fun u => AddressR_c (cfO S) (adO S) 1 v (by decide) hS.out.c hS.out.a hv u)
  have HW : Hid (wrF S 945 v = setA S (adrF (cfO S) (adO S) 1 v)) := rfl
  obtain ⟨F, hF⟩ : ∃ F, adrF (cfO S) (adO S) 1 v = F := ⟨_, rfl⟩
  rw [hF] at HC HW
  clear hF hS
  obtain ⟨R1, R2⟩ := two_rows w S Z38
  replace R1 := Lib.hid R1; replace R2 := Lib.hid R2
  have hB : Hid (Below w.heap.size w ((w.alloc (Obj.cells (cs S) 26)).alloc (Obj.cells (cs Z38) 26))) := by show Below _ _ _; exact (by repeat (first | (with_reducible first | exact Below.refl _ _ | assumption | exact Nat.le_refl _ | refine Below.drew ?_ | refine Below.alloc ?_ ?_ _ | refine Below.setCell ?_ ?_ _ | refine le_alloc ?_ | refine le_set ?_ | refine le_drew ?_ | refine below_step (by assumption) ?_ ?_ | refine le_below (by assumption) ?_) | (dsimp only; omega)))
  have hz : Hid (((w.alloc (Obj.cells (cs S) 26)).alloc (Obj.cells (cs Z38) 26)).heap.size = w.heap.size + 2) := by show _ = _; simp only [sz_alloc]
  have i0 : w.heap.size ≠ w.heap.size + 1 := by omega
  go_enter Try.func43, Try.ntmps43
  go_wp2_with (first | (refine wpList_load_at rfl 23 _ rfl w.heap.size 22 rfl (u8s (cfO S)) _ (cfg_cells R1.out) Try.underlying23 rfl (info8c _) ?_) | (refine wpList_load_at rfl 24 _ rfl w.heap.size 30 rfl (u64s (adO S)) _ (adr_cells R1.out) Try.underlying24 rfl (info8a _) ?_))
  refine (HC.out ((w.alloc (Obj.cells (cs S) 26)).alloc (Obj.cells (cs Z38) 26))).mono ?_; rintro e w1 ⟨rfl, hb⟩
  replace R1 := Lib.hid (R1.out.below hb (by rw [hz.out]; omega))
  replace R2 := Lib.hid (R2.out.below hb (by rw [hz.out]; omega))
  replace hB := Lib.hid (below_step hb hB.out hB.out.size)
  clear hb hz
  have RN := Lib.hid (R1.out.setRow (cs (setA S F)))
  have R2N := Lib.hid (R2.out.setRow_ne (b' := w.heap.size) i0 (cs (setA S F)))
  have HBN := Lib.hid (below_setRow hB.out (Nat.le_refl _) (cs (setA S F)))
  clear R2 hB
  go_wp2_with (first
    | (refine wpList_store_at rfl 24 _ _ rfl w.heap.size 30 (u64s F) rfl rfl 26 (cs S) (cs (setA S F)) R1.out (info8a F) (by show 38 ≤ 38; decide) (new_a S F) (one8a F) ?_)
    | (refine wpList_load_row rfl 26 _ rfl w.heap.size rfl 26 (cs (setA S F)) (0, 0) _ RN.out Try.underlying26 rfl (infoS _) ?_)
    | (refine wpList_store_row rfl 26 _ _ rfl (w.heap.size + 1) (cs (setA S F)) rfl rfl 26 (cs Z38) R2N.out (infoS _) rfl (oneS _) ?_))
  refine bodyPost_ret (results_cell_row rfl _ _ (w.heap.size + 1) 26 (cs (setA S F)) (0, 0) _ rfl (R2N.out.setRow _) Try.underlying26 rfl (infoS _)) rfl ?_
  exact ⟨by rw [HW.out], below_setRow HBN.out (by omega) _⟩
set_option maxRecDepth 100000 in
theorem above_946 (S : Nat → Nat) (v : Nat) (hS : Hid (OkS S)) (hv : Hid (v < 18446744073709551616)) (w : World) : Calls Try.prog 43 #[.agg (cs S), .int .i64 946, .int .u64 v] w (RetS (wrF S 946 v) w) := by
  have HC := Lib.hid (fun u => AddressR_c (cfO S) (adO S) 2 v (by decide) hS.out.c hS.out.a hv u)
  have HW : Hid (wrF S 946 v = setA S (adrF (cfO S) (adO S) 2 v)) := rfl
  obtain ⟨F, hF⟩ : ∃ F, adrF (cfO S) (adO S) 2 v = F := ⟨_, rfl⟩
  rw [hF] at HC HW
  clear hF hS
  obtain ⟨R1, R2⟩ := two_rows w S Z38
  replace R1 := Lib.hid R1; replace R2 := Lib.hid R2
  have hB : Hid (Below w.heap.size w ((w.alloc (Obj.cells (cs S) 26)).alloc (Obj.cells (cs Z38) 26))) := by show Below _ _ _; exact (by repeat (first | (with_reducible first | exact Below.refl _ _ | assumption | exact Nat.le_refl _ | refine Below.drew ?_ | refine Below.alloc ?_ ?_ _ | refine Below.setCell ?_ ?_ _ | refine le_alloc ?_ | refine le_set ?_ | refine le_drew ?_ | refine below_step (by assumption) ?_ ?_ | refine le_below (by assumption) ?_) | (dsimp only; omega)))
  have hz : Hid (((w.alloc (Obj.cells (cs S) 26)).alloc (Obj.cells (cs Z38) 26)).heap.size = w.heap.size + 2) := by show _ = _; simp only [sz_alloc]
  have i0 : w.heap.size ≠ w.heap.size + 1 := by omega
  go_enter Try.func43, Try.ntmps43
  go_wp2_with (first | (refine wpList_load_at rfl 23 _ rfl w.heap.size 22 rfl (u8s (cfO S)) _ (cfg_cells R1.out) Try.underlying23 rfl (info8c _) ?_) | (refine wpList_load_at rfl 24 _ rfl w.heap.size 30 rfl (u64s (adO S)) _ (adr_cells R1.out) Try.underlying24 rfl (info8a _) ?_))
  refine (HC.out ((w.alloc (Obj.cells (cs S) 26)).alloc (Obj.cells (cs Z38) 26))).mono ?_; rintro e w1 ⟨rfl, hb⟩
  replace R1 := Lib.hid (R1.out.below hb (by rw [hz.out]; omega))
  replace R2 := Lib.hid (R2.out.below hb (by rw [hz.out]; omega))
  replace hB := Lib.hid (below_step hb hB.out hB.out.size)
  clear hb hz
  have RN := Lib.hid (R1.out.setRow (cs (setA S F)))
  have R2N := Lib.hid (R2.out.setRow_ne (b' := w.heap.size) i0 (cs (setA S F)))
  have HBN := Lib.hid (below_setRow hB.out (Nat.le_refl _) (cs (setA S F)))
  clear R2 hB
  go_wp2_with (first
    | (refine wpList_store_at rfl 24 _ _ rfl w.heap.size 30 (u64s F) rfl rfl 26 (cs S) (cs (setA S F)) R1.out (info8a F) (by show 38 ≤ 38; decide) (new_a S F) (one8a F) ?_)
    | (refine wpList_load_row rfl 26 _ rfl w.heap.size rfl 26 (cs (setA S F)) (0, 0) _ RN.out Try.underlying26 rfl (infoS _) ?_)
    | (refine wpList_store_row rfl 26 _ _ rfl (w.heap.size + 1) (cs (setA S F)) rfl rfl 26 (cs Z38) R2N.out (infoS _) rfl (oneS _) ?_))
  refine bodyPost_ret (results_cell_row rfl _ _ (w.heap.size + 1) 26 (cs (setA S F)) (0, 0) _ rfl (R2N.out.setRow _) Try.underlying26 rfl (infoS _)) rfl ?_
  exact ⟨by rw [HW.out], below_setRow HBN.out (by omega) _⟩
set_option maxRecDepth 100000 in
theorem above_947 (S : Nat → Nat) (v : Nat) (hS : Hid (OkS S)) (hv : Hid (v < 18446744073709551616)) (w : World) : Calls Try.prog 43 #[.agg (cs S), .int .i64 947, .int .u64 v] w (RetS (wrF S 947 v) w) := by
  have HC := Lib.hid (fun u => AddressR_c (cfO S) (adO S) 3 v (by decide) hS.out.c hS.out.a hv u)
  have HW : Hid (wrF S 947 v = setA S (adrF (cfO S) (adO S) 3 v)) := rfl
  obtain ⟨F, hF⟩ : ∃ F, adrF (cfO S) (adO S) 3 v = F := ⟨_, rfl⟩
  rw [hF] at HC HW
  clear hF hS
  obtain ⟨R1, R2⟩ := two_rows w S Z38
  replace R1 := Lib.hid R1; replace R2 := Lib.hid R2
  have hB : Hid (Below w.heap.size w ((w.alloc (Obj.cells (cs S) 26)).alloc (Obj.cells (cs Z38) 26))) := by show Below _ _ _; exact (by repeat (first | (with_reducible first | exact Below.refl _ _ | assumption | exact Nat.le_refl _ | refine Below.drew ?_ | refine Below.alloc ?_ ?_ _ | refine Below.setCell ?_ ?_ _ | refine le_alloc ?_ | refine le_set ?_ | refine le_drew ?_ | refine below_step (by assumption) ?_ ?_ | refine le_below (by assumption) ?_) | (dsimp only; omega)))
  have hz : Hid (((w.alloc (Obj.cells (cs S) 26)).alloc (Obj.cells (cs Z38) 26)).heap.size = w.heap.size + 2) := by show _ = _; simp only [sz_alloc]
  have i0 : w.heap.size ≠ w.heap.size + 1 := by omega
  go_enter Try.func43, Try.ntmps43
  go_wp2_with (first | (refine wpList_load_at rfl 23 _ rfl w.heap.size 22 rfl (u8s (cfO S)) _ (cfg_cells R1.out) Try.underlying23 rfl (info8c _) ?_) | (refine wpList_load_at rfl 24 _ rfl w.heap.size 30 rfl (u64s (adO S)) _ (adr_cells R1.out) Try.underlying24 rfl (info8a _) ?_))
  refine (HC.out ((w.alloc (Obj.cells (cs S) 26)).alloc (Obj.cells (cs Z38) 26))).mono ?_; rintro e w1 ⟨rfl, hb⟩
  replace R1 := Lib.hid (R1.out.below hb (by rw [hz.out]; omega))
  replace R2 := Lib.hid (R2.out.below hb (by rw [hz.out]; omega))
  replace hB := Lib.hid (below_step hb hB.out hB.out.size)
  clear hb hz
  have RN := Lib.hid (R1.out.setRow (cs (setA S F)))
  have R2N := Lib.hid (R2.out.setRow_ne (b' := w.heap.size) i0 (cs (setA S F)))
  have HBN := Lib.hid (below_setRow hB.out (Nat.le_refl _) (cs (setA S F)))
  clear R2 hB
  go_wp2_with (first
    | (refine wpList_store_at rfl 24 _ _ rfl w.heap.size 30 (u64s F) rfl rfl 26 (cs S) (cs (setA S F)) R1.out (info8a F) (by show 38 ≤ 38; decide) (new_a S F) (one8a F) ?_)
    | (refine wpList_load_row rfl 26 _ rfl w.heap.size rfl 26 (cs (setA S F)) (0, 0) _ RN.out Try.underlying26 rfl (infoS _) ?_)
    | (refine wpList_store_row rfl 26 _ _ rfl (w.heap.size + 1) (cs (setA S F)) rfl rfl 26 (cs Z38) R2N.out (infoS _) rfl (oneS _) ?_))
  refine bodyPost_ret (results_cell_row rfl _ _ (w.heap.size + 1) 26 (cs (setA S F)) (0, 0) _ rfl (R2N.out.setRow _) Try.underlying26 rfl (infoS _)) rfl ?_
  exact ⟨by rw [HW.out], below_setRow HBN.out (by omega) _⟩
set_option maxRecDepth 100000 in
theorem above_948 (S : Nat → Nat) (v : Nat) (hS : Hid (OkS S)) (hv : Hid (v < 18446744073709551616)) (w : World) : Calls Try.prog 43 #[.agg (cs S), .int .i64 948, .int .u64 v] w (RetS (wrF S 948 v) w) := by
  have HC := Lib.hid (fun u => AddressR_c (cfO S) (adO S) 4 v (by decide) hS.out.c hS.out.a hv u)
  have HW : Hid (wrF S 948 v = setA S (adrF (cfO S) (adO S) 4 v)) := rfl
  obtain ⟨F, hF⟩ : ∃ F, adrF (cfO S) (adO S) 4 v = F := ⟨_, rfl⟩
  rw [hF] at HC HW
  clear hF hS
  obtain ⟨R1, R2⟩ := two_rows w S Z38
  replace R1 := Lib.hid R1; replace R2 := Lib.hid R2
  have hB : Hid (Below w.heap.size w ((w.alloc (Obj.cells (cs S) 26)).alloc (Obj.cells (cs Z38) 26))) := by show Below _ _ _; exact (by repeat (first | (with_reducible first | exact Below.refl _ _ | assumption | exact Nat.le_refl _ | refine Below.drew ?_ | refine Below.alloc ?_ ?_ _ | refine Below.setCell ?_ ?_ _ | refine le_alloc ?_ | refine le_set ?_ | refine le_drew ?_ | refine below_step (by assumption) ?_ ?_ | refine le_below (by assumption) ?_) | (dsimp only; omega)))
  have hz : Hid (((w.alloc (Obj.cells (cs S) 26)).alloc (Obj.cells (cs Z38) 26)).heap.size = w.heap.size + 2) := by show _ = _; simp only [sz_alloc]
  have i0 : w.heap.size ≠ w.heap.size + 1 := by omega
  go_enter Try.func43, Try.ntmps43
  go_wp2_with (first | (refine wpList_load_at rfl 23 _ rfl w.heap.size 22 rfl (u8s (cfO S)) _ (cfg_cells R1.out) Try.underlying23 rfl (info8c _) ?_) | (refine wpList_load_at rfl 24 _ rfl w.heap.size 30 rfl (u64s (adO S)) _ (adr_cells R1.out) Try.underlying24 rfl (info8a _) ?_))
  refine (HC.out ((w.alloc (Obj.cells (cs S) 26)).alloc (Obj.cells (cs Z38) 26))).mono ?_; rintro e w1 ⟨rfl, hb⟩
  replace R1 := Lib.hid (R1.out.below hb (by rw [hz.out]; omega))
  replace R2 := Lib.hid (R2.out.below hb (by rw [hz.out]; omega))
  replace hB := Lib.hid (below_step hb hB.out hB.out.size)
  clear hb hz
  have RN := Lib.hid (R1.out.setRow (cs (setA S F)))
  have R2N := Lib.hid (R2.out.setRow_ne (b' := w.heap.size) i0 (cs (setA S F)))
  have HBN := Lib.hid (below_setRow hB.out (Nat.le_refl _) (cs (setA S F)))
  clear R2 hB
  go_wp2_with (first
    | (refine wpList_store_at rfl 24 _ _ rfl w.heap.size 30 (u64s F) rfl rfl 26 (cs S) (cs (setA S F)) R1.out (info8a F) (by show 38 ≤ 38; decide) (new_a S F) (one8a F) ?_)
    | (refine wpList_load_row rfl 26 _ rfl w.heap.size rfl 26 (cs (setA S F)) (0, 0) _ RN.out Try.underlying26 rfl (infoS _) ?_)
    | (refine wpList_store_row rfl 26 _ _ rfl (w.heap.size + 1) (cs (setA S F)) rfl rfl 26 (cs Z38) R2N.out (infoS _) rfl (oneS _) ?_))
  refine bodyPost_ret (results_cell_row rfl _ _ (w.heap.size + 1) 26 (cs (setA S F)) (0, 0) _ rfl (R2N.out.setRow _) Try.underlying26 rfl (infoS _)) rfl ?_
  exact ⟨by rw [HW.out], below_setRow HBN.out (by omega) _⟩
set_option maxRecDepth 100000 in
theorem above_949 (S : Nat → Nat) (v : Nat) (hS : Hid (OkS S)) (hv : Hid (v < 18446744073709551616)) (w : World) : Calls Try.prog 43 #[.agg (cs S), .int .i64 949, .int .u64 v] w (RetS (wrF S 949 v) w) := by
  have HC := Lib.hid (fun u => AddressR_c (cfO S) (adO S) 5 v (by decide) hS.out.c hS.out.a hv u)
  have HW : Hid (wrF S 949 v = setA S (adrF (cfO S) (adO S) 5 v)) := rfl
  obtain ⟨F, hF⟩ : ∃ F, adrF (cfO S) (adO S) 5 v = F := ⟨_, rfl⟩
  rw [hF] at HC HW
  clear hF hS
  obtain ⟨R1, R2⟩ := two_rows w S Z38
  replace R1 := Lib.hid R1; replace R2 := Lib.hid R2
  have hB : Hid (Below w.heap.size w ((w.alloc (Obj.cells (cs S) 26)).alloc (Obj.cells (cs Z38) 26))) := by show Below _ _ _; exact (by repeat (first | (with_reducible first | exact Below.refl _ _ | assumption | exact Nat.le_refl _ | refine Below.drew ?_ | refine Below.alloc ?_ ?_ _ | refine Below.setCell ?_ ?_ _ | refine le_alloc ?_ | refine le_set ?_ | refine le_drew ?_ | refine below_step (by assumption) ?_ ?_ | refine le_below (by assumption) ?_) | (dsimp only; omega)))
  have hz : Hid (((w.alloc (Obj.cells (cs S) 26)).alloc (Obj.cells (cs Z38) 26)).heap.size = w.heap.size + 2) := by show _ = _; simp only [sz_alloc]
  have i0 : w.heap.size ≠ w.heap.size + 1 := by omega
  go_enter Try.func43, Try.ntmps43
  go_wp2_with (first | (refine wpList_load_at rfl 23 _ rfl w.heap.size 22 rfl (u8s (cfO S)) _ (cfg_cells R1.out) Try.underlying23 rfl (info8c _) ?_) | (refine wpList_load_at rfl 24 _ rfl w.heap.size 30 rfl (u64s (adO S)) _ (adr_cells R1.out) Try.underlying24 rfl (info8a _) ?_))
  refine (HC.out ((w.alloc (Obj.cells (cs S) 26)).alloc (Obj.cells (cs Z38) 26))).mono ?_; rintro e w1 ⟨rfl, hb⟩
  replace R1 := Lib.hid (R1.out.below hb (by rw [hz.out]; omega))
  replace R2 := Lib.hid (R2.out.below hb (by rw [hz.out]; omega))
  replace hB := Lib.hid (below_step hb hB.out hB.out.size)
  clear hb hz
  have RN := Lib.hid (R1.out.setRow (cs (setA S F)))
  have R2N := Lib.hid (R2.out.setRow_ne (b' := w.heap.size) i0 (cs (setA S F)))
  have HBN := Lib.hid (below_setRow hB.out (Nat.le_refl _) (cs (setA S F)))
  clear R2 hB
  go_wp2_with (first
    | (refine wpList_store_at rfl 24 _ _ rfl w.heap.size 30 (u64s F) rfl rfl 26 (cs S) (cs (setA S F)) R1.out (info8a F) (by show 38 ≤ 38; decide) (new_a S F) (one8a F) ?_)
    | (refine wpList_load_row rfl 26 _ rfl w.heap.size rfl 26 (cs (setA S F)) (0, 0) _ RN.out Try.underlying26 rfl (infoS _) ?_)
    | (refine wpList_store_row rfl 26 _ _ rfl (w.heap.size + 1) (cs (setA S F)) rfl rfl 26 (cs Z38) R2N.out (infoS _) rfl (oneS _) ?_))
  refine bodyPost_ret (results_cell_row rfl _ _ (w.heap.size + 1) 26 (cs (setA S F)) (0, 0) _ rfl (R2N.out.setRow _) Try.underlying26 rfl (infoS _)) rfl ?_
  exact ⟨by rw [HW.out], below_setRow HBN.out (by omega) _⟩
set_option maxRecDepth 100000 in
theorem above_950 (S : Nat → Nat) (v : Nat) (hS : Hid (OkS S)) (hv : Hid (v < 18446744073709551616)) (w : World) : Calls Try.prog 43 #[.agg (cs S), .int .i64 950, .int .u64 v] w (RetS (wrF S 950 v) w) := by
  have HC := Lib.hid (fun u => AddressR_c (cfO S) (adO S) 6 v (by decide) hS.out.c hS.out.a hv u)
  have HW : Hid (wrF S 950 v = setA S (adrF (cfO S) (adO S) 6 v)) := rfl
  obtain ⟨F, hF⟩ : ∃ F, adrF (cfO S) (adO S) 6 v = F := ⟨_, rfl⟩
  rw [hF] at HC HW
  clear hF hS
  obtain ⟨R1, R2⟩ := two_rows w S Z38
  replace R1 := Lib.hid R1; replace R2 := Lib.hid R2
  have hB : Hid (Below w.heap.size w ((w.alloc (Obj.cells (cs S) 26)).alloc (Obj.cells (cs Z38) 26))) := by show Below _ _ _; exact (by repeat (first | (with_reducible first | exact Below.refl _ _ | assumption | exact Nat.le_refl _ | refine Below.drew ?_ | refine Below.alloc ?_ ?_ _ | refine Below.setCell ?_ ?_ _ | refine le_alloc ?_ | refine le_set ?_ | refine le_drew ?_ | refine below_step (by assumption) ?_ ?_ | refine le_below (by assumption) ?_) | (dsimp only; omega)))
  have hz : Hid (((w.alloc (Obj.cells (cs S) 26)).alloc (Obj.cells (cs Z38) 26)).heap.size = w.heap.size + 2) := by show _ = _; simp only [sz_alloc]
  have i0 : w.heap.size ≠ w.heap.size + 1 := by omega
  go_enter Try.func43, Try.ntmps43
  go_wp2_with (first | (refine wpList_load_at rfl 23 _ rfl w.heap.size 22 rfl (u8s (cfO S)) _ (cfg_cells R1.out) Try.underlying23 rfl (info8c _) ?_) | (refine wpList_load_at rfl 24 _ rfl w.heap.size 30 rfl (u64s (adO S)) _ (adr_cells R1.out) Try.underlying24 rfl (info8a _) ?_))
  refine (HC.out ((w.alloc (Obj.cells (cs S) 26)).alloc (Obj.cells (cs Z38) 26))).mono ?_; rintro e w1 ⟨rfl, hb⟩
  replace R1 := Lib.hid (R1.out.below hb (by rw [hz.out]; omega))
  replace R2 := Lib.hid (R2.out.below hb (by rw [hz.out]; omega))
  replace hB := Lib.hid (below_step hb hB.out hB.out.size)
  clear hb hz
  have RN := Lib.hid (R1.out.setRow (cs (setA S F)))
  have R2N := Lib.hid (R2.out.setRow_ne (b' := w.heap.size) i0 (cs (setA S F)))
  have HBN := Lib.hid (below_setRow hB.out (Nat.le_refl _) (cs (setA S F)))
  clear R2 hB
  go_wp2_with (first
    | (refine wpList_store_at rfl 24 _ _ rfl w.heap.size 30 (u64s F) rfl rfl 26 (cs S) (cs (setA S F)) R1.out (info8a F) (by show 38 ≤ 38; decide) (new_a S F) (one8a F) ?_)
    | (refine wpList_load_row rfl 26 _ rfl w.heap.size rfl 26 (cs (setA S F)) (0, 0) _ RN.out Try.underlying26 rfl (infoS _) ?_)
    | (refine wpList_store_row rfl 26 _ _ rfl (w.heap.size + 1) (cs (setA S F)) rfl rfl 26 (cs Z38) R2N.out (infoS _) rfl (oneS _) ?_))
  refine bodyPost_ret (results_cell_row rfl _ _ (w.heap.size + 1) 26 (cs (setA S F)) (0, 0) _ rfl (R2N.out.setRow _) Try.underlying26 rfl (infoS _)) rfl ?_
  exact ⟨by rw [HW.out], below_setRow HBN.out (by omega) _⟩
set_option maxRecDepth 100000 in
theorem above_951 (S : Nat → Nat) (v : Nat) (hS : Hid (OkS S)) (hv : Hid (v < 18446744073709551616)) (w : World) : Calls Try.prog 43 #[.agg (cs S), .int .i64 951, .int .u64 v] w (RetS (wrF S 951 v) w) := by
  have HC := Lib.hid (fun u => AddressR_c (cfO S) (adO S) 7 v (by decide) hS.out.c hS.out.a hv u)
  have HW : Hid (wrF S 951 v = setA S (adrF (cfO S) (adO S) 7 v)) := rfl
  obtain ⟨F, hF⟩ : ∃ F, adrF (cfO S) (adO S) 7 v = F := ⟨_, rfl⟩
  rw [hF] at HC HW
  clear hF hS
  obtain ⟨R1, R2⟩ := two_rows w S Z38
  replace R1 := Lib.hid R1; replace R2 := Lib.hid R2
  have hB : Hid (Below w.heap.size w ((w.alloc (Obj.cells (cs S) 26)).alloc (Obj.cells (cs Z38) 26))) := by show Below _ _ _; exact (by repeat (first | (with_reducible first | exact Below.refl _ _ | assumption | exact Nat.le_refl _ | refine Below.drew ?_ | refine Below.alloc ?_ ?_ _ | refine Below.setCell ?_ ?_ _ | refine le_alloc ?_ | refine le_set ?_ | refine le_drew ?_ | refine below_step (by assumption) ?_ ?_ | refine le_below (by assumption) ?_) | (dsimp only; omega)))
  have hz : Hid (((w.alloc (Obj.cells (cs S) 26)).alloc (Obj.cells (cs Z38) 26)).heap.size = w.heap.size + 2) := by show _ = _; simp only [sz_alloc]
  have i0 : w.heap.size ≠ w.heap.size + 1 := by omega
  go_enter Try.func43, Try.ntmps43
  go_wp2_with (first | (refine wpList_load_at rfl 23 _ rfl w.heap.size 22 rfl (u8s (cfO S)) _ (cfg_cells R1.out) Try.underlying23 rfl (info8c _) ?_) | (refine wpList_load_at rfl 24 _ rfl w.heap.size 30 rfl (u64s (adO S)) _ (adr_cells R1.out) Try.underlying24 rfl (info8a _) ?_))
  refine (HC.out ((w.alloc (Obj.cells (cs S) 26)).alloc (Obj.cells (cs Z38) 26))).mono ?_; rintro e w1 ⟨rfl, hb⟩
  replace R1 := Lib.hid (R1.out.below hb (by rw [hz.out]; omega))
  replace R2 := Lib.hid (R2.out.below hb (by rw [hz.out]; omega))
  replace hB := Lib.hid (below_step hb hB.out hB.out.size)
  clear hb hz
  have RN := Lib.hid (R1.out.setRow (cs (setA S F)))
  have R2N := Lib.hid (R2.out.setRow_ne (b' := w.heap.size) i0 (cs (setA S F)))
  have HBN := Lib.hid (below_setRow hB.out (Nat.le_refl _) (cs (setA S F)))
  clear R2 hB
  go_wp2_with (first
    | (refine wpList_store_at rfl 24 _ _ rfl w.heap.size 30 (u64s F) rfl rfl 26 (cs S) (cs (setA S F)) R1.out (info8a F) (by show 38 ≤ 38; decide) (new_a S F) (one8a F) ?_)
    | (refine wpList_load_row rfl 26 _ rfl w.heap.size rfl 26 (cs (setA S F)) (0, 0) _ RN.out Try.underlying26 rfl (infoS _) ?_)
    | (refine wpList_store_row rfl 26 _ _ rfl (w.heap.size + 1) (cs (setA S F)) rfl rfl 26 (cs Z38) R2N.out (infoS _) rfl (oneS _) ?_))
  refine bodyPost_ret (results_cell_row rfl _ _ (w.heap.size + 1) 26 (cs (setA S F)) (0, 0) _ rfl (R2N.out.setRow _) Try.underlying26 rfl (infoS _)) rfl ?_
  exact ⟨by rw [HW.out], below_setRow HBN.out (by omega) _⟩
set_option maxRecDepth 100000 in
theorem above_lo (S : Nat → Nat) (n : Int) (v : Nat) (h0 : ¬ n = 768) (h1 : ¬ n = 770) (h2 : ¬ n = 771) (h3 : ¬ n = 772) (h4 : ¬ n = 773) (h5 : ¬ n = 774) (h6 : ¬ n = 800) (h7 : ¬ n = 832) (h8 : ¬ n = 833) (h9 : ¬ n = 834) (h10 : ¬ n = 835) (h11 : ¬ n = 836) (h12 : ¬ n = 928) (h13 : ¬ n = 2816) (h14 : ¬ n = 2818) (hp : n < 944) (w : World) : Calls Try.prog 43 #[.agg (cs S), .int .i64 n, .int .u64 v] w (RetS S w) := by
  obtain ⟨R1, R2⟩ := two_rows w S Z38
  replace R1 := Lib.hid R1; replace R2 := Lib.hid R2
  have hB : Hid (Below w.heap.size w ((w.alloc (Obj.cells (cs S) 26)).alloc (Obj.cells (cs Z38) 26))) := by show Below _ _ _; exact (by repeat (first | (with_reducible first | exact Below.refl _ _ | assumption | exact Nat.le_refl _ | refine Below.drew ?_ | refine Below.alloc ?_ ?_ _ | refine Below.setCell ?_ ?_ _ | refine le_alloc ?_ | refine le_set ?_ | refine le_drew ?_ | refine below_step (by assumption) ?_ ?_ | refine le_below (by assumption) ?_) | (dsimp only; omega)))
  have e0 : (n == 768) = false := by rw [beq_eq_false_iff_ne]; exact h0
  have e1 : (n == 770) = false := by rw [beq_eq_false_iff_ne]; exact h1
  have e2 : (n == 771) = false := by rw [beq_eq_false_iff_ne]; exact h2
  have e3 : (n == 772) = false := by rw [beq_eq_false_iff_ne]; exact h3
  have e4 : (n == 773) = false := by rw [beq_eq_false_iff_ne]; exact h4
  have e5 : (n == 774) = false := by rw [beq_eq_false_iff_ne]; exact h5
  have e6 : (n == 800) = false := by rw [beq_eq_false_iff_ne]; exact h6
  have e7 : (n == 832) = false := by rw [beq_eq_false_iff_ne]; exact h7
  have e8 : (n == 833) = false := by rw [beq_eq_false_iff_ne]; exact h8
  have e9 : (n == 834) = false := by rw [beq_eq_false_iff_ne]; exact h9
  have e10 : (n == 835) = false := by rw [beq_eq_false_iff_ne]; exact h10
  have e11 : (n == 836) = false := by rw [beq_eq_false_iff_ne]; exact h11
  have e12 : (n == 928) = false := by rw [beq_eq_false_iff_ne]; exact h12
  have e13 : (n == 2816) = false := by rw [beq_eq_false_iff_ne]; exact h13
  have e14 : (n == 2818) = false := by rw [beq_eq_false_iff_ne]; exact h14
  have p1 : ¬ (944 ≤ n) := by omega
  have p2 : n ≤ 951 := by omega
  clear h0 h1 h2 h3 h4 h5 h6 h7 h8 h9 h10 h11 h12 h13 h14 hp
  go_enter Try.func43, Try.ntmps43
  go_wp2_with (first
    | (refine wpList_load_row rfl 26 _ rfl w.heap.size rfl 26 (cs S) (0, 0) _ R1.out Try.underlying26 rfl (infoS _) ?_)
    | (refine wpList_store_row rfl 26 _ _ rfl (w.heap.size + 1) (cs S) rfl rfl 26 (cs Z38) R2.out (infoS _) rfl (oneS _) ?_))
  refine bodyPost_ret (results_cell_row rfl _ _ (w.heap.size + 1) 26 (cs S) (0, 0) _ rfl (R2.out.setRow _) Try.underlying26 rfl (infoS _)) rfl ?_
  exact ⟨rfl, below_setRow hB.out (by omega) _⟩
set_option maxRecDepth 100000 in
theorem above_hi (S : Nat → Nat) (n : Int) (v : Nat) (h0 : ¬ n = 768) (h1 : ¬ n = 770) (h2 : ¬ n = 771) (h3 : ¬ n = 772) (h4 : ¬ n = 773) (h5 : ¬ n = 774) (h6 : ¬ n = 800) (h7 : ¬ n = 832) (h8 : ¬ n = 833) (h9 : ¬ n = 834) (h10 : ¬ n = 835) (h11 : ¬ n = 836) (h12 : ¬ n = 928) (h13 : ¬ n = 2816) (h14 : ¬ n = 2818) (hp : 951 < n) (w : World) : Calls Try.prog 43 #[.agg (cs S), .int .i64 n, .int .u64 v] w (RetS S w) := by
  obtain ⟨R1, R2⟩ := two_rows w S Z38
  replace R1 := Lib.hid R1; replace R2 := Lib.hid R2
  have hB : Hid (Below w.heap.size w ((w.alloc (Obj.cells (cs S) 26)).alloc (Obj.cells (cs Z38) 26))) := by show Below _ _ _; exact (by repeat (first | (with_reducible first | exact Below.refl _ _ | assumption | exact Nat.le_refl _ | refine Below.drew ?_ | refine Below.alloc ?_ ?_ _ | refine Below.setCell ?_ ?_ _ | refine le_alloc ?_ | refine le_set ?_ | refine le_drew ?_ | refine below_step (by assumption) ?_ ?_ | refine le_below (by assumption) ?_) | (dsimp only; omega)))
  have e0 : (n == 768) = false := by rw [beq_eq_false_iff_ne]; exact h0
  have e1 : (n == 770) = false := by rw [beq_eq_false_iff_ne]; exact h1
  have e2 : (n == 771) = false := by rw [beq_eq_false_iff_ne]; exact h2
  have e3 : (n == 772) = false := by rw [beq_eq_false_iff_ne]; exact h3
  have e4 : (n == 773) = false := by rw [beq_eq_false_iff_ne]; exact h4
  have e5 : (n == 774) = false := by rw [beq_eq_false_iff_ne]; exact h5
  have e6 : (n == 800) = false := by rw [beq_eq_false_iff_ne]; exact h6
  have e7 : (n == 832) = false := by rw [beq_eq_false_iff_ne]; exact h7
  have e8 : (n == 833) = false := by rw [beq_eq_false_iff_ne]; exact h8
  have e9 : (n == 834) = false := by rw [beq_eq_false_iff_ne]; exact h9
  have e10 : (n == 835) = false := by rw [beq_eq_false_iff_ne]; exact h10
  have e11 : (n == 836) = false := by rw [beq_eq_false_iff_ne]; exact h11
  have e12 : (n == 928) = false := by rw [beq_eq_false_iff_ne]; exact h12
  have e13 : (n == 2816) = false := by rw [beq_eq_false_iff_ne]; exact h13
  have e14 : (n == 2818) = false := by rw [beq_eq_false_iff_ne]; exact h14
  have p1 : 944 ≤ n := by omega
  have p2 : ¬ (n ≤ 951) := by omega
  clear h0 h1 h2 h3 h4 h5 h6 h7 h8 h9 h10 h11 h12 h13 h14 hp
  go_enter Try.func43, Try.ntmps43
  go_wp2_with (first
    | (refine wpList_load_row rfl 26 _ rfl w.heap.size rfl 26 (cs S) (0, 0) _ R1.out Try.underlying26 rfl (infoS _) ?_)
    | (refine wpList_store_row rfl 26 _ _ rfl (w.heap.size + 1) (cs S) rfl rfl 26 (cs Z38) R2.out (infoS _) rfl (oneS _) ?_))
  refine bodyPost_ret (results_cell_row rfl _ _ (w.heap.size + 1) 26 (cs S) (0, 0) _ rfl (R2.out.setRow _) Try.underlying26 rfl (infoS _)) rfl ?_
  exact ⟨rfl, below_setRow hB.out (by omega) _⟩
theorem above_c (S : Nat → Nat) (n : Int) (v : Nat) (hS : Hid (OkS S)) (hv : Hid (v < 18446744073709551616)) (h0 : ¬ n = 1) (h1 : ¬ n = 2) (h2 : ¬ n = 3) (h3 : ¬ n = 256) (h4 : ¬ n = 260) (h5 : ¬ n = 261) (h6 : ¬ n = 262) (h7 : ¬ n = 320) (h8 : ¬ n = 321) (h9 : ¬ n = 322) (h10 : ¬ n = 323) (h11 : ¬ n = 324) (h12 : ¬ n = 384) (w : World) : Calls Try.prog 43 #[.agg (cs S), .int .i64 n, .int .u64 v] w (RetS (wrF S n v) w) := by
  by_cases k0 : n = 768
  · subst k0; exact above_768 S v hS hv w
  by_cases k1 : n = 770
  · subst k1; exact above_770 S v hS hv w
  by_cases k2 : n = 771
  · subst k2; exact above_771 S v hS hv w
  by_cases k3 : n = 772
  · subst k3; exact above_772 S v hS hv w
  by_cases k4 : n = 773
  · subst k4; exact above_773 S v hS hv w
  by_cases k5 : n = 774
  · subst k5; exact above_774 S v hS hv w
  by_cases k6 : n = 800
  · subst k6; exact above_800 S v hS hv w
  by_cases k7 : n = 832
  · subst k7; exact above_832 S v hS hv w
  by_cases k8 : n = 833
  · subst k8; exact above_833 S v hS hv w
  by_cases k9 : n = 834
  · subst k9; exact above_834 S v hS hv w
  by_cases k10 : n = 835
  · subst k10; exact above_835 S v hS hv w
  by_cases k11 : n = 836
  · subst k11; exact above_836 S v hS hv w
  by_cases k12 : n = 928
  · subst k12; exact above_928 S v hS hv w
  by_cases k13 : n = 2816
  · subst k13; exact above_2816 S v hS hv w
  by_cases k14 : n = 2818
  · subst k14; exact above_2818 S v hS hv w
  by_cases hp : 944 ≤ n ∧ n ≤ 951
  · have : n = 944 ∨ n = 945 ∨ n = 946 ∨ n = 947 ∨ n = 948 ∨ n = 949 ∨ n = 950 ∨ n = 951 := by omega
    rcases this with rfl | rfl | rfl | rfl | rfl | rfl | rfl | rfl
    · exact above_944 S v hS hv w
    · exact above_945 S v hS hv w
    · exact above_946 S v hS hv w
    · exact above_947 S v hS hv w
    · exact above_948 S v hS hv w
    · exact above_949 S v hS hv w
    · exact above_950 S v hS hv w
    · exact above_951 S v hS hv w
  · rw [wr_other S n v h0 h1 h2 h3 h4 h5 h6 h7 h8 h9 h10 h11 h12 k0 k1 k2 k3 k4 k5 k6 k7 k8 k9 k10 k11 k12 k13 k14 hp]
    by_cases hq : n < 944
    · exact above_lo S n v k0 k1 k2 k3 k4 k5 k6 k7 k8 k9 k10 k11 k12 k13 k14 hq w
    · exact above_hi S n v k0 k1 k2 k3 k4 k5 k6 k7 k8 k9 k10 k11 k12 k13 k14 (by omega) w
set_option maxRecDepth 100000 in
theorem Write_1 (S : Nat → Nat) (v : Nat) (hS : Hid (OkS S)) (hv : Hid (v < 18446744073709551616)) (w : World) : Calls Try.prog 19 #[.agg (cs S), .int .i64 1, .int .u64 v] w (RetS (wrF S 1 v) w) := by
  have HW : Hid (wrF S 1 v = setN (setN S 21 (mixN (S 21) v 31)) 0 (stlN (S 0 ||| 24576))) := rfl
  have g21 : (cs S)[21]? = some (.int .u64 (S 21 : Nat)) := rfl
  have HM := Lib.hid (fun u => mixr_c (S 21) v 31 (hS.out.u 21 (by decide)) hv (by show _ < _; decide) u)
  have hx := mix_lt (S 21) v 31 (hS.out.u 21 (by decide)) hv.out
  have hO : OkS (setN S 21 (mixN (S 21) v 31)) := fun k => by
    unfold setN
    by_cases e : k = 21
    · subst e
      rw [show ((21 : Nat) == 21) = true from rfl, if_neg (by decide)]; exact hx
    · rw [show (k == 21) = false by simp [e]]; exact hS.out k
  have HO := Lib.hid hO
  obtain ⟨x, hx'⟩ : ∃ x, mixN (S 21) v 31 = x := ⟨_, rfl⟩
  rw [hx'] at HM HW hx HO
  have gs := cs_set S 21 x (by unfold isU; decide)
  have HF := Lib.hid (fun u => setFs_c (setN S 21 x) HO u)
  rw [show setN S 21 x 0 = S 0 from rfl] at HF
  obtain ⟨T, hT⟩ : ∃ T, setN S 21 x = T := ⟨_, rfl⟩
  rw [hT] at gs HW HF
  obtain ⟨U, hU⟩ : ∃ U, setN T 0 (stlN (S 0 ||| 24576)) = U := ⟨_, rfl⟩
  rw [hU] at HW HF
  clear hx hx' hS hv hT hU HO hO
  obtain ⟨R1, R2⟩ := two_rows w T Z38
  replace R1 := Lib.hid R1; replace R2 := Lib.hid R2
  have hB : Hid (Below w.heap.size w ((w.alloc (Obj.cells (cs T) 26)).alloc (Obj.cells (cs Z38) 26))) := by show Below _ _ _; exact (by repeat (first | (with_reducible first | exact Below.refl _ _ | assumption | exact Nat.le_refl _ | refine Below.drew ?_ | refine Below.alloc ?_ ?_ _ | refine Below.setCell ?_ ?_ _ | refine le_alloc ?_ | refine le_set ?_ | refine le_drew ?_ | refine below_step (by assumption) ?_ ?_ | refine le_below (by assumption) ?_) | (dsimp only; omega)))
  have hz : Hid (((w.alloc (Obj.cells (cs T) 26)).alloc (Obj.cells (cs Z38) 26)).heap.size = w.heap.size + 2) := by show _ = _; simp only [sz_alloc]
  go_enter Try.func19, Try.ntmps19
  go_wp2_with fail
  refine (HM.out _).mono ?_; rintro e w1 ⟨rfl, h⟩; replace h := h.symm; subst h
  go_wp2_with (refine wpList_load_row rfl 26 _ rfl w.heap.size rfl 26 (cs T) (0, 0) _ R1.out Try.underlying26 rfl (infoS _) ?_)
  refine (HF.out ((w.alloc (Obj.cells (cs T) 26)).alloc (Obj.cells (cs Z38) 26))).mono ?_; rintro e w1 ⟨rfl, hb⟩
  replace R2 := Lib.hid (R2.out.below hb (by rw [hz.out]; omega))
  replace hB := Lib.hid (below_step hb hB.out hB.out.size)
  clear hb hz R1
  go_wp2_with (first
    | (refine wpList_store_row rfl 26 _ _ rfl (w.heap.size + 1) (cs U) rfl rfl 26 (cs Z38) R2.out (infoS _) rfl (oneS _) ?_))
  refine bodyPost_ret (results_cell_row rfl _ _ (w.heap.size + 1) 26 (cs U) (0, 0) _ rfl (R2.out.setRow _) Try.underlying26 rfl (infoS _)) rfl ?_
  exact ⟨by rw [HW.out], below_setRow hB.out (by omega) _⟩
set_option maxRecDepth 100000 in
theorem Write_2 (S : Nat → Nat) (v : Nat) (hS : Hid (OkS S)) (hv : Hid (v < 18446744073709551616)) (w : World) : Calls Try.prog 19 #[.agg (cs S), .int .i64 2, .int .u64 v] w (RetS (wrF S 2 v) w) := by
  have HW : Hid (wrF S 2 v = setN (setN S 21 (mixN (S 21) (v * 32 % 18446744073709551616) 224)) 0 (stlN (S 0 ||| 24576))) := rfl
  have g21 : (cs S)[21]? = some (.int .u64 (S 21 : Nat)) := rfl
  have s5 := shl5 v
  have HM := Lib.hid (fun u => mixr_c (S 21) (v * 32 % 18446744073709551616) 224 (hS.out.u 21 (by decide)) (Nat.mod_lt _ (by decide)) (by show _ < _; decide) u)
  have hx := mix_lt (S 21) (v * 32 % 18446744073709551616) 224 (hS.out.u 21 (by decide)) (Nat.mod_lt _ (by decide))
  have hO : OkS (setN S 21 (mixN (S 21) (v * 32 % 18446744073709551616) 224)) := fun k => by
    unfold setN
    by_cases e : k = 21
    · subst e
      rw [show ((21 : Nat) == 21) = true from rfl, if_neg (by decide)]; exact hx
    · rw [show (k == 21) = false by simp [e]]; exact hS.out k
  have HO := Lib.hid hO
  obtain ⟨q, hq⟩ : ∃ q, v * 32 % 18446744073709551616 = q := ⟨_, rfl⟩
  rw [hq] at s5 HM HW hx HO
  clear hq
  obtain ⟨x, hx'⟩ : ∃ x, mixN (S 21) q 224 = x := ⟨_, rfl⟩
  rw [hx'] at HM HW hx HO
  have gs := cs_set S 21 x (by unfold isU; decide)
  have HF := Lib.hid (fun u => setFs_c (setN S 21 x) HO u)
  rw [show setN S 21 x 0 = S 0 from rfl] at HF
  obtain ⟨T, hT⟩ : ∃ T, setN S 21 x = T := ⟨_, rfl⟩
  rw [hT] at gs HW HF
  obtain ⟨U, hU⟩ : ∃ U, setN T 0 (stlN (S 0 ||| 24576)) = U := ⟨_, rfl⟩
  rw [hU] at HW HF
  clear hO
  clear hx hx' hS hv hT hU HO
  obtain ⟨R1, R2⟩ := two_rows w T Z38
  replace R1 := Lib.hid R1; replace R2 := Lib.hid R2
  have hB : Hid (Below w.heap.size w ((w.alloc (Obj.cells (cs T) 26)).alloc (Obj.cells (cs Z38) 26))) := by show Below _ _ _; exact (by repeat (first | (with_reducible first | exact Below.refl _ _ | assumption | exact Nat.le_refl _ | refine Below.drew ?_ | refine Below.alloc ?_ ?_ _ | refine Below.setCell ?_ ?_ _ | refine le_alloc ?_ | refine le_set ?_ | refine le_drew ?_ | refine below_step (by assumption) ?_ ?_ | refine le_below (by assumption) ?_) | (dsimp only; omega)))
  have hz : Hid (((w.alloc (Obj.cells (cs T) 26)).alloc (Obj.cells (cs Z38) 26)).heap.size = w.heap.size + 2) := by show _ = _; simp only [sz_alloc]
  go_enter Try.func19, Try.ntmps19
  go_wp2_with fail
  refine (HM.out _).mono ?_; rintro e w1 ⟨rfl, h⟩; replace h := h.symm; subst h
  go_wp2_with (refine wpList_load_row rfl 26 _ rfl w.heap.size rfl 26 (cs T) (0, 0) _ R1.out Try.underlying26 rfl (infoS _) ?_)
  refine (HF.out ((w.alloc (Obj.cells (cs T) 26)).alloc (Obj.cells (cs Z38) 26))).mono ?_; rintro e w1 ⟨rfl, hb⟩
  replace R2 := Lib.hid (R2.out.below hb (by rw [hz.out]; omega))
  replace hB := Lib.hid (below_step hb hB.out hB.out.size)
  clear hb hz R1
  go_wp2_with (first
    | (refine wpList_store_row rfl 26 _ _ rfl (w.heap.size + 1) (cs U) rfl rfl 26 (cs Z38) R2.out (infoS _) rfl (oneS _) ?_))
  refine bodyPost_ret (results_cell_row rfl _ _ (w.heap.size + 1) 26 (cs U) (0, 0) _ rfl (R2.out.setRow _) Try.underlying26 rfl (infoS _)) rfl ?_
  exact ⟨by rw [HW.out], below_setRow hB.out (by omega) _⟩
set_option maxRecDepth 100000 in
theorem Write_3 (S : Nat → Nat) (v : Nat) (hS : Hid (OkS S)) (hv : Hid (v < 18446744073709551616)) (w : World) : Calls Try.prog 19 #[.agg (cs S), .int .i64 3, .int .u64 v] w (RetS (wrF S 3 v) w) := by
  have HW : Hid (wrF S 3 v = setN (setN S 21 (v &&& 255)) 0 (stlN (S 0 ||| 24576))) := rfl
  have g21 : (cs S)[21]? = some (.int .u64 (S 21 : Nat)) := rfl
  have a1 : bits .and .u64 (v : Int) 255 = ((v &&& 255 : Nat) : Int) := u_and v 255 hv.out (by decide)
  have hx := and_lt v 255 hv.out
  have hO : OkS (setN S 21 (v &&& 255)) := fun k => by
    unfold setN
    by_cases e : k = 21
    · subst e
      rw [show ((21 : Nat) == 21) = true from rfl, if_neg (by decide)]; exact hx
    · rw [show (k == 21) = false by simp [e]]; exact hS.out k
  have HO := Lib.hid hO
  obtain ⟨x, hx'⟩ : ∃ x, v &&& 255 = x := ⟨_, rfl⟩
  rw [hx'] at a1 HW hx HO
  have gs := cs_set S 21 x (by unfold isU; decide)
  have HF := Lib.hid (fun u => setFs_c (setN S 21 x) HO u)
  rw [show setN S 21 x 0 = S 0 from rfl] at HF
  obtain ⟨T, hT⟩ : ∃ T, setN S 21 x = T := ⟨_, rfl⟩
  rw [hT] at gs HW HF
  obtain ⟨U, hU⟩ : ∃ U, setN T 0 (stlN (S 0 ||| 24576)) = U := ⟨_, rfl⟩
  rw [hU] at HW HF
  clear hx hx' hS hv hT hU HO hO
  obtain ⟨R1, R2⟩ := two_rows w T Z38
  replace R1 := Lib.hid R1; replace R2 := Lib.hid R2
  have hB : Hid (Below w.heap.size w ((w.alloc (Obj.cells (cs T) 26)).alloc (Obj.cells (cs Z38) 26))) := by show Below _ _ _; exact (by repeat (first | (with_reducible first | exact Below.refl _ _ | assumption | exact Nat.le_refl _ | refine Below.drew ?_ | refine Below.alloc ?_ ?_ _ | refine Below.setCell ?_ ?_ _ | refine le_alloc ?_ | refine le_set ?_ | refine le_drew ?_ | refine below_step (by assumption) ?_ ?_ | refine le_below (by assumption) ?_) | (dsimp only; omega)))
  have hz : Hid (((w.alloc (Obj.cells (cs T) 26)).alloc (Obj.cells (cs Z38) 26)).heap.size = w.heap.size + 2) := by show _ = _; simp only [sz_alloc]
  go_enter Try.func19, Try.ntmps19
  go_wp2_with (refine wpList_load_row rfl 26 _ rfl w.heap.size rfl 26 (cs T) (0, 0) _ R1.out Try.underlying26 rfl (infoS _) ?_)
  refine (HF.out ((w.alloc (Obj.cells (cs T) 26)).alloc (Obj.cells (cs Z38) 26))).mono ?_; rintro e w1 ⟨rfl, hb⟩
  replace R2 := Lib.hid (R2.out.below hb (by rw [hz.out]; omega))
  replace hB := Lib.hid (below_step hb hB.out hB.out.size)
  clear hb hz R1
  go_wp2_with (first
    | (refine wpList_store_row rfl 26 _ _ rfl (w.heap.size + 1) (cs U) rfl rfl 26 (cs Z38) R2.out (infoS _) rfl (oneS _) ?_))
  refine bodyPost_ret (results_cell_row rfl _ _ (w.heap.size + 1) 26 (cs U) (0, 0) _ rfl (R2.out.setRow _) Try.underlying26 rfl (infoS _)) rfl ?_
  exact ⟨by rw [HW.out], below_setRow hB.out (by omega) _⟩
set_option maxRecDepth 100000 in
theorem Write_384y0 (S : Nat → Nat) (v : Nat) (hv : Hid (v < 18446744073709551616)) (h : v / 1152921504606846976 = 0) (w : World) : Calls Try.prog 19 #[.agg (cs S), .int .i64 384, .int .u64 v] w (RetS (wrF S 384 v) w) := by
  have HW : Hid (wrF S 384 v = setN S 20 v) := by show (if fitB 384 v = true then setN S 20 (v &&& 18446744073709551615) else S) = _; unfold fitB; rw [h, and_ones_n v hv.out]; rfl
  have e1 : (v : Int) / 1152921504606846976 = 0 := by omega
  have gs := cs_set S 20 v (by unfold isU; decide)
  obtain ⟨T, hT⟩ : ∃ T, setN S 20 v = T := ⟨_, rfl⟩
  rw [hT] at gs HW
  clear hT hv h
  obtain ⟨R1, R2⟩ := two_rows w T Z38
  replace R1 := Lib.hid R1; replace R2 := Lib.hid R2
  have hB : Hid (Below w.heap.size w ((w.alloc (Obj.cells (cs T) 26)).alloc (Obj.cells (cs Z38) 26))) := by show Below _ _ _; exact (by repeat (first | (with_reducible first | exact Below.refl _ _ | assumption | exact Nat.le_refl _ | refine Below.drew ?_ | refine Below.alloc ?_ ?_ _ | refine Below.setCell ?_ ?_ _ | refine le_alloc ?_ | refine le_set ?_ | refine le_drew ?_ | refine below_step (by assumption) ?_ ?_ | refine le_below (by assumption) ?_) | (dsimp only; omega)))
  go_enter Try.func19, Try.ntmps19
  go_wp2_with (first
    | (refine wpList_load_row rfl 26 _ rfl w.heap.size rfl 26 (cs T) (0, 0) _ R1.out Try.underlying26 rfl (infoS _) ?_)
    | (refine wpList_store_row rfl 26 _ _ rfl (w.heap.size + 1) (cs T) rfl rfl 26 (cs Z38) R2.out (infoS _) rfl (oneS _) ?_))
  refine bodyPost_ret (results_cell_row rfl _ _ (w.heap.size + 1) 26 (cs T) (0, 0) _ rfl (R2.out.setRow _) Try.underlying26 rfl (infoS _)) rfl ?_
  exact ⟨by rw [HW.out], below_setRow hB.out (by omega) _⟩
set_option maxRecDepth 100000 in
theorem Write_384y8 (S : Nat → Nat) (v : Nat) (hv : Hid (v < 18446744073709551616)) (h : v / 1152921504606846976 = 8) (w : World) : Calls Try.prog 19 #[.agg (cs S), .int .i64 384, .int .u64 v] w (RetS (wrF S 384 v) w) := by
  have HW : Hid (wrF S 384 v = setN S 20 v) := by show (if fitB 384 v = true then setN S 20 (v &&& 18446744073709551615) else S) = _; unfold fitB; rw [h, and_ones_n v hv.out]; rfl
  have e1 : (v : Int) / 1152921504606846976 = 8 := by omega
  have gs := cs_set S 20 v (by unfold isU; decide)
  obtain ⟨T, hT⟩ : ∃ T, setN S 20 v = T := ⟨_, rfl⟩
  rw [hT] at gs HW
  clear hT hv h
  obtain ⟨R1, R2⟩ := two_rows w T Z38
  replace R1 := Lib.hid R1; replace R2 := Lib.hid R2
  have hB : Hid (Below w.heap.size w ((w.alloc (Obj.cells (cs T) 26)).alloc (Obj.cells (cs Z38) 26))) := by show Below _ _ _; exact (by repeat (first | (with_reducible first | exact Below.refl _ _ | assumption | exact Nat.le_refl _ | refine Below.drew ?_ | refine Below.alloc ?_ ?_ _ | refine Below.setCell ?_ ?_ _ | refine le_alloc ?_ | refine le_set ?_ | refine le_drew ?_ | refine below_step (by assumption) ?_ ?_ | refine le_below (by assumption) ?_) | (dsimp only; omega)))
  go_enter Try.func19, Try.ntmps19
  go_wp2_with (first
    | (refine wpList_load_row rfl 26 _ rfl w.heap.size rfl 26 (cs T) (0, 0) _ R1.out Try.underlying26 rfl (infoS _) ?_)
    | (refine wpList_store_row rfl 26 _ _ rfl (w.heap.size + 1) (cs T) rfl rfl 26 (cs Z38) R2.out (infoS _) rfl (oneS _) ?_))
  refine bodyPost_ret (results_cell_row rfl _ _ (w.heap.size + 1) 26 (cs T) (0, 0) _ rfl (R2.out.setRow _) Try.underlying26 rfl (infoS _)) rfl ?_
  exact ⟨by rw [HW.out], below_setRow hB.out (by omega) _⟩
set_option maxRecDepth 100000 in
theorem Write_384n (S : Nat → Nat) (v : Nat) (hv : Hid (v < 18446744073709551616)) (h0 : ¬ v / 1152921504606846976 = 0) (h8 : ¬ v / 1152921504606846976 = 8) (w : World) : Calls Try.prog 19 #[.agg (cs S), .int .i64 384, .int .u64 v] w (RetS (wrF S 384 v) w) := by
  have HW : Hid (wrF S 384 v = S) := by show (if fitB 384 v = true then setN S 20 (v &&& 18446744073709551615) else S) = _; rw [if_neg]; unfold fitB; simp [h0, h8]
  obtain ⟨q, hq⟩ : ∃ q, v / 1152921504606846976 = q := ⟨_, rfl⟩
  have e1 : (v : Int) / 1152921504606846976 = (q : Int) := by omega
  rw [hq] at h0 h8
  have f0 : ((q : Int) == 0) = false := by rw [beq_eq_false_iff_ne]; omega
  have f8 : ((q : Int) == 8) = false := by rw [beq_eq_false_iff_ne]; omega
  clear hq h0 h8
  have gs := cs_set S 20 v (by unfold isU; decide)
  clear gs hv
  obtain ⟨R1, R2⟩ := two_rows w S Z38
  replace R1 := Lib.hid R1; replace R2 := Lib.hid R2
  have hB : Hid (Below w.heap.size w ((w.alloc (Obj.cells (cs S) 26)).alloc (Obj.cells (cs Z38) 26))) := by show Below _ _ _; exact (by repeat (first | (with_reducible first | exact Below.refl _ _ | assumption | exact Nat.le_refl _ | refine Below.drew ?_ | refine Below.alloc ?_ ?_ _ | refine Below.setCell ?_ ?_ _ | refine le_alloc ?_ | refine le_set ?_ | refine le_drew ?_ | refine below_step (by assumption) ?_ ?_ | refine le_below (by assumption) ?_) | (dsimp only; omega)))
  go_enter Try.func19, Try.ntmps19
  go_wp2_with (first
    | (refine wpList_load_row rfl 26 _ rfl w.heap.size rfl 26 (cs S) (0, 0) _ R1.out Try.underlying26 rfl (infoS _) ?_)
    | (refine wpList_store_row rfl 26 _ _ rfl (w.heap.size + 1) (cs S) rfl rfl 26 (cs Z38) R2.out (infoS _) rfl (oneS _) ?_))
  refine bodyPost_ret (results_cell_row rfl _ _ (w.heap.size + 1) 26 (cs S) (0, 0) _ rfl (R2.out.setRow _) Try.underlying26 rfl (infoS _)) rfl ?_
  exact ⟨by rw [HW.out], below_setRow hB.out (by omega) _⟩
theorem Write_384 (S : Nat → Nat) (v : Nat) (hS : Hid (OkS S)) (hv : Hid (v < 18446744073709551616)) (w : World) : Calls Try.prog 19 #[.agg (cs S), .int .i64 384, .int .u64 v] w (RetS (wrF S 384 v) w) := by
  by_cases h0 : v / 1152921504606846976 = 0
  · exact Write_384y0 S v hv h0 w
  · by_cases h8 : v / 1152921504606846976 = 8
    · exact Write_384y8 S v hv h8 w
    · exact Write_384n S v hv h0 h8 w
set_option maxRecDepth 100000 in
theorem Write_o (S : Nat → Nat) (n : Int) (v : Nat) (hS : Hid (OkS S)) (hv : Hid (v < 18446744073709551616)) (h0 : ¬ n = 1) (h1 : ¬ n = 2) (h2 : ¬ n = 3) (h3 : ¬ n = 256) (h4 : ¬ n = 260) (h5 : ¬ n = 261) (h6 : ¬ n = 262) (h7 : ¬ n = 320) (h8 : ¬ n = 321) (h9 : ¬ n = 322) (h10 : ¬ n = 323) (h11 : ¬ n = 324) (h12 : ¬ n = 384) (w : World) : Calls Try.prog 19 #[.agg (cs S), .int .i64 n, .int .u64 v] w (RetS (wrF S n v) w) := by
  have HA := Lib.hid (fun u => above_c S n v hS hv h0 h1 h2 h3 h4 h5 h6 h7 h8 h9 h10 h11 h12 u)
  obtain ⟨U, hU⟩ : ∃ U, wrF S n v = U := ⟨_, rfl⟩
  rw [hU] at HA ⊢
  have e0 : (n == 1) = false := by rw [beq_eq_false_iff_ne]; exact h0
  have e1 : (n == 2) = false := by rw [beq_eq_false_iff_ne]; exact h1
  have e2 : (n == 3) = false := by rw [beq_eq_false_iff_ne]; exact h2
  have e3 : (n == 256) = false := by rw [beq_eq_false_iff_ne]; exact h3
  have e4 : (n == 260) = false := by rw [beq_eq_false_iff_ne]; exact h4
  have e5 : (n == 261) = false := by rw [beq_eq_false_iff_ne]; exact h5
  have e6 : (n == 262) = false := by rw [beq_eq_false_iff_ne]; exact h6
  have e7 : (n == 320) = false := by rw [beq_eq_false_iff_ne]; exact h7
  have e8 : (n == 321) = false := by rw [beq_eq_false_iff_ne]; exact h8
  have e9 : (n == 322) = false := by rw [beq_eq_false_iff_ne]; exact h9
  have e10 : (n == 323) = false := by rw [beq_eq_false_iff_ne]; exact h10
  have e11 : (n == 324) = false := by rw [beq_eq_false_iff_ne]; exact h11
  have e12 : (n == 384) = false := by rw [beq_eq_false_iff_ne]; exact h12
  clear hU hS hv h0 h1 h2 h3 h4 h5 h6 h7 h8 h9 h10 h11 h12
  obtain ⟨R1, R2⟩ := two_rows w S Z38
  replace R1 := Lib.hid R1; replace R2 := Lib.hid R2
  have hB : Hid (Below w.heap.size w ((w.alloc (Obj.cells (cs S) 26)).alloc (Obj.cells (cs Z38) 26))) := by show Below _ _ _; exact (by repeat (first | (with_reducible first | exact Below.refl _ _ | assumption | exact Nat.le_refl _ | refine Below.drew ?_ | refine Below.alloc ?_ ?_ _ | refine Below.setCell ?_ ?_ _ | refine le_alloc ?_ | refine le_set ?_ | refine le_drew ?_ | refine below_step (by assumption) ?_ ?_ | refine le_below (by assumption) ?_) | (dsimp only; omega)))
  have hz : Hid (((w.alloc (Obj.cells (cs S) 26)).alloc (Obj.cells (cs Z38) 26)).heap.size = w.heap.size + 2) := by show _ = _; simp only [sz_alloc]
  go_enter Try.func19, Try.ntmps19
  go_wp2_with (refine wpList_load_row rfl 26 _ rfl w.heap.size rfl 26 (cs S) (0, 0) _ R1.out Try.underlying26 rfl (infoS _) ?_)
  refine (HA.out ((w.alloc (Obj.cells (cs S) 26)).alloc (Obj.cells (cs Z38) 26))).mono ?_; rintro e w1 ⟨rfl, hb⟩
  replace R2 := Lib.hid (R2.out.below hb (by rw [hz.out]; omega))
  replace hB := Lib.hid (below_step hb hB.out hB.out.size)
  clear hb hz R1
  go_wp2_with (first
    | (refine wpList_store_row rfl 26 _ _ rfl (w.heap.size + 1) (cs U) rfl rfl 26 (cs Z38) R2.out (infoS _) rfl (oneS _) ?_))
  refine bodyPost_ret (results_cell_row rfl _ _ (w.heap.size + 1) 26 (cs U) (0, 0) _ rfl (R2.out.setRow _) Try.underlying26 rfl (infoS _)) rfl ?_
  exact ⟨rfl, below_setRow hB.out (by omega) _⟩
theorem writer_c (S : Nat → Nat) (n : Int) (v : Nat) (hS : Hid (OkS S)) (hv : Hid (v < 18446744073709551616)) (w : World) : Calls Try.prog 19 #[.agg (cs S), .int .i64 n, .int .u64 v] w (RetS (wrF S n v) w) := by
  by_cases h0 : n = 1
  · subst h0; exact Write_1 S v hS hv w
  by_cases h1 : n = 2
  · subst h1; exact Write_2 S v hS hv w
  by_cases h2 : n = 3
  · subst h2; exact Write_3 S v hS hv w
  by_cases h3 : n = 256
  · subst h3; exact Write_256 S v hS hv w
  by_cases h4 : n = 260
  · subst h4; exact Write_260 S v hS hv w
  by_cases h5 : n = 261
  · subst h5; exact Write_261 S v hS hv w
  by_cases h6 : n = 262
  · subst h6; exact Write_262 S v hS hv w
  by_cases h7 : n = 320
  · subst h7; exact Write_320 S v hS hv w
  by_cases h8 : n = 321
  · subst h8; exact Write_321 S v hS hv w
  by_cases h9 : n = 322
  · subst h9; exact Write_322 S v hS hv w
  by_cases h10 : n = 323
  · subst h10; exact Write_323 S v hS hv w
  by_cases h11 : n = 324
  · subst h11; exact Write_324 S v hS hv w
  by_cases h12 : n = 384
  · subst h12; exact Write_384 S v hS hv w
  exact Write_o S n v hS hv h0 h1 h2 h3 h4 h5 h6 h7 h8 h9 h10 h11 h12 w
end Go.Proofs.Ytmlbobjbkbcabaa
