/- open. -/
import Derived.Test.YthhlcchofilimaaGreatDoorA2
namespace Go.Proofs.YthhlcchofilimaaGreatDoor
open Go.ChangeShapes Go.WideShapes Go.ChangeAt Go.RowKit Go.Sort Y
set_option linter.unusedVariables false
set_option linter.unusedSimpArgs false
/-- The registers by which pmp allows all. -/
def So : Nat → Nat := setN (setN (setN Z38 20 9223372036855300097) 22 31) 30 18014398509481983
theorem store_rowP {P : Program} {ops : Array Oper} {rest : List Oper} {o : Oper} {a : Act} {w : World} {Q : Exit → Act → World → Prop} (p : World → Prop) (hgd : o.guard = none) (ty : TypeId) (x y : Operand) (ho : o.op = .store ty x y)
    (g : Nat) (cells : Array Value) (hx : a.eval x = .pointer (some ⟨g, 0, none⟩)) (hy : a.eval y = .agg cells)
    (t : TypeId) (old : Array Value) (hg : w.heap[g]? = some (.cells old t (0, 0))) (hi : (P.info? ty).map (·.size) = some cells.size)
    (hold : old.size = cells.size) (h1 : cells.all (·.oneCell') = true) (hp : p (w.setRow g cells))
    (h : ∀ w', p w' → wpList P ops Q rest (a.put o.dst undef) w') : wpList P ops Q (o :: rest) a w := wpList_store_row hgd ty x y ho g cells hx hy t old hg hi hold h1 (h _ hp)
theorem gs_put {w : World} {L : List (Nat × (Nat → Nat))} {cb : Nat} {S T : Nat → Nat} {w1 : World} (h : Gs w ((cb, S) :: L) w1) (hl : ∀ p ∈ L, p.1 ≠ cb) (k : Nat) (u : Value) (hk : (cs S).setIfInBounds k u = cs T) : Gs w ((cb, T) :: L) (w1.setCell ⟨cb, k, none⟩ u) := by
  have h0 := h.2 (cb, S) (List.mem_cons_self ..)
  refine ⟨h.1.setCell h0.1 _, fun p hp => ?_⟩
  rcases List.mem_cons.1 hp with rfl | hp
  · exact ⟨h0.1, by rw [sz_set]; exact h0.2.1, by have := h0.2.2.set k u; rw [hk] at this; exact this⟩
  · have hq := h.2 p (List.mem_cons_of_mem _ hp)
    exact ⟨hq.1, by rw [sz_set]; exact hq.2.1, hq.2.2.set_ne (hl p hp).symm _ _⟩
def S1 : Nat → Nat := setN Z38 20 9223372036855300097
def S2 : Nat → Nat := setN S1 22 31
theorem S1_is : cs S1 = #[.int .u64 0, .int .u64 0, .int .u64 0, .int .u64 0, .int .u64 0, .int .u64 0, .int .u64 0, .int .u64 0, .int .u64 0, .int .u64 0, .int .u64 0, .int .u64 0, .int .u64 0, .int .u64 0, .int .u64 0, .int .u64 0, .int .u64 0, .int .u64 0, .int .u64 0, .int .u64 0, .int .u64 9223372036855300097, .int .u64 0, .int .u8 0, .int .u8 0, .int .u8 0, .int .u8 0, .int .u8 0, .int .u8 0, .int .u8 0, .int .u8 0, .int .u64 0, .int .u64 0, .int .u64 0, .int .u64 0, .int .u64 0, .int .u64 0, .int .u64 0, .int .u64 0] := by kernel_rfl
set_option maxRecDepth 100000 in
theorem open_c (w : World) : Calls Tryz.prog 10 #[] w (RetS So w) := by
  have H0 : Hid (Gs w [(w.heap.size + 1, S1), (w.heap.size, Z38)] (((w.alloc (Obj.cells (cs Z38) 27)).alloc (Obj.cells (cs Z38) 27)).setRow (w.heap.size + 1) (cs S1))) := by
    obtain ⟨r1, r2⟩ := two_rows w Z38 Z38
    refine ⟨below_setRow (by exact (by repeat (first | (with_reducible first | exact Below.refl _ _ | assumption | exact Nat.le_refl _ | refine Below.drew ?_ | refine Below.alloc ?_ ?_ _ | refine Below.setCell ?_ ?_ _ | refine le_alloc ?_ | refine le_set ?_ | refine le_drew ?_ | refine below_step (by assumption) ?_ ?_ | refine le_below (by assumption) ?_) | (dsimp only; omega)))) (by omega) _, fun p hp => ?_⟩
    rcases List.mem_cons.1 hp with rfl | hp
    · exact ⟨Nat.le_succ _, by rw [sz_setRow, sz_alloc, sz_alloc]; exact Nat.lt_succ_self _, r2.setRow _⟩
    · obtain rfl := List.mem_singleton.1 hp
      exact ⟨Nat.le_refl _, by rw [sz_setRow, sz_alloc, sz_alloc]; show w.heap.size < w.heap.size + 1 + 1; omega, r1.setRow_ne (by show w.heap.size + 1 ≠ w.heap.size; omega) _⟩
  have r2 := Lib.hid (two_rows w Z38 Z38).2
  obtain ⟨V, hV⟩ : ∃ V, cs S1 = V := ⟨_, rfl⟩
  have eV := S1_is.symm.trans hV
  have HI : Hid ((Tryz.prog.info? 27).map (·.size) = some V.size ∧ (cs Z38).size = V.size ∧ V.all (·.oneCell') = true) := by rw [← hV]; exact ⟨infoS _, rfl, oneS _⟩
  rw [hV] at H0
  have HV := Lib.hid hV
  clear hV
  go_enter Tryz.func10, Tryz.ntmps10
  go_upto_region 2 with (refine store_rowP (Gs w [(w.heap.size + 1, S1), (w.heap.size, Z38)]) rfl 27 _ _ rfl (w.heap.size + 1) V rfl rfl 27 (cs Z38) r2.out HI.out.1 HI.out.2.1 HI.out.2.2 H0.out ?_; rintro w1 H1; replace H1 := Lib.hid H1)
  clear H0 r2 HI
  have k1 : w1.cell? ⟨w.heap.size + 1, 22, none⟩ = some (.int .u8 0) := (H1.out.row (w.heap.size + 1) S1 (by simp)).cell 22
  have z1 := (H1.out.row (w.heap.size + 1) S1 (by simp)).fz 22
  have H2 : Hid (Gs w [(w.heap.size + 1, S2), (w.heap.size, Z38)] (w1.setCell ⟨w.heap.size + 1, 22, none⟩ (.int .u8 31))) := gs_put H1.out (by simp) 22 _ rfl
  go_upto_region 3 with fail
  clear k1 z1 H1
  generalize w1.setCell ⟨w.heap.size + 1, 22, none⟩ (.int .u8 31) = w2 at H2 ⊢
  have k1 : w2.cell? ⟨w.heap.size + 1, 30, none⟩ = some (.int .u64 0) := (H2.out.row (w.heap.size + 1) S2 (by simp)).cell 30
  have z1 := (H2.out.row (w.heap.size + 1) S2 (by simp)).fz 30
  have H3 : Hid (Gs w [(w.heap.size + 1, So), (w.heap.size, Z38)] (w2.setCell ⟨w.heap.size + 1, 30, none⟩ (.int .u64 18014398509481983))) := gs_put H2.out (by simp) 30 _ rfl
  go_upto_region 4 with fail
  clear k1 z1 H2
  generalize w2.setCell ⟨w.heap.size + 1, 30, none⟩ (.int .u64 18014398509481983) = w3 at H3 ⊢
  have r1 := Lib.hid (H3.out.row (w.heap.size + 1) So (by simp))
  have r2 := Lib.hid (H3.out.row w.heap.size Z38 (by simp))
  have HB := Lib.hid H3.out.1
  clear H3
  go_wp2_with (first
    | (refine wpList_load_row rfl 27 _ rfl (w.heap.size + 1) rfl 27 (cs So) (0, 0) _ r1.out Tryz.underlying27 rfl (infoS _) ?_)
    | (refine wpList_store_row rfl 27 _ _ rfl w.heap.size (cs So) rfl rfl 27 (cs Z38) r2.out (infoS _) rfl (oneS _) ?_))
  refine bodyPost_ret (results_cell_row rfl _ _ w.heap.size 27 (cs So) (0, 0) _ rfl (r2.out.setRow _) Tryz.underlying27 rfl (infoS _)) rfl ?_
  exact ⟨rfl, below_setRow HB.out (Nat.le_refl _) _⟩
end Go.Proofs.YthhlcchofilimaaGreatDoor
