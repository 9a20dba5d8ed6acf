/- The answers that the document fixes. -/
import Derived.Test.YtjkpcmhepeekmaaDoorB7
import Derived.KernelRfl
namespace Go.Proofs.YtjkpcmhepeekmaaDoor
open Go.ChangeShapes Go.WideShapes Go.ChangeAt Go.RowKit
set_option linter.unusedVariables false
set_option linter.unusedSimpArgs false
def one (x k : Nat) : Nat := bif Nat.beq k 0 then x else 0
def two (x k : Nat) : Nat := bif Nat.beq k 1 then x else 0
theorem one_c : Hid (OkC (one 25)) := fun k => by unfold one; cases Nat.beq k 0 <;> simp
theorem two_c : Hid (OkC (two 128)) := fun k => by unfold two; cases Nat.beq k 1 <;> simp
theorem one_a : Hid (OkA (one 536870912)) := fun k => by unfold one; cases Nat.beq k 0 <;> simp
theorem fix_1 (w : World) (hG : Hid (G w)) : Calls Tryd.prog 8 #[.agg #[.int .u8 25, .int .u8 0, .int .u8 0, .int .u8 0, .int .u8 0, .int .u8 0, .int .u8 0, .int .u8 0], .agg #[.int .u64 536870912, .int .u64 0, .int .u64 0, .int .u64 0, .int .u64 0, .int .u64 0, .int .u64 0, .int .u64 0], .int .i64 0] w (RetR 2147483648 2147483655 true w) := by
  have h := Range_c (one 25) (one 536870912) 0 (by decide) one_c one_a w hG
  rw [show rA (one 25) (one 536870912) 0 = 2147483648 by decide +kernel, show rB (one 25) (one 536870912) 0 = 2147483655 by decide +kernel, show rOk (one 25) (one 536870912) 0 = true by decide +kernel] at h
  exact h
theorem fix_2 (w : World) : Calls Tryd.prog 13 #[.agg #[.int .u8 0, .int .u8 128, .int .u8 0, .int .u8 0, .int .u8 0, .int .u8 0, .int .u8 0, .int .u8 0], .int .u64 2047] w (RetA #[.int .u8 159, .int .u8 128, .int .u8 0, .int .u8 0, .int .u8 0, .int .u8 0, .int .u8 0, .int .u8 0] w) := by
  have h := Config_c (two 128) 2047 two_c (by show _ < _; decide) w
  rw [show u8s (cfgF (two 128) 2047) = #[.int .u8 159, .int .u8 128, .int .u8 0, .int .u8 0, .int .u8 0, .int .u8 0, .int .u8 0, .int .u8 0] by kernel_rfl] at h
  exact h
theorem fix_3 (w : World) : Calls Tryd.prog 15 #[.agg #[.int .u8 25, .int .u8 0, .int .u8 0, .int .u8 0, .int .u8 0, .int .u8 0, .int .u8 0, .int .u8 0], .agg #[.int .u64 536870912, .int .u64 0, .int .u64 0, .int .u64 0, .int .u64 0, .int .u64 0, .int .u64 0, .int .u64 0], .int .i64 2, .int .u64 18446744073709551615] w (RetA #[.int .u64 536870912, .int .u64 0, .int .u64 18014398509481983, .int .u64 0, .int .u64 0, .int .u64 0, .int .u64 0, .int .u64 0] w) := by
  have h := Address_c (one 25) (one 536870912) 2 18446744073709551615 (by decide) one_c one_a (by show _ < _; decide) w
  rw [show u64s (adrF (one 25) (one 536870912) 2 18446744073709551615) = #[.int .u64 536870912, .int .u64 0, .int .u64 18014398509481983, .int .u64 0, .int .u64 0, .int .u64 0, .int .u64 0, .int .u64 0] by kernel_rfl] at h
  exact h
theorem fix_4 (w : World) (hG : Hid (G w)) : Calls Tryd.prog 11 #[.agg #[.int .u8 25, .int .u8 0, .int .u8 0, .int .u8 0, .int .u8 0, .int .u8 0, .int .u8 0, .int .u8 0], .agg #[.int .u64 536870912, .int .u64 0, .int .u64 0, .int .u64 0, .int .u64 0, .int .u64 0, .int .u64 0, .int .u64 0], .int .i64 1, .int .i64 1, .int .u64 2147483648, .int .i64 8] w (RetB true w) := by
  have h := Check_c (one 25) (one 536870912) 1 1 2147483648 8 one_c one_a (by show _ < _; decide) w hG
  rw [show chkB (one 25) (one 536870912) 1 1 2147483648 8 = true by decide +kernel] at h
  exact h
theorem fix_5 (w : World) (hG : Hid (G w)) : Calls Tryd.prog 11 #[.agg #[.int .u8 25, .int .u8 0, .int .u8 0, .int .u8 0, .int .u8 0, .int .u8 0, .int .u8 0, .int .u8 0], .agg #[.int .u64 536870912, .int .u64 0, .int .u64 0, .int .u64 0, .int .u64 0, .int .u64 0, .int .u64 0, .int .u64 0], .int .i64 1, .int .i64 2, .int .u64 2147483648, .int .i64 8] w (RetB false w) := by
  have h := Check_c (one 25) (one 536870912) 1 2 2147483648 8 one_c one_a (by show _ < _; decide) w hG
  rw [show chkB (one 25) (one 536870912) 1 2 2147483648 8 = false by decide +kernel] at h
  exact h
set_option maxRecDepth 100000 in
set_option maxHeartbeats 1000000 in
theorem fixed_c (w : World) (hG : Hid (G w)) : Calls Tryd.prog 10 #[] w (RetB true w) := by
  have r1 := Lib.hid (row_old (row_new w #[.int .u8 25, .int .u8 0, .int .u8 0, .int .u8 0, .int .u8 0, .int .u8 0, .int .u8 0, .int .u8 0] 22) (Obj.cells #[.int .u64 536870912, .int .u64 0, .int .u64 0, .int .u64 0, .int .u64 0, .int .u64 0, .int .u64 0, .int .u64 0] 24))
  have r2 : Hid (Row ((w.alloc (Obj.cells #[.int .u8 25, .int .u8 0, .int .u8 0, .int .u8 0, .int .u8 0, .int .u8 0, .int .u8 0, .int .u8 0] 22)).alloc (Obj.cells #[.int .u64 536870912, .int .u64 0, .int .u64 0, .int .u64 0, .int .u64 0, .int .u64 0, .int .u64 0, .int .u64 0] 24)) (w.heap.size + 1) 24 #[.int .u64 536870912, .int .u64 0, .int .u64 0, .int .u64 0, .int .u64 0, .int .u64 0, .int .u64 0, .int .u64 0]) := by
    have := row_new (w.alloc (Obj.cells #[.int .u8 25, .int .u8 0, .int .u8 0, .int .u8 0, .int .u8 0, .int .u8 0, .int .u8 0, .int .u8 0] 22)) #[.int .u64 536870912, .int .u64 0, .int .u64 0, .int .u64 0, .int .u64 0, .int .u64 0, .int .u64 0, .int .u64 0] 24
    rw [sz_alloc] at this; exact this
  have hG0 : Hid (G ((w.alloc (Obj.cells #[.int .u8 25, .int .u8 0, .int .u8 0, .int .u8 0, .int .u8 0, .int .u8 0, .int .u8 0, .int .u8 0] 22)).alloc (Obj.cells #[.int .u64 536870912, .int .u64 0, .int .u64 0, .int .u64 0, .int .u64 0, .int .u64 0, .int .u64 0, .int .u64 0] 24))) := g_alloc (g_alloc hG.out _) _
  have hB : Hid (Below w.heap.size w ((w.alloc (Obj.cells #[.int .u8 25, .int .u8 0, .int .u8 0, .int .u8 0, .int .u8 0, .int .u8 0, .int .u8 0, .int .u8 0] 22)).alloc (Obj.cells #[.int .u64 536870912, .int .u64 0, .int .u64 0, .int .u64 0, .int .u64 0, .int .u64 0, .int .u64 0, .int .u64 0] 24))) := by show Below _ _ _; exact (by repeat (first | (with_reducible first | exact Below.refl _ _ | assumption | exact Nat.le_refl _ | refine Below.drew ?_ | refine Below.alloc ?_ ?_ _ | refine Below.setCell ?_ ?_ _ | refine le_alloc ?_ | refine le_set ?_ | refine le_drew ?_ | refine below_step (by assumption) ?_ ?_ | refine le_below (by assumption) ?_) | (dsimp only; omega)))
  have sz0 : ((w.alloc (Obj.cells #[.int .u8 25, .int .u8 0, .int .u8 0, .int .u8 0, .int .u8 0, .int .u8 0, .int .u8 0, .int .u8 0] 22)).alloc (Obj.cells #[.int .u64 536870912, .int .u64 0, .int .u64 0, .int .u64 0, .int .u64 0, .int .u64 0, .int .u64 0, .int .u64 0] 24)).heap.size = w.heap.size + 2 := by simp only [sz_alloc]
  have SZ := Lib.hid sz0
  clear sz0
  go_enter Tryd.func10, Tryd.ntmps10
  go_wp2_with fail
  refine (fix_1 _ hG0).mono ?_; rintro e w1 ⟨rfl, hb⟩
  replace r1 := Lib.hid (r1.out.below hb (by rw [SZ.out]; omega))
  replace r2 := Lib.hid (r2.out.below hb (by rw [SZ.out]; omega))
  replace hG0 := Lib.hid (g_below hG0.out hb hG0.out.1)
  replace hB := Lib.hid (below_step hb hB.out hB.out.size)
  have s1 : Hid (w.heap.size + 2 ≤ w1.heap.size) := by have := hb.size; rw [SZ.out] at this; exact this
  clear hb SZ
  go_wp2_with fail
  refine (fix_2 _).mono ?_; rintro e w2 ⟨rfl, hb⟩
  replace r1 := Lib.hid (r1.out.below hb (by have := s1.out; omega))
  replace r2 := Lib.hid (r2.out.below hb (by have := s1.out; omega))
  replace hG0 := Lib.hid (g_below hG0.out hb hG0.out.1)
  replace hB := Lib.hid (below_step hb hB.out hB.out.size)
  replace s1 : Hid (w.heap.size + 2 ≤ w2.heap.size) := Nat.le_trans s1.out hb.size
  clear hb
  have r6 := Lib.hid (row_new w2 #[.int .u8 159, .int .u8 128, .int .u8 0, .int .u8 0, .int .u8 0, .int .u8 0, .int .u8 0, .int .u8 0] 22)
  replace r1 := Lib.hid (row_old r1.out (Obj.cells #[.int .u8 159, .int .u8 128, .int .u8 0, .int .u8 0, .int .u8 0, .int .u8 0, .int .u8 0, .int .u8 0] 22))
  replace r2 := Lib.hid (row_old r2.out (Obj.cells #[.int .u8 159, .int .u8 128, .int .u8 0, .int .u8 0, .int .u8 0, .int .u8 0, .int .u8 0, .int .u8 0] 22))
  replace hG0 := Lib.hid (g_alloc hG0.out (Obj.cells #[.int .u8 159, .int .u8 128, .int .u8 0, .int .u8 0, .int .u8 0, .int .u8 0, .int .u8 0, .int .u8 0] 22))
  replace hB := Lib.hid (hB.out.alloc hB.out.size (Obj.cells #[.int .u8 159, .int .u8 128, .int .u8 0, .int .u8 0, .int .u8 0, .int .u8 0, .int .u8 0, .int .u8 0] 22))
  have info8 : (Tryd.prog.info? 22).map (·.size) = some (#[.int .u8 25, .int .u8 0, .int .u8 0, .int .u8 0, .int .u8 0, .int .u8 0, .int .u8 0, .int .u8 0] : Array Value).size := by kernel_rfl
  have info9 : (Tryd.prog.info? 24).map (·.size) = some (#[.int .u64 536870912, .int .u64 0, .int .u64 0, .int .u64 0, .int .u64 0, .int .u64 0, .int .u64 0, .int .u64 0] : Array Value).size := by kernel_rfl
  have I8 := Lib.hid info8
  have I9 := Lib.hid info9
  clear info8 info9
  go_wp2_with (first
    | (refine wpList_load_row rfl 22 _ rfl w.heap.size rfl 22 #[.int .u8 25, .int .u8 0, .int .u8 0, .int .u8 0, .int .u8 0, .int .u8 0, .int .u8 0, .int .u8 0] (0, 0) _ r1.out Tryd.underlying22 rfl I8.out ?_)
    | (refine wpList_load_row rfl 24 _ rfl (w.heap.size + 1) rfl 24 #[.int .u64 536870912, .int .u64 0, .int .u64 0, .int .u64 0, .int .u64 0, .int .u64 0, .int .u64 0, .int .u64 0] (0, 0) _ r2.out Tryd.underlying24 rfl I9.out ?_))
  refine (fix_3 _).mono ?_; rintro e w3 ⟨rfl, hb⟩
  replace r1 := Lib.hid (r1.out.below hb (by rw [sz_alloc]; have := s1.out; omega))
  replace r2 := Lib.hid (r2.out.below hb (by rw [sz_alloc]; have := s1.out; omega))
  replace r6 := Lib.hid (r6.out.below hb (by rw [sz_alloc]; omega))
  replace hG0 := Lib.hid (g_below hG0.out hb hG0.out.1)
  replace hB := Lib.hid (below_step hb hB.out hB.out.size)
  have s2 : Hid (w2.heap.size + 1 ≤ w3.heap.size) := by have := hb.size; rw [sz_alloc] at this; exact this
  clear hb
  have r7 := Lib.hid (row_new w3 #[.int .u64 536870912, .int .u64 0, .int .u64 18014398509481983, .int .u64 0, .int .u64 0, .int .u64 0, .int .u64 0, .int .u64 0] 24)
  replace r1 := Lib.hid (row_old r1.out (Obj.cells #[.int .u64 536870912, .int .u64 0, .int .u64 18014398509481983, .int .u64 0, .int .u64 0, .int .u64 0, .int .u64 0, .int .u64 0] 24))
  replace r2 := Lib.hid (row_old r2.out (Obj.cells #[.int .u64 536870912, .int .u64 0, .int .u64 18014398509481983, .int .u64 0, .int .u64 0, .int .u64 0, .int .u64 0, .int .u64 0] 24))
  replace r6 := Lib.hid (row_old r6.out (Obj.cells #[.int .u64 536870912, .int .u64 0, .int .u64 18014398509481983, .int .u64 0, .int .u64 0, .int .u64 0, .int .u64 0, .int .u64 0] 24))
  replace hG0 := Lib.hid (g_alloc hG0.out (Obj.cells #[.int .u64 536870912, .int .u64 0, .int .u64 18014398509481983, .int .u64 0, .int .u64 0, .int .u64 0, .int .u64 0, .int .u64 0] 24))
  replace hB := Lib.hid (hB.out.alloc hB.out.size (Obj.cells #[.int .u64 536870912, .int .u64 0, .int .u64 18014398509481983, .int .u64 0, .int .u64 0, .int .u64 0, .int .u64 0, .int .u64 0] 24))
  have u1 : w.heap.size < w3.heap.size := by have := s1.out; have := s2.out; omega
  have u2 : w.heap.size + 1 < w3.heap.size := by have := s1.out; have := s2.out; omega
  have c0 : (w3.alloc (Obj.cells #[.int .u64 536870912, .int .u64 0, .int .u64 18014398509481983, .int .u64 0, .int .u64 0, .int .u64 0, .int .u64 0, .int .u64 0] 24)).cell? ⟨w.heap.size, 0, none⟩ = some (.int .u8 25) := r1.out.cell 0; have c1 : (w3.alloc (Obj.cells #[.int .u64 536870912, .int .u64 0, .int .u64 18014398509481983, .int .u64 0, .int .u64 0, .int .u64 0, .int .u64 0, .int .u64 0] 24)).cell? ⟨w.heap.size, 1, none⟩ = some (.int .u8 0) := r1.out.cell 1; have c2 : (w3.alloc (Obj.cells #[.int .u64 536870912, .int .u64 0, .int .u64 18014398509481983, .int .u64 0, .int .u64 0, .int .u64 0, .int .u64 0, .int .u64 0] 24)).cell? ⟨w.heap.size, 2, none⟩ = some (.int .u8 0) := r1.out.cell 2; have c3 : (w3.alloc (Obj.cells #[.int .u64 536870912, .int .u64 0, .int .u64 18014398509481983, .int .u64 0, .int .u64 0, .int .u64 0, .int .u64 0, .int .u64 0] 24)).cell? ⟨w.heap.size, 3, none⟩ = some (.int .u8 0) := r1.out.cell 3; have c4 : (w3.alloc (Obj.cells #[.int .u64 536870912, .int .u64 0, .int .u64 18014398509481983, .int .u64 0, .int .u64 0, .int .u64 0, .int .u64 0, .int .u64 0] 24)).cell? ⟨w.heap.size, 4, none⟩ = some (.int .u8 0) := r1.out.cell 4; have c5 : (w3.alloc (Obj.cells #[.int .u64 536870912, .int .u64 0, .int .u64 18014398509481983, .int .u64 0, .int .u64 0, .int .u64 0, .int .u64 0, .int .u64 0] 24)).cell? ⟨w.heap.size, 5, none⟩ = some (.int .u8 0) := r1.out.cell 5; have c6 : (w3.alloc (Obj.cells #[.int .u64 536870912, .int .u64 0, .int .u64 18014398509481983, .int .u64 0, .int .u64 0, .int .u64 0, .int .u64 0, .int .u64 0] 24)).cell? ⟨w.heap.size, 6, none⟩ = some (.int .u8 0) := r1.out.cell 6; have c7 : (w3.alloc (Obj.cells #[.int .u64 536870912, .int .u64 0, .int .u64 18014398509481983, .int .u64 0, .int .u64 0, .int .u64 0, .int .u64 0, .int .u64 0] 24)).cell? ⟨w.heap.size, 7, none⟩ = some (.int .u8 0) := r1.out.cell 7
  have a0 : (w3.alloc (Obj.cells #[.int .u64 536870912, .int .u64 0, .int .u64 18014398509481983, .int .u64 0, .int .u64 0, .int .u64 0, .int .u64 0, .int .u64 0] 24)).cell? ⟨w.heap.size + 1, 0, none⟩ = some (.int .u64 536870912) := r2.out.cell 0; have a1 : (w3.alloc (Obj.cells #[.int .u64 536870912, .int .u64 0, .int .u64 18014398509481983, .int .u64 0, .int .u64 0, .int .u64 0, .int .u64 0, .int .u64 0] 24)).cell? ⟨w.heap.size + 1, 1, none⟩ = some (.int .u64 0) := r2.out.cell 1; have a2 : (w3.alloc (Obj.cells #[.int .u64 536870912, .int .u64 0, .int .u64 18014398509481983, .int .u64 0, .int .u64 0, .int .u64 0, .int .u64 0, .int .u64 0] 24)).cell? ⟨w.heap.size + 1, 2, none⟩ = some (.int .u64 0) := r2.out.cell 2; have a3 : (w3.alloc (Obj.cells #[.int .u64 536870912, .int .u64 0, .int .u64 18014398509481983, .int .u64 0, .int .u64 0, .int .u64 0, .int .u64 0, .int .u64 0] 24)).cell? ⟨w.heap.size + 1, 3, none⟩ = some (.int .u64 0) := r2.out.cell 3; have a4 : (w3.alloc (Obj.cells #[.int .u64 536870912, .int .u64 0, .int .u64 18014398509481983, .int .u64 0, .int .u64 0, .int .u64 0, .int .u64 0, .int .u64 0] 24)).cell? ⟨w.heap.size + 1, 4, none⟩ = some (.int .u64 0) := r2.out.cell 4; have a5 : (w3.alloc (Obj.cells #[.int .u64 536870912, .int .u64 0, .int .u64 18014398509481983, .int .u64 0, .int .u64 0, .int .u64 0, .int .u64 0, .int .u64 0] 24)).cell? ⟨w.heap.size + 1, 5, none⟩ = some (.int .u64 0) := r2.out.cell 5; have a6 : (w3.alloc (Obj.cells #[.int .u64 536870912, .int .u64 0, .int .u64 18014398509481983, .int .u64 0, .int .u64 0, .int .u64 0, .int .u64 0, .int .u64 0] 24)).cell? ⟨w.heap.size + 1, 6, none⟩ = some (.int .u64 0) := r2.out.cell 6; have a7 : (w3.alloc (Obj.cells #[.int .u64 536870912, .int .u64 0, .int .u64 18014398509481983, .int .u64 0, .int .u64 0, .int .u64 0, .int .u64 0, .int .u64 0] 24)).cell? ⟨w.heap.size + 1, 7, none⟩ = some (.int .u64 0) := r2.out.cell 7
  go_wp2_with fail
  refine (fix_4 _ hG0).mono ?_; rintro e w4 ⟨rfl, hb⟩
  clear c0 c1 c2 c3 c4 c5 c6 c7 a0 a1 a2 a3 a4 a5 a6 a7
  have S3 : Hid (w3.heap.size + 1 ≤ w4.heap.size) := by have := hb.size; rw [sz_alloc] at this; exact this
  replace r1 := Lib.hid (r1.out.below hb (by rw [sz_alloc]; omega))
  replace r2 := Lib.hid (r2.out.below hb (by rw [sz_alloc]; omega))
  replace r6 := Lib.hid (r6.out.below hb (by rw [sz_alloc]; have := s2.out; omega))
  replace r7 := Lib.hid (r7.out.below hb (by rw [sz_alloc]; omega))
  replace hG0 := Lib.hid (g_below hG0.out hb hG0.out.1)
  replace hB := Lib.hid (below_step hb hB.out hB.out.size)
  clear hb
  have c0 : (w4).cell? ⟨w.heap.size, 0, none⟩ = some (.int .u8 25) := r1.out.cell 0; have c1 : (w4).cell? ⟨w.heap.size, 1, none⟩ = some (.int .u8 0) := r1.out.cell 1; have c2 : (w4).cell? ⟨w.heap.size, 2, none⟩ = some (.int .u8 0) := r1.out.cell 2; have c3 : (w4).cell? ⟨w.heap.size, 3, none⟩ = some (.int .u8 0) := r1.out.cell 3; have c4 : (w4).cell? ⟨w.heap.size, 4, none⟩ = some (.int .u8 0) := r1.out.cell 4; have c5 : (w4).cell? ⟨w.heap.size, 5, none⟩ = some (.int .u8 0) := r1.out.cell 5; have c6 : (w4).cell? ⟨w.heap.size, 6, none⟩ = some (.int .u8 0) := r1.out.cell 6; have c7 : (w4).cell? ⟨w.heap.size, 7, none⟩ = some (.int .u8 0) := r1.out.cell 7
  have a0 : (w4).cell? ⟨w.heap.size + 1, 0, none⟩ = some (.int .u64 536870912) := r2.out.cell 0; have a1 : (w4).cell? ⟨w.heap.size + 1, 1, none⟩ = some (.int .u64 0) := r2.out.cell 1; have a2 : (w4).cell? ⟨w.heap.size + 1, 2, none⟩ = some (.int .u64 0) := r2.out.cell 2; have a3 : (w4).cell? ⟨w.heap.size + 1, 3, none⟩ = some (.int .u64 0) := r2.out.cell 3; have a4 : (w4).cell? ⟨w.heap.size + 1, 4, none⟩ = some (.int .u64 0) := r2.out.cell 4; have a5 : (w4).cell? ⟨w.heap.size + 1, 5, none⟩ = some (.int .u64 0) := r2.out.cell 5; have a6 : (w4).cell? ⟨w.heap.size + 1, 6, none⟩ = some (.int .u64 0) := r2.out.cell 6; have a7 : (w4).cell? ⟨w.heap.size + 1, 7, none⟩ = some (.int .u64 0) := r2.out.cell 7
  go_wp2_with fail
  refine (fix_5 _ hG0).mono ?_; rintro e w5 ⟨rfl, hb⟩
  clear c0 c1 c2 c3 c4 c5 c6 c7 a0 a1 a2 a3 a4 a5 a6 a7
  have k1 : w5.cell? ⟨w2.heap.size, 0, none⟩ = some (Value.int .u8 159) := (r6.out.below hb (by have := s2.out; have := S3.out; omega)).cell 0
  have k2 : w5.cell? ⟨w2.heap.size, 1, none⟩ = some (Value.int .u8 128) := (r6.out.below hb (by have := s2.out; have := S3.out; omega)).cell 1
  have k3 : w5.cell? ⟨w3.heap.size, 2, none⟩ = some (Value.int .u64 18014398509481983) := (r7.out.below hb (by have := S3.out; omega)).cell 2
  have k4 : w5.cell? ⟨w3.heap.size, 0, none⟩ = some (Value.int .u64 536870912) := (r7.out.below hb (by have := S3.out; omega)).cell 0
  have k5 : w5.cell? ⟨w.heap.size + 1, 0, none⟩ = some (Value.int .u64 536870912) := (r2.out.below hb (by have := S3.out; omega)).cell 0
  replace hB := Lib.hid (below_step hb hB.out hB.out.size)
  clear hb r1 r2 r6 r7 hG0
  go_wp2_with fail
  go_ret
  exact retB_mk rfl hB.out
end Go.Proofs.YtjkpcmhepeekmaaDoor
