/- The answers that the document fixes. -/
import Derived.Test.YtmlbobjbkbcabaaC0
import Derived.KernelRfl
namespace Go.Proofs.Ytmlbobjbkbcabaa
open Go.ChangeShapes Go.WideShapes Go.ChangeAt Go.RowKit Go.Sort P
set_option linter.unusedVariables false
set_option linter.unusedSimpArgs false
def W1 : Nat → Nat := wrF rstF 768 18446744073709551615
def W2 : Nat → Nat := wrF W1 836 4095
theorem W1_ok : Hid (OkS W1) := wr_ok rst_ok _ _ (by decide)
theorem W2_ok : Hid (OkS W2) := wr_ok W1_ok.out _ _ (by decide)
theorem W_vals : rdF rstF 768 0 0 = 42949672960 ∧ rdF W1 768 0 0 = 9223372079812737450 ∧ rdF W2 836 2184 0 = 2730 ∧ mayF W1 3 944 true = true ∧ mayF W1 3 3860 true = false ∧ mayF W1 1 768 false = false := by
  refine ⟨?_, ?_, ?_, ?_, ?_, ?_⟩ <;> decide +kernel
set_option maxRecDepth 100000 in
theorem awake_c (w : World) : Calls Try.prog 11 #[] w (RetB true w) := by
  have h1 := Lib.hid (fun u => reset_c u)
  have h2 : Hid (∀ u, Calls Try.prog 18 #[.agg (cs rstF), .int .i64 768, .int .u64 18446744073709551615] u (RetS W1 u)) := fun u => write_c rstF 768 18446744073709551615 rst_ok (by show _ < _; decide) u
  have h3 : Hid (∀ u, Calls Try.prog 18 #[.agg (cs W1), .int .i64 836, .int .u64 4095] u (RetS W2 u)) := fun u => write_c W1 836 4095 W1_ok (by show _ < _; decide) u
  obtain ⟨v1, v2, v3, v4, v5, v6⟩ := W_vals
  have r1 : Hid (∀ u, Calls Try.prog 14 #[.agg (cs rstF), .int .i64 768, .int .u64 0, .int .u64 0] u (RetU 42949672960 u)) := fun u => by have := read_c rstF 768 0 0 rst_ok (by show _ < _; decide) u; rw [v1] at this; exact this
  have r2 : Hid (∀ u, Calls Try.prog 14 #[.agg (cs W1), .int .i64 768, .int .u64 0, .int .u64 0] u (RetU 9223372079812737450 u)) := fun u => by have := read_c W1 768 0 0 W1_ok (by show _ < _; decide) u; rw [v2] at this; exact this
  have r3 : Hid (∀ u, Calls Try.prog 14 #[.agg (cs W2), .int .i64 836, .int .u64 2184, .int .u64 0] u (RetU 2730 u)) := fun u => by have := read_c W2 836 2184 0 W2_ok (by show _ < _; decide) u; rw [v3] at this; exact this
  have r4 : Hid (∀ u, Calls Try.prog 12 #[.agg (cs W1), .int .i64 3, .int .i64 944, .bool true] u (RetB true u)) := fun u => by have := may_c W1 3 944 true W1_ok u; rw [v4] at this; exact this
  have r5 : Hid (∀ u, Calls Try.prog 12 #[.agg (cs W1), .int .i64 3, .int .i64 3860, .bool true] u (RetB false u)) := fun u => by have := may_c W1 3 3860 true W1_ok u; rw [v5] at this; exact this
  have r6 : Hid (∀ u, Calls Try.prog 12 #[.agg (cs W1), .int .i64 1, .int .i64 768, .bool false] u (RetB false u)) := fun u => by have := may_c W1 1 768 false W1_ok u; rw [v6] at this; exact this
  clear v1 v2 v3 v4 v5 v6
  generalize W2 = w2F at *
  generalize W1 = w1F at *
  generalize rstF = w0F at *
  have HB : Hid (Below w.heap.size w w) := Below.refl _ _
  go_enter Try.func11, Try.ntmps11
  go_wp2_with fail
  refine (h1.out _).mono ?_; rintro e w1 ⟨rfl, hb⟩
  replace HB := Lib.hid (below_step hb HB.out HB.out.size)
  clear hb
  go_wp2_with fail
  refine (h2.out _).mono ?_; rintro e w2 ⟨rfl, hb⟩
  replace HB := Lib.hid (below_step hb HB.out HB.out.size)
  clear hb
  have R1 : Hid (Row ((w2.alloc (Obj.cells (cs Z38) 26)).setRow w2.heap.size (cs w1F)) w2.heap.size 26 (cs w1F)) := (row_new _ _ _).setRow _
  replace HB : Hid (Below w.heap.size w ((w2.alloc (Obj.cells (cs Z38) 26)).setRow w2.heap.size (cs w1F))) := below_setRow (HB.out.alloc HB.out.size _) HB.out.size _
  have hz : ((w2.alloc (Obj.cells (cs Z38) 26)).setRow w2.heap.size (cs w1F)).heap.size = w2.heap.size + 1 := by rw [sz_setRow, sz_alloc]
  have HZ := Lib.hid hz
  clear hz
  go_wp2_with (first | (refine wpList_store_row rfl 26 _ _ rfl w2.heap.size (cs w1F) rfl rfl 26 (cs Z38) (row_new _ _ _) (infoS _) rfl (oneS _) ?_) | (refine wpList_load_row rfl 26 _ rfl w2.heap.size rfl 26 (cs w1F) (0, 0) _ R1.out Try.underlying26 rfl (infoS _) ?_))
  refine (h3.out ((w2.alloc (Obj.cells (cs Z38) 26)).setRow w2.heap.size (cs w1F))).mono ?_; rintro e w3 ⟨rfl, hb⟩
  replace R1 := Lib.hid (R1.out.below hb (by rw [HZ.out]; omega))
  replace HB := Lib.hid (below_step hb HB.out HB.out.size)
  have HS : Hid (w2.heap.size + 1 ≤ w3.heap.size) := by have := hb.size; rw [HZ.out] at this; exact this
  clear hb HZ
  have R2 : Hid (Row ((w3.alloc (Obj.cells (cs Z38) 26)).setRow w3.heap.size (cs w2F)) w3.heap.size 26 (cs w2F)) := (row_new _ _ _).setRow _
  replace R1 : Hid (Row ((w3.alloc (Obj.cells (cs Z38) 26)).setRow w3.heap.size (cs w2F)) w2.heap.size 26 (cs w1F)) := (row_old R1.out _).setRow_ne (by have := HS.out; omega) _
  replace HB : Hid (Below w.heap.size w ((w3.alloc (Obj.cells (cs Z38) 26)).setRow w3.heap.size (cs w2F))) := below_setRow (HB.out.alloc HB.out.size _) HB.out.size _
  have hz : ((w3.alloc (Obj.cells (cs Z38) 26)).setRow w3.heap.size (cs w2F)).heap.size = w3.heap.size + 1 := by rw [sz_setRow, sz_alloc]
  have HZ : Hid (w2.heap.size + 2 ≤ ((w3.alloc (Obj.cells (cs Z38) 26)).setRow w3.heap.size (cs w2F)).heap.size ∧ w3.heap.size < ((w3.alloc (Obj.cells (cs Z38) 26)).setRow w3.heap.size (cs w2F)).heap.size) := by rw [hz]; exact ⟨by have := HS.out; omega, by omega⟩
  clear hz
  go_wp2_with ((refine wpList_store_row rfl 26 _ _ rfl w3.heap.size (cs w2F) rfl rfl 26 (cs Z38) (row_new _ _ _) (infoS _) rfl (oneS _) ?_))
  refine (h1.out ((w3.alloc (Obj.cells (cs Z38) 26)).setRow w3.heap.size (cs w2F))).mono ?_; rintro e w4 ⟨rfl, hb⟩
  replace R1 := Lib.hid (R1.out.below hb (by have := HZ.out; omega))
  replace R2 := Lib.hid (R2.out.below hb (by have := HZ.out; omega))
  replace HB := Lib.hid (below_step hb HB.out HB.out.size)
  replace HZ : Hid (w2.heap.size + 2 ≤ w4.heap.size ∧ w3.heap.size < w4.heap.size) := ⟨Nat.le_trans HZ.out.1 hb.size, Nat.lt_of_lt_of_le HZ.out.2 hb.size⟩
  clear hb
  go_wp2_with (first | (refine wpList_load_rowG rfl 26 _ rfl w2.heap.size rfl 26 (cs w1F) (0, 0) _ R1.out Try.underlying26 rfl (infoS _) ?_) | (refine wpList_load_rowG rfl 26 _ rfl w3.heap.size rfl 26 (cs w2F) (0, 0) _ R2.out Try.underlying26 rfl (infoS _) ?_))
  refine (r1.out _).mono ?_; rintro e w5 ⟨rfl, hb⟩
  replace R1 := Lib.hid (R1.out.below hb (by have := HZ.out; omega))
  replace R2 := Lib.hid (R2.out.below hb (by have := HZ.out; omega))
  replace HB := Lib.hid (below_step hb HB.out HB.out.size)
  replace HZ : Hid (w2.heap.size + 2 ≤ w5.heap.size ∧ w3.heap.size < w5.heap.size) := ⟨Nat.le_trans HZ.out.1 hb.size, Nat.lt_of_lt_of_le HZ.out.2 hb.size⟩
  clear hb
  go_wp2_with (first | (refine wpList_load_rowG rfl 26 _ rfl w2.heap.size rfl 26 (cs w1F) (0, 0) _ R1.out Try.underlying26 rfl (infoS _) ?_) | (refine wpList_load_rowG rfl 26 _ rfl w3.heap.size rfl 26 (cs w2F) (0, 0) _ R2.out Try.underlying26 rfl (infoS _) ?_))
  refine (r2.out _).mono ?_; rintro e w6 ⟨rfl, hb⟩
  replace R1 := Lib.hid (R1.out.below hb (by have := HZ.out; omega))
  replace R2 := Lib.hid (R2.out.below hb (by have := HZ.out; omega))
  replace HB := Lib.hid (below_step hb HB.out HB.out.size)
  replace HZ : Hid (w2.heap.size + 2 ≤ w6.heap.size ∧ w3.heap.size < w6.heap.size) := ⟨Nat.le_trans HZ.out.1 hb.size, Nat.lt_of_lt_of_le HZ.out.2 hb.size⟩
  clear hb
  go_wp2_with (first | (refine wpList_load_rowG rfl 26 _ rfl w2.heap.size rfl 26 (cs w1F) (0, 0) _ R1.out Try.underlying26 rfl (infoS _) ?_) | (refine wpList_load_rowG rfl 26 _ rfl w3.heap.size rfl 26 (cs w2F) (0, 0) _ R2.out Try.underlying26 rfl (infoS _) ?_))
  refine (r3.out _).mono ?_; rintro e w7 ⟨rfl, hb⟩
  replace R1 := Lib.hid (R1.out.below hb (by have := HZ.out; omega))
  replace R2 := Lib.hid (R2.out.below hb (by have := HZ.out; omega))
  replace HB := Lib.hid (below_step hb HB.out HB.out.size)
  replace HZ : Hid (w2.heap.size + 2 ≤ w7.heap.size ∧ w3.heap.size < w7.heap.size) := ⟨Nat.le_trans HZ.out.1 hb.size, Nat.lt_of_lt_of_le HZ.out.2 hb.size⟩
  clear hb
  go_wp2_with (first | (refine wpList_load_rowG rfl 26 _ rfl w2.heap.size rfl 26 (cs w1F) (0, 0) _ R1.out Try.underlying26 rfl (infoS _) ?_) | (refine wpList_load_rowG rfl 26 _ rfl w3.heap.size rfl 26 (cs w2F) (0, 0) _ R2.out Try.underlying26 rfl (infoS _) ?_))
  refine (r4.out _).mono ?_; rintro e w8 ⟨rfl, hb⟩
  replace R1 := Lib.hid (R1.out.below hb (by have := HZ.out; omega))
  replace R2 := Lib.hid (R2.out.below hb (by have := HZ.out; omega))
  replace HB := Lib.hid (below_step hb HB.out HB.out.size)
  replace HZ : Hid (w2.heap.size + 2 ≤ w8.heap.size ∧ w3.heap.size < w8.heap.size) := ⟨Nat.le_trans HZ.out.1 hb.size, Nat.lt_of_lt_of_le HZ.out.2 hb.size⟩
  clear hb
  go_wp2_with (first | (refine wpList_load_rowG rfl 26 _ rfl w2.heap.size rfl 26 (cs w1F) (0, 0) _ R1.out Try.underlying26 rfl (infoS _) ?_) | (refine wpList_load_rowG rfl 26 _ rfl w3.heap.size rfl 26 (cs w2F) (0, 0) _ R2.out Try.underlying26 rfl (infoS _) ?_))
  refine (r5.out _).mono ?_; rintro e w9 ⟨rfl, hb⟩
  replace R1 := Lib.hid (R1.out.below hb (by have := HZ.out; omega))
  replace R2 := Lib.hid (R2.out.below hb (by have := HZ.out; omega))
  replace HB := Lib.hid (below_step hb HB.out HB.out.size)
  replace HZ : Hid (w2.heap.size + 2 ≤ w9.heap.size ∧ w3.heap.size < w9.heap.size) := ⟨Nat.le_trans HZ.out.1 hb.size, Nat.lt_of_lt_of_le HZ.out.2 hb.size⟩
  clear hb
  go_wp2_with (first | (refine wpList_load_rowG rfl 26 _ rfl w2.heap.size rfl 26 (cs w1F) (0, 0) _ R1.out Try.underlying26 rfl (infoS _) ?_) | (refine wpList_load_rowG rfl 26 _ rfl w3.heap.size rfl 26 (cs w2F) (0, 0) _ R2.out Try.underlying26 rfl (infoS _) ?_))
  refine (r6.out _).mono ?_; rintro e w10 ⟨rfl, hb⟩
  replace R1 := Lib.hid (R1.out.below hb (by have := HZ.out; omega))
  replace R2 := Lib.hid (R2.out.below hb (by have := HZ.out; omega))
  replace HB := Lib.hid (below_step hb HB.out HB.out.size)
  replace HZ : Hid (w2.heap.size + 2 ≤ w10.heap.size ∧ w3.heap.size < w10.heap.size) := ⟨Nat.le_trans HZ.out.1 hb.size, Nat.lt_of_lt_of_le HZ.out.2 hb.size⟩
  clear hb
  go_wp2_with fail
  go_ret
  exact retB_mk rfl HB.out
end Go.Proofs.Ytmlbobjbkbcabaa
