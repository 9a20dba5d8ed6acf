/- The reference's Read. -/
import Derived.Test.YtmlbobjbkbcabaaB5
namespace Go.Proofs.Ytmlbobjbkbcabaa
open Go.ChangeShapes Go.WideShapes Go.ChangeAt Go.RowKit P
set_option linter.unusedVariables false
set_option linter.unusedSimpArgs false
theorem rd_other (S : Nat → Nat) (n : Int) (lines now : Nat) (h0 : ¬ n = 1) (h1 : ¬ n = 2) (h2 : ¬ n = 3) (h3 : ¬ n = 256) (h4 : ¬ n = 260) (h5 : ¬ n = 261) (h6 : ¬ n = 262) (h7 : ¬ n = 320) (h8 : ¬ n = 321) (h9 : ¬ n = 322) (h10 : ¬ n = 323) (h11 : ¬ n = 324) (h12 : ¬ n = 384) (h13 : ¬ n = 768) (h14 : ¬ n = 769) (h15 : ¬ n = 770) (h16 : ¬ n = 771) (h17 : ¬ n = 772) (h18 : ¬ n = 773) (h19 : ¬ n = 774) (h20 : ¬ n = 800) (h21 : ¬ n = 832) (h22 : ¬ n = 833) (h23 : ¬ n = 834) (h24 : ¬ n = 835) (h25 : ¬ n = 836) (h26 : ¬ n = 928) (h27 : ¬ n = 2816) (h28 : ¬ n = 3072) (h29 : ¬ n = 2818) (h30 : ¬ n = 3074) (h31 : ¬ n = 3073) (hp : ¬ (944 ≤ n ∧ n ≤ 951)) : rdF S n lines now = 0 := by
  have h : specB n = false := by
    unfold specB
    simp only [Bool.or_eq_false_iff, beq_eq_false_iff_ne, ne_eq]
    exact ⟨⟨⟨⟨⟨⟨⟨⟨⟨⟨⟨h0, h1⟩, h2⟩, h3⟩, h13⟩, h4⟩, h17⟩, h11⟩, h25⟩, h14⟩, h26⟩, h31⟩
  have h2 : plK n = 38 := by
    unfold plK
    rw [if_neg h5, if_neg h6, if_neg h7, if_neg h8, if_neg h9, if_neg h10, if_neg h12, if_neg h15, if_neg h16, if_neg h18, if_neg h19, if_neg h20, if_neg h21, if_neg h22, if_neg h23, if_neg h24, if_neg (by omega), if_neg (by omega), if_neg (by omega), if_neg (by omega), if_neg (by omega), if_neg (by omega), if_neg (by omega), if_neg (by omega), if_neg h27, if_neg h28, if_neg h29, if_neg h30]
  unfold rdF
  rw [h, if_neg (by decide), if_pos h2]
theorem and_ones_nat (x : Nat) (hx : x < 18446744073709551616) : x &&& 18446744073709551615 = x := by
  rw [show (18446744073709551615 : Nat) = 2 ^ 64 - 1 from rfl, Nat.and_two_pow_sub_one_eq_mod, Nat.mod_eq_of_lt hx]
theorem frm_eq (x : Nat) : x / 32 &&& 7 = (x &&& 224) / 32 := by
  rw [show (7 : Nat) = 224 / 32 from rfl, show (32 : Nat) = 2 ^ 5 from rfl, Nat.and_div_two_pow]
set_option maxRecDepth 100000 in
theorem high_768 (S : Nat → Nat) (lines now : Nat) (hS : Hid (OkS S)) (w : World) : Calls Try.prog 31 #[.agg (cs S), .int .i64 768, .int .u64 (mipN S lines : Nat), .int .u64 now] w (RetU (rdF S 768 lines now) w) := by
  have R : Hid (Row (w.alloc (Obj.cells (cs S) 26)) w.heap.size 26 (cs S)) := row_new _ _ _
  have HB : Hid (Below w.heap.size w (w.alloc (Obj.cells (cs S) 26))) := by show Below _ _ _; exact (by repeat (first | (with_reducible first | exact Below.refl _ _ | assumption | exact Nat.le_refl _ | refine Below.drew ?_ | refine Below.alloc ?_ ?_ _ | refine Below.setCell ?_ ?_ _ | refine le_alloc ?_ | refine le_set ?_ | refine le_drew ?_ | refine below_step (by assumption) ?_ ?_ | refine le_below (by assumption) ?_) | (dsimp only; omega)))
  have HR : Hid (rdF S 768 lines now = S 0) := rfl
  have g0 : (cs S)[0]? = some (.int .u64 (S 0 : Nat)) := rfl
  go_enter Try.func31, Try.ntmps31
  go_wp2_with fail
  go_ret
  exact retU_mk (by rw [HR.out]) HB.out
set_option maxRecDepth 100000 in
theorem high_769 (S : Nat → Nat) (lines now : Nat) (hS : Hid (OkS S)) (w : World) : Calls Try.prog 31 #[.agg (cs S), .int .i64 769, .int .u64 (mipN S lines : Nat), .int .u64 now] w (RetU (rdF S 769 lines now) w) := by
  have R : Hid (Row (w.alloc (Obj.cells (cs S) 26)) w.heap.size 26 (cs S)) := row_new _ _ _
  have HB : Hid (Below w.heap.size w (w.alloc (Obj.cells (cs S) 26))) := by show Below _ _ _; exact (by repeat (first | (with_reducible first | exact Below.refl _ _ | assumption | exact Nat.le_refl _ | refine Below.drew ?_ | refine Below.alloc ?_ ?_ _ | refine Below.setCell ?_ ?_ _ | refine le_alloc ?_ | refine le_set ?_ | refine le_drew ?_ | refine below_step (by assumption) ?_ ?_ | refine le_below (by assumption) ?_) | (dsimp only; omega)))
  have HR : Hid (rdF S 769 lines now = 9223372036856090925) := rfl
  go_enter Try.func31, Try.ntmps31
  go_wp2_with fail
  go_ret
  exact retU_mk (by rw [HR.out]; rfl) HB.out
set_option maxRecDepth 100000 in
theorem high_770 (S : Nat → Nat) (lines now : Nat) (hS : Hid (OkS S)) (w : World) : Calls Try.prog 31 #[.agg (cs S), .int .i64 770, .int .u64 (mipN S lines : Nat), .int .u64 now] w (RetU (rdF S 770 lines now) w) := by
  have R : Hid (Row (w.alloc (Obj.cells (cs S) 26)) w.heap.size 26 (cs S)) := row_new _ _ _
  have HB : Hid (Below w.heap.size w (w.alloc (Obj.cells (cs S) 26))) := by show Below _ _ _; exact (by repeat (first | (with_reducible first | exact Below.refl _ _ | assumption | exact Nat.le_refl _ | refine Below.drew ?_ | refine Below.alloc ?_ ?_ _ | refine Below.setCell ?_ ?_ _ | refine le_alloc ?_ | refine le_set ?_ | refine le_drew ?_ | refine below_step (by assumption) ?_ ?_ | refine le_below (by assumption) ?_) | (dsimp only; omega)))
  have HR : Hid (rdF S 770 lines now = S 2) := rfl
  have g2 : (cs S)[2]? = some (.int .u64 (S 2 : Nat)) := rfl
  go_enter Try.func31, Try.ntmps31
  go_wp2_with fail
  go_ret
  exact retU_mk (by rw [HR.out]) HB.out
set_option maxRecDepth 100000 in
theorem high_771 (S : Nat → Nat) (lines now : Nat) (hS : Hid (OkS S)) (w : World) : Calls Try.prog 31 #[.agg (cs S), .int .i64 771, .int .u64 (mipN S lines : Nat), .int .u64 now] w (RetU (rdF S 771 lines now) w) := by
  have R : Hid (Row (w.alloc (Obj.cells (cs S) 26)) w.heap.size 26 (cs S)) := row_new _ _ _
  have HB : Hid (Below w.heap.size w (w.alloc (Obj.cells (cs S) 26))) := by show Below _ _ _; exact (by repeat (first | (with_reducible first | exact Below.refl _ _ | assumption | exact Nat.le_refl _ | refine Below.drew ?_ | refine Below.alloc ?_ ?_ _ | refine Below.setCell ?_ ?_ _ | refine le_alloc ?_ | refine le_set ?_ | refine le_drew ?_ | refine below_step (by assumption) ?_ ?_ | refine le_below (by assumption) ?_) | (dsimp only; omega)))
  have HR : Hid (rdF S 771 lines now = S 3) := rfl
  have g3 : (cs S)[3]? = some (.int .u64 (S 3 : Nat)) := rfl
  go_enter Try.func31, Try.ntmps31
  go_wp2_with fail
  go_ret
  exact retU_mk (by rw [HR.out]) HB.out
set_option maxRecDepth 100000 in
theorem high_772 (S : Nat → Nat) (lines now : Nat) (hS : Hid (OkS S)) (w : World) : Calls Try.prog 31 #[.agg (cs S), .int .i64 772, .int .u64 (mipN S lines : Nat), .int .u64 now] w (RetU (rdF S 772 lines now) w) := by
  have R : Hid (Row (w.alloc (Obj.cells (cs S) 26)) w.heap.size 26 (cs S)) := row_new _ _ _
  have HB : Hid (Below w.heap.size w (w.alloc (Obj.cells (cs S) 26))) := by show Below _ _ _; exact (by repeat (first | (with_reducible first | exact Below.refl _ _ | assumption | exact Nat.le_refl _ | refine Below.drew ?_ | refine Below.alloc ?_ ?_ _ | refine Below.setCell ?_ ?_ _ | refine le_alloc ?_ | refine le_set ?_ | refine le_drew ?_ | refine below_step (by assumption) ?_ ?_ | refine le_below (by assumption) ?_) | (dsimp only; omega)))
  have HR : Hid (rdF S 772 lines now = S 4) := rfl
  have g4 : (cs S)[4]? = some (.int .u64 (S 4 : Nat)) := rfl
  go_enter Try.func31, Try.ntmps31
  go_wp2_with fail
  go_ret
  exact retU_mk (by rw [HR.out]) HB.out
set_option maxRecDepth 100000 in
theorem high_773 (S : Nat → Nat) (lines now : Nat) (hS : Hid (OkS S)) (w : World) : Calls Try.prog 31 #[.agg (cs S), .int .i64 773, .int .u64 (mipN S lines : Nat), .int .u64 now] w (RetU (rdF S 773 lines now) w) := by
  have R : Hid (Row (w.alloc (Obj.cells (cs S) 26)) w.heap.size 26 (cs S)) := row_new _ _ _
  have HB : Hid (Below w.heap.size w (w.alloc (Obj.cells (cs S) 26))) := by show Below _ _ _; exact (by repeat (first | (with_reducible first | exact Below.refl _ _ | assumption | exact Nat.le_refl _ | refine Below.drew ?_ | refine Below.alloc ?_ ?_ _ | refine Below.setCell ?_ ?_ _ | refine le_alloc ?_ | refine le_set ?_ | refine le_drew ?_ | refine below_step (by assumption) ?_ ?_ | refine le_below (by assumption) ?_) | (dsimp only; omega)))
  have HR : Hid (rdF S 773 lines now = S 1) := rfl
  have g1 : (cs S)[1]? = some (.int .u64 (S 1 : Nat)) := rfl
  go_enter Try.func31, Try.ntmps31
  go_wp2_with fail
  go_ret
  exact retU_mk (by rw [HR.out]) HB.out
set_option maxRecDepth 100000 in
theorem high_774 (S : Nat → Nat) (lines now : Nat) (hS : Hid (OkS S)) (w : World) : Calls Try.prog 31 #[.agg (cs S), .int .i64 774, .int .u64 (mipN S lines : Nat), .int .u64 now] w (RetU (rdF S 774 lines now) w) := by
  have R : Hid (Row (w.alloc (Obj.cells (cs S) 26)) w.heap.size 26 (cs S)) := row_new _ _ _
  have HB : Hid (Below w.heap.size w (w.alloc (Obj.cells (cs S) 26))) := by show Below _ _ _; exact (by repeat (first | (with_reducible first | exact Below.refl _ _ | assumption | exact Nat.le_refl _ | refine Below.drew ?_ | refine Below.alloc ?_ ?_ _ | refine Below.setCell ?_ ?_ _ | refine le_alloc ?_ | refine le_set ?_ | refine le_drew ?_ | refine below_step (by assumption) ?_ ?_ | refine le_below (by assumption) ?_) | (dsimp only; omega)))
  have HR : Hid (rdF S 774 lines now = S 10) := rfl
  have g10 : (cs S)[10]? = some (.int .u64 (S 10 : Nat)) := rfl
  go_enter Try.func31, Try.ntmps31
  go_wp2_with fail
  go_ret
  exact retU_mk (by rw [HR.out]) HB.out
set_option maxRecDepth 100000 in
theorem high_800 (S : Nat → Nat) (lines now : Nat) (hS : Hid (OkS S)) (w : World) : Calls Try.prog 31 #[.agg (cs S), .int .i64 800, .int .u64 (mipN S lines : Nat), .int .u64 now] w (RetU (rdF S 800 lines now) w) := by
  have R : Hid (Row (w.alloc (Obj.cells (cs S) 26)) w.heap.size 26 (cs S)) := row_new _ _ _
  have HB : Hid (Below w.heap.size w (w.alloc (Obj.cells (cs S) 26))) := by show Below _ _ _; exact (by repeat (first | (with_reducible first | exact Below.refl _ _ | assumption | exact Nat.le_refl _ | refine Below.drew ?_ | refine Below.alloc ?_ ?_ _ | refine Below.setCell ?_ ?_ _ | refine le_alloc ?_ | refine le_set ?_ | refine le_drew ?_ | refine below_step (by assumption) ?_ ?_ | refine le_below (by assumption) ?_) | (dsimp only; omega)))
  have HR : Hid (rdF S 800 lines now = S 11) := rfl
  have g11 : (cs S)[11]? = some (.int .u64 (S 11 : Nat)) := rfl
  go_enter Try.func31, Try.ntmps31
  go_wp2_with fail
  go_ret
  exact retU_mk (by rw [HR.out]) HB.out
set_option maxRecDepth 100000 in
theorem high_832 (S : Nat → Nat) (lines now : Nat) (hS : Hid (OkS S)) (w : World) : Calls Try.prog 31 #[.agg (cs S), .int .i64 832, .int .u64 (mipN S lines : Nat), .int .u64 now] w (RetU (rdF S 832 lines now) w) := by
  have R : Hid (Row (w.alloc (Obj.cells (cs S) 26)) w.heap.size 26 (cs S)) := row_new _ _ _
  have HB : Hid (Below w.heap.size w (w.alloc (Obj.cells (cs S) 26))) := by show Below _ _ _; exact (by repeat (first | (with_reducible first | exact Below.refl _ _ | assumption | exact Nat.le_refl _ | refine Below.drew ?_ | refine Below.alloc ?_ ?_ _ | refine Below.setCell ?_ ?_ _ | refine le_alloc ?_ | refine le_set ?_ | refine le_drew ?_ | refine below_step (by assumption) ?_ ?_ | refine le_below (by assumption) ?_) | (dsimp only; omega)))
  have HR : Hid (rdF S 832 lines now = S 9) := rfl
  have g9 : (cs S)[9]? = some (.int .u64 (S 9 : Nat)) := rfl
  go_enter Try.func31, Try.ntmps31
  go_wp2_with fail
  go_ret
  exact retU_mk (by rw [HR.out]) HB.out
set_option maxRecDepth 100000 in
theorem high_833 (S : Nat → Nat) (lines now : Nat) (hS : Hid (OkS S)) (w : World) : Calls Try.prog 31 #[.agg (cs S), .int .i64 833, .int .u64 (mipN S lines : Nat), .int .u64 now] w (RetU (rdF S 833 lines now) w) := by
  have R : Hid (Row (w.alloc (Obj.cells (cs S) 26)) w.heap.size 26 (cs S)) := row_new _ _ _
  have HB : Hid (Below w.heap.size w (w.alloc (Obj.cells (cs S) 26))) := by show Below _ _ _; exact (by repeat (first | (with_reducible first | exact Below.refl _ _ | assumption | exact Nat.le_refl _ | refine Below.drew ?_ | refine Below.alloc ?_ ?_ _ | refine Below.setCell ?_ ?_ _ | refine le_alloc ?_ | refine le_set ?_ | refine le_drew ?_ | refine below_step (by assumption) ?_ ?_ | refine le_below (by assumption) ?_) | (dsimp only; omega)))
  have HR : Hid (rdF S 833 lines now = S 6) := rfl
  have g6 : (cs S)[6]? = some (.int .u64 (S 6 : Nat)) := rfl
  go_enter Try.func31, Try.ntmps31
  go_wp2_with fail
  go_ret
  exact retU_mk (by rw [HR.out]) HB.out
set_option maxRecDepth 100000 in
theorem high_834 (S : Nat → Nat) (lines now : Nat) (hS : Hid (OkS S)) (w : World) : Calls Try.prog 31 #[.agg (cs S), .int .i64 834, .int .u64 (mipN S lines : Nat), .int .u64 now] w (RetU (rdF S 834 lines now) w) := by
  have R : Hid (Row (w.alloc (Obj.cells (cs S) 26)) w.heap.size 26 (cs S)) := row_new _ _ _
  have HB : Hid (Below w.heap.size w (w.alloc (Obj.cells (cs S) 26))) := by show Below _ _ _; exact (by repeat (first | (with_reducible first | exact Below.refl _ _ | assumption | exact Nat.le_refl _ | refine Below.drew ?_ | refine Below.alloc ?_ ?_ _ | refine Below.setCell ?_ ?_ _ | refine le_alloc ?_ | refine le_set ?_ | refine le_drew ?_ | refine below_step (by assumption) ?_ ?_ | refine le_below (by assumption) ?_) | (dsimp only; omega)))
  have HR : Hid (rdF S 834 lines now = S 7) := rfl
  have g7 : (cs S)[7]? = some (.int .u64 (S 7 : Nat)) := rfl
  go_enter Try.func31, Try.ntmps31
  go_wp2_with fail
  go_ret
  exact retU_mk (by rw [HR.out]) HB.out
set_option maxRecDepth 100000 in
theorem high_835 (S : Nat → Nat) (lines now : Nat) (hS : Hid (OkS S)) (w : World) : Calls Try.prog 31 #[.agg (cs S), .int .i64 835, .int .u64 (mipN S lines : Nat), .int .u64 now] w (RetU (rdF S 835 lines now) w) := by
  have R : Hid (Row (w.alloc (Obj.cells (cs S) 26)) w.heap.size 26 (cs S)) := row_new _ _ _
  have HB : Hid (Below w.heap.size w (w.alloc (Obj.cells (cs S) 26))) := by show Below _ _ _; exact (by repeat (first | (with_reducible first | exact Below.refl _ _ | assumption | exact Nat.le_refl _ | refine Below.drew ?_ | refine Below.alloc ?_ ?_ _ | refine Below.setCell ?_ ?_ _ | refine le_alloc ?_ | refine le_set ?_ | refine le_drew ?_ | refine below_step (by assumption) ?_ ?_ | refine le_below (by assumption) ?_) | (dsimp only; omega)))
  have HR : Hid (rdF S 835 lines now = S 8) := rfl
  have g8 : (cs S)[8]? = some (.int .u64 (S 8 : Nat)) := rfl
  go_enter Try.func31, Try.ntmps31
  go_wp2_with fail
  go_ret
  exact retU_mk (by rw [HR.out]) HB.out
set_option maxRecDepth 100000 in
theorem high_836 (S : Nat → Nat) (lines now : Nat) (hS : Hid (OkS S)) (w : World) : Calls Try.prog 31 #[.agg (cs S), .int .i64 836, .int .u64 (mipN S lines : Nat), .int .u64 now] w (RetU (rdF S 836 lines now) w) := by
  have R : Hid (Row (w.alloc (Obj.cells (cs S) 26)) w.heap.size 26 (cs S)) := row_new _ _ _
  have HB : Hid (Below w.heap.size w (w.alloc (Obj.cells (cs S) 26))) := by show Below _ _ _; exact (by repeat (first | (with_reducible first | exact Below.refl _ _ | assumption | exact Nat.le_refl _ | refine Below.drew ?_ | refine Below.alloc ?_ ?_ _ | refine Below.setCell ?_ ?_ _ | refine le_alloc ?_ | refine le_set ?_ | refine le_drew ?_ | refine below_step (by assumption) ?_ ?_ | refine le_below (by assumption) ?_) | (dsimp only; omega)))
  have HR : Hid (rdF S 836 lines now = mipN S lines) := rfl
  go_enter Try.func31, Try.ntmps31
  go_wp2_with fail
  go_ret
  exact retU_mk (by rw [HR.out]) HB.out
set_option maxRecDepth 100000 in
theorem high_928 (S : Nat → Nat) (lines now : Nat) (hS : Hid (OkS S)) (w : World) : Calls Try.prog 31 #[.agg (cs S), .int .i64 928, .int .u64 (mipN S lines : Nat), .int .u64 now] w (RetU (rdF S 928 lines now) w) := by
  have R : Hid (Row (w.alloc (Obj.cells (cs S) 26)) w.heap.size 26 (cs S)) := row_new _ _ _
  have HB : Hid (Below w.heap.size w (w.alloc (Obj.cells (cs S) 26))) := by show Below _ _ _; exact (by repeat (first | (with_reducible first | exact Below.refl _ _ | assumption | exact Nat.le_refl _ | refine Below.drew ?_ | refine Below.alloc ?_ ?_ _ | refine Below.setCell ?_ ?_ _ | refine le_alloc ?_ | refine le_set ?_ | refine le_drew ?_ | refine below_step (by assumption) ?_ ?_ | refine le_below (by assumption) ?_) | (dsimp only; omega)))
  have HR : Hid (rdF S 928 lines now = joinN (cfO S) 8) := rfl
  have HJ := Lib.hid (fun u => configs_c S hS u)
  go_enter Try.func31, Try.ntmps31
  go_wp2_with (refine wpList_load_row rfl 26 _ rfl w.heap.size rfl 26 (cs S) (0, 0) _ R.out Try.underlying26 rfl (infoS _) ?_)
  refine (HJ.out _).mono ?_; rintro e w1 ⟨rfl, hb⟩
  replace HB := Lib.hid (below_step hb HB.out HB.out.size)
  clear hb
  go_wp2_with fail
  go_ret
  exact retU_mk (by rw [HR.out]) HB.out
set_option maxRecDepth 100000 in
theorem high_2816 (S : Nat → Nat) (lines now : Nat) (hS : Hid (OkS S)) (w : World) : Calls Try.prog 31 #[.agg (cs S), .int .i64 2816, .int .u64 (mipN S lines : Nat), .int .u64 now] w (RetU (rdF S 2816 lines now) w) := by
  have R : Hid (Row (w.alloc (Obj.cells (cs S) 26)) w.heap.size 26 (cs S)) := row_new _ _ _
  have HB : Hid (Below w.heap.size w (w.alloc (Obj.cells (cs S) 26))) := by show Below _ _ _; exact (by repeat (first | (with_reducible first | exact Below.refl _ _ | assumption | exact Nat.le_refl _ | refine Below.drew ?_ | refine Below.alloc ?_ ?_ _ | refine Below.setCell ?_ ?_ _ | refine le_alloc ?_ | refine le_set ?_ | refine le_drew ?_ | refine below_step (by assumption) ?_ ?_ | refine le_below (by assumption) ?_) | (dsimp only; omega)))
  have HR : Hid (rdF S 2816 lines now = S 12) := rfl
  have g12 : (cs S)[12]? = some (.int .u64 (S 12 : Nat)) := rfl
  go_enter Try.func31, Try.ntmps31
  go_wp2_with fail
  go_ret
  exact retU_mk (by rw [HR.out]) HB.out
set_option maxRecDepth 100000 in
theorem high_3072 (S : Nat → Nat) (lines now : Nat) (hS : Hid (OkS S)) (w : World) : Calls Try.prog 31 #[.agg (cs S), .int .i64 3072, .int .u64 (mipN S lines : Nat), .int .u64 now] w (RetU (rdF S 3072 lines now) w) := by
  have R : Hid (Row (w.alloc (Obj.cells (cs S) 26)) w.heap.size 26 (cs S)) := row_new _ _ _
  have HB : Hid (Below w.heap.size w (w.alloc (Obj.cells (cs S) 26))) := by show Below _ _ _; exact (by repeat (first | (with_reducible first | exact Below.refl _ _ | assumption | exact Nat.le_refl _ | refine Below.drew ?_ | refine Below.alloc ?_ ?_ _ | refine Below.setCell ?_ ?_ _ | refine le_alloc ?_ | refine le_set ?_ | refine le_drew ?_ | refine below_step (by assumption) ?_ ?_ | refine le_below (by assumption) ?_) | (dsimp only; omega)))
  have HR : Hid (rdF S 3072 lines now = S 12) := rfl
  have g12 : (cs S)[12]? = some (.int .u64 (S 12 : Nat)) := rfl
  go_enter Try.func31, Try.ntmps31
  go_wp2_with fail
  go_ret
  exact retU_mk (by rw [HR.out]) HB.out
set_option maxRecDepth 100000 in
theorem high_2818 (S : Nat → Nat) (lines now : Nat) (hS : Hid (OkS S)) (w : World) : Calls Try.prog 31 #[.agg (cs S), .int .i64 2818, .int .u64 (mipN S lines : Nat), .int .u64 now] w (RetU (rdF S 2818 lines now) w) := by
  have R : Hid (Row (w.alloc (Obj.cells (cs S) 26)) w.heap.size 26 (cs S)) := row_new _ _ _
  have HB : Hid (Below w.heap.size w (w.alloc (Obj.cells (cs S) 26))) := by show Below _ _ _; exact (by repeat (first | (with_reducible first | exact Below.refl _ _ | assumption | exact Nat.le_refl _ | refine Below.drew ?_ | refine Below.alloc ?_ ?_ _ | refine Below.setCell ?_ ?_ _ | refine le_alloc ?_ | refine le_set ?_ | refine le_drew ?_ | refine below_step (by assumption) ?_ ?_ | refine le_below (by assumption) ?_) | (dsimp only; omega)))
  have HR : Hid (rdF S 2818 lines now = S 13) := rfl
  have g13 : (cs S)[13]? = some (.int .u64 (S 13 : Nat)) := rfl
  go_enter Try.func31, Try.ntmps31
  go_wp2_with fail
  go_ret
  exact retU_mk (by rw [HR.out]) HB.out
set_option maxRecDepth 100000 in
theorem high_3074 (S : Nat → Nat) (lines now : Nat) (hS : Hid (OkS S)) (w : World) : Calls Try.prog 31 #[.agg (cs S), .int .i64 3074, .int .u64 (mipN S lines : Nat), .int .u64 now] w (RetU (rdF S 3074 lines now) w) := by
  have R : Hid (Row (w.alloc (Obj.cells (cs S) 26)) w.heap.size 26 (cs S)) := row_new _ _ _
  have HB : Hid (Below w.heap.size w (w.alloc (Obj.cells (cs S) 26))) := by show Below _ _ _; exact (by repeat (first | (with_reducible first | exact Below.refl _ _ | assumption | exact Nat.le_refl _ | refine Below.drew ?_ | refine Below.alloc ?_ ?_ _ | refine Below.setCell ?_ ?_ _ | refine le_alloc ?_ | refine le_set ?_ | refine le_drew ?_ | refine below_step (by assumption) ?_ ?_ | refine le_below (by assumption) ?_) | (dsimp only; omega)))
  have HR : Hid (rdF S 3074 lines now = S 13) := rfl
  have g13 : (cs S)[13]? = some (.int .u64 (S 13 : Nat)) := rfl
  go_enter Try.func31, Try.ntmps31
  go_wp2_with fail
  go_ret
  exact retU_mk (by rw [HR.out]) HB.out
set_option maxRecDepth 100000 in
theorem high_3073 (S : Nat → Nat) (lines now : Nat) (hS : Hid (OkS S)) (w : World) : Calls Try.prog 31 #[.agg (cs S), .int .i64 3073, .int .u64 (mipN S lines : Nat), .int .u64 now] w (RetU (rdF S 3073 lines now) w) := by
  have R : Hid (Row (w.alloc (Obj.cells (cs S) 26)) w.heap.size 26 (cs S)) := row_new _ _ _
  have HB : Hid (Below w.heap.size w (w.alloc (Obj.cells (cs S) 26))) := by show Below _ _ _; exact (by repeat (first | (with_reducible first | exact Below.refl _ _ | assumption | exact Nat.le_refl _ | refine Below.drew ?_ | refine Below.alloc ?_ ?_ _ | refine Below.setCell ?_ ?_ _ | refine le_alloc ?_ | refine le_set ?_ | refine le_drew ?_ | refine below_step (by assumption) ?_ ?_ | refine le_below (by assumption) ?_) | (dsimp only; omega)))
  have HR : Hid (rdF S 3073 lines now = now) := rfl
  go_enter Try.func31, Try.ntmps31
  go_wp2_with fail
  go_ret
  exact retU_mk (by rw [HR.out]) HB.out
set_option maxRecDepth 100000 in
theorem high_944 (S : Nat → Nat) (lines now : Nat) (hS : Hid (OkS S)) (w : World) : Calls Try.prog 31 #[.agg (cs S), .int .i64 944, .int .u64 (mipN S lines : Nat), .int .u64 now] w (RetU (rdF S 944 lines now) w) := by
  have R : Hid (Row (w.alloc (Obj.cells (cs S) 26)) w.heap.size 26 (cs S)) := row_new _ _ _
  have HB : Hid (Below w.heap.size w (w.alloc (Obj.cells (cs S) 26))) := by show Below _ _ _; exact (by repeat (first | (with_reducible first | exact Below.refl _ _ | assumption | exact Nat.le_refl _ | refine Below.drew ?_ | refine Below.alloc ?_ ?_ _ | refine Below.setCell ?_ ?_ _ | refine le_alloc ?_ | refine le_set ?_ | refine le_drew ?_ | refine below_step (by assumption) ?_ ?_ | refine le_below (by assumption) ?_) | (dsimp only; omega)))
  have HR : Hid (rdF S 944 lines now = S 30) := rfl
  have g30 : (cs S)[30]? = some (.int .u64 (S 30 : Nat)) := rfl
  go_enter Try.func31, Try.ntmps31
  go_wp2_with fail
  go_ret
  exact retU_mk (by rw [HR.out]) HB.out
set_option maxRecDepth 100000 in
theorem high_945 (S : Nat → Nat) (lines now : Nat) (hS : Hid (OkS S)) (w : World) : Calls Try.prog 31 #[.agg (cs S), .int .i64 945, .int .u64 (mipN S lines : Nat), .int .u64 now] w (RetU (rdF S 945 lines now) w) := by
  have R : Hid (Row (w.alloc (Obj.cells (cs S) 26)) w.heap.size 26 (cs S)) := row_new _ _ _
  have HB : Hid (Below w.heap.size w (w.alloc (Obj.cells (cs S) 26))) := by show Below _ _ _; exact (by repeat (first | (with_reducible first | exact Below.refl _ _ | assumption | exact Nat.le_refl _ | refine Below.drew ?_ | refine Below.alloc ?_ ?_ _ | refine Below.setCell ?_ ?_ _ | refine le_alloc ?_ | refine le_set ?_ | refine le_drew ?_ | refine below_step (by assumption) ?_ ?_ | refine le_below (by assumption) ?_) | (dsimp only; omega)))
  have HR : Hid (rdF S 945 lines now = S 31) := rfl
  have g31 : (cs S)[31]? = some (.int .u64 (S 31 : Nat)) := rfl
  go_enter Try.func31, Try.ntmps31
  go_wp2_with fail
  go_ret
  exact retU_mk (by rw [HR.out]) HB.out
set_option maxRecDepth 100000 in
theorem high_946 (S : Nat → Nat) (lines now : Nat) (hS : Hid (OkS S)) (w : World) : Calls Try.prog 31 #[.agg (cs S), .int .i64 946, .int .u64 (mipN S lines : Nat), .int .u64 now] w (RetU (rdF S 946 lines now) w) := by
  have R : Hid (Row (w.alloc (Obj.cells (cs S) 26)) w.heap.size 26 (cs S)) := row_new _ _ _
  have HB : Hid (Below w.heap.size w (w.alloc (Obj.cells (cs S) 26))) := by show Below _ _ _; exact (by repeat (first | (with_reducible first | exact Below.refl _ _ | assumption | exact Nat.le_refl _ | refine Below.drew ?_ | refine Below.alloc ?_ ?_ _ | refine Below.setCell ?_ ?_ _ | refine le_alloc ?_ | refine le_set ?_ | refine le_drew ?_ | refine below_step (by assumption) ?_ ?_ | refine le_below (by assumption) ?_) | (dsimp only; omega)))
  have HR : Hid (rdF S 946 lines now = S 32) := rfl
  have g32 : (cs S)[32]? = some (.int .u64 (S 32 : Nat)) := rfl
  go_enter Try.func31, Try.ntmps31
  go_wp2_with fail
  go_ret
  exact retU_mk (by rw [HR.out]) HB.out
set_option maxRecDepth 100000 in
theorem high_947 (S : Nat → Nat) (lines now : Nat) (hS : Hid (OkS S)) (w : World) : Calls Try.prog 31 #[.agg (cs S), .int .i64 947, .int .u64 (mipN S lines : Nat), .int .u64 now] w (RetU (rdF S 947 lines now) w) := by
  have R : Hid (Row (w.alloc (Obj.cells (cs S) 26)) w.heap.size 26 (cs S)) := row_new _ _ _
  have HB : Hid (Below w.heap.size w (w.alloc (Obj.cells (cs S) 26))) := by show Below _ _ _; exact (by repeat (first | (with_reducible first | exact Below.refl _ _ | assumption | exact Nat.le_refl _ | refine Below.drew ?_ | refine Below.alloc ?_ ?_ _ | refine Below.setCell ?_ ?_ _ | refine le_alloc ?_ | refine le_set ?_ | refine le_drew ?_ | refine below_step (by assumption) ?_ ?_ | refine le_below (by assumption) ?_) | (dsimp only; omega)))
  have HR : Hid (rdF S 947 lines now = S 33) := rfl
  have g33 : (cs S)[33]? = some (.int .u64 (S 33 : Nat)) := rfl
  go_enter Try.func31, Try.ntmps31
  go_wp2_with fail
  go_ret
  exact retU_mk (by rw [HR.out]) HB.out
set_option maxRecDepth 100000 in
theorem high_948 (S : Nat → Nat) (lines now : Nat) (hS : Hid (OkS S)) (w : World) : Calls Try.prog 31 #[.agg (cs S), .int .i64 948, .int .u64 (mipN S lines : Nat), .int .u64 now] w (RetU (rdF S 948 lines now) w) := by
  have R : Hid (Row (w.alloc (Obj.cells (cs S) 26)) w.heap.size 26 (cs S)) := row_new _ _ _
  have HB : Hid (Below w.heap.size w (w.alloc (Obj.cells (cs S) 26))) := by show Below _ _ _; exact (by repeat (first | (with_reducible first | exact Below.refl _ _ | assumption | exact Nat.le_refl _ | refine Below.drew ?_ | refine Below.alloc ?_ ?_ _ | refine Below.setCell ?_ ?_ _ | refine le_alloc ?_ | refine le_set ?_ | refine le_drew ?_ | refine below_step (by assumption) ?_ ?_ | refine le_below (by assumption) ?_) | (dsimp only; omega)))
  have HR : Hid (rdF S 948 lines now = S 34) := rfl
  have g34 : (cs S)[34]? = some (.int .u64 (S 34 : Nat)) := rfl
  go_enter Try.func31, Try.ntmps31
  go_wp2_with fail
  go_ret
  exact retU_mk (by rw [HR.out]) HB.out
set_option maxRecDepth 100000 in
theorem high_949 (S : Nat → Nat) (lines now : Nat) (hS : Hid (OkS S)) (w : World) : Calls Try.prog 31 #[.agg (cs S), .int .i64 949, .int .u64 (mipN S lines : Nat), .int .u64 now] w (RetU (rdF S 949 lines now) w) := by
  have R : Hid (Row (w.alloc (Obj.cells (cs S) 26)) w.heap.size 26 (cs S)) := row_new _ _ _
  have HB : Hid (Below w.heap.size w (w.alloc (Obj.cells (cs S) 26))) := by show Below _ _ _; exact (by repeat (first | (with_reducible first | exact Below.refl _ _ | assumption | exact Nat.le_refl _ | refine Below.drew ?_ | refine Below.alloc ?_ ?_ _ | refine Below.setCell ?_ ?_ _ | refine le_alloc ?_ | refine le_set ?_ | refine le_drew ?_ | refine below_step (by assumption) ?_ ?_ | refine le_below (by assumption) ?_) | (dsimp only; omega)))
  have HR : Hid (rdF S 949 lines now = S 35) := rfl
  have g35 : (cs S)[35]? = some (.int .u64 (S 35 : Nat)) := rfl
  go_enter Try.func31, Try.ntmps31
  go_wp2_with fail
  go_ret
  exact retU_mk (by rw [HR.out]) HB.out
set_option maxRecDepth 100000 in
theorem high_950 (S : Nat → Nat) (lines now : Nat) (hS : Hid (OkS S)) (w : World) : Calls Try.prog 31 #[.agg (cs S), .int .i64 950, .int .u64 (mipN S lines : Nat), .int .u64 now] w (RetU (rdF S 950 lines now) w) := by
  have R : Hid (Row (w.alloc (Obj.cells (cs S) 26)) w.heap.size 26 (cs S)) := row_new _ _ _
  have HB : Hid (Below w.heap.size w (w.alloc (Obj.cells (cs S) 26))) := by show Below _ _ _; exact (by repeat (first | (with_reducible first | exact Below.refl _ _ | assumption | exact Nat.le_refl _ | refine Below.drew ?_ | refine Below.alloc ?_ ?_ _ | refine Below.setCell ?_ ?_ _ | refine le_alloc ?_ | refine le_set ?_ | refine le_drew ?_ | refine below_step (by assumption) ?_ ?_ | refine le_below (by assumption) ?_) | (dsimp only; omega)))
  have HR : Hid (rdF S 950 lines now = S 36) := rfl
  have g36 : (cs S)[36]? = some (.int .u64 (S 36 : Nat)) := rfl
  go_enter Try.func31, Try.ntmps31
  go_wp2_with fail
  go_ret
  exact retU_mk (by rw [HR.out]) HB.out
set_option maxRecDepth 100000 in
theorem high_951 (S : Nat → Nat) (lines now : Nat) (hS : Hid (OkS S)) (w : World) : Calls Try.prog 31 #[.agg (cs S), .int .i64 951, .int .u64 (mipN S lines : Nat), .int .u64 now] w (RetU (rdF S 951 lines now) w) := by
  have R : Hid (Row (w.alloc (Obj.cells (cs S) 26)) w.heap.size 26 (cs S)) := row_new _ _ _
  have HB : Hid (Below w.heap.size w (w.alloc (Obj.cells (cs S) 26))) := by show Below _ _ _; exact (by repeat (first | (with_reducible first | exact Below.refl _ _ | assumption | exact Nat.le_refl _ | refine Below.drew ?_ | refine Below.alloc ?_ ?_ _ | refine Below.setCell ?_ ?_ _ | refine le_alloc ?_ | refine le_set ?_ | refine le_drew ?_ | refine below_step (by assumption) ?_ ?_ | refine le_below (by assumption) ?_) | (dsimp only; omega)))
  have HR : Hid (rdF S 951 lines now = S 37) := rfl
  have g37 : (cs S)[37]? = some (.int .u64 (S 37 : Nat)) := rfl
  go_enter Try.func31, Try.ntmps31
  go_wp2_with fail
  go_ret
  exact retU_mk (by rw [HR.out]) HB.out
set_option maxRecDepth 100000 in
theorem high_lo (S : Nat → Nat) (n : Int) (lines now : Nat) (h0 : ¬ n = 768) (h1 : ¬ n = 769) (h2 : ¬ n = 770) (h3 : ¬ n = 771) (h4 : ¬ n = 772) (h5 : ¬ n = 773) (h6 : ¬ n = 774) (h7 : ¬ n = 800) (h8 : ¬ n = 832) (h9 : ¬ n = 833) (h10 : ¬ n = 834) (h11 : ¬ n = 835) (h12 : ¬ n = 836) (h13 : ¬ n = 928) (h14 : ¬ n = 2816) (h15 : ¬ n = 3072) (h16 : ¬ n = 2818) (h17 : ¬ n = 3074) (h18 : ¬ n = 3073) (hp : n < 944) (w : World) : Calls Try.prog 31 #[.agg (cs S), .int .i64 n, .int .u64 (mipN S lines : Nat), .int .u64 now] w (RetU 0 w) := by
  have R : Hid (Row (w.alloc (Obj.cells (cs S) 26)) w.heap.size 26 (cs S)) := row_new _ _ _
  have HB : Hid (Below w.heap.size w (w.alloc (Obj.cells (cs S) 26))) := by show Below _ _ _; exact (by repeat (first | (with_reducible first | exact Below.refl _ _ | assumption | exact Nat.le_refl _ | refine Below.drew ?_ | refine Below.alloc ?_ ?_ _ | refine Below.setCell ?_ ?_ _ | refine le_alloc ?_ | refine le_set ?_ | refine le_drew ?_ | refine below_step (by assumption) ?_ ?_ | refine le_below (by assumption) ?_) | (dsimp only; omega)))
  have e0 : (n == 768) = false := by rw [beq_eq_false_iff_ne]; exact h0
  have e1 : (n == 769) = false := by rw [beq_eq_false_iff_ne]; exact h1
  have e2 : (n == 770) = false := by rw [beq_eq_false_iff_ne]; exact h2
  have e3 : (n == 771) = false := by rw [beq_eq_false_iff_ne]; exact h3
  have e4 : (n == 772) = false := by rw [beq_eq_false_iff_ne]; exact h4
  have e5 : (n == 773) = false := by rw [beq_eq_false_iff_ne]; exact h5
  have e6 : (n == 774) = false := by rw [beq_eq_false_iff_ne]; exact h6
  have e7 : (n == 800) = false := by rw [beq_eq_false_iff_ne]; exact h7
  have e8 : (n == 832) = false := by rw [beq_eq_false_iff_ne]; exact h8
  have e9 : (n == 833) = false := by rw [beq_eq_false_iff_ne]; exact h9
  have e10 : (n == 834) = false := by rw [beq_eq_false_iff_ne]; exact h10
  have e11 : (n == 835) = false := by rw [beq_eq_false_iff_ne]; exact h11
  have e12 : (n == 836) = false := by rw [beq_eq_false_iff_ne]; exact h12
  have e13 : (n == 928) = false := by rw [beq_eq_false_iff_ne]; exact h13
  have e14 : (n == 2816) = false := by rw [beq_eq_false_iff_ne]; exact h14
  have e15 : (n == 3072) = false := by rw [beq_eq_false_iff_ne]; exact h15
  have e16 : (n == 2818) = false := by rw [beq_eq_false_iff_ne]; exact h16
  have e17 : (n == 3074) = false := by rw [beq_eq_false_iff_ne]; exact h17
  have e18 : (n == 3073) = false := by rw [beq_eq_false_iff_ne]; exact h18
  have p1 : ¬ (944 ≤ n) := by omega
  have p2 : n ≤ 951 := by omega
  clear h0 h1 h2 h3 h4 h5 h6 h7 h8 h9 h10 h11 h12 h13 h14 h15 h16 h17 h18 hp
  go_enter Try.func31, Try.ntmps31
  go_wp2_with fail
  go_ret
  exact retU_mk rfl HB.out
set_option maxRecDepth 100000 in
theorem high_hi (S : Nat → Nat) (n : Int) (lines now : Nat) (h0 : ¬ n = 768) (h1 : ¬ n = 769) (h2 : ¬ n = 770) (h3 : ¬ n = 771) (h4 : ¬ n = 772) (h5 : ¬ n = 773) (h6 : ¬ n = 774) (h7 : ¬ n = 800) (h8 : ¬ n = 832) (h9 : ¬ n = 833) (h10 : ¬ n = 834) (h11 : ¬ n = 835) (h12 : ¬ n = 836) (h13 : ¬ n = 928) (h14 : ¬ n = 2816) (h15 : ¬ n = 3072) (h16 : ¬ n = 2818) (h17 : ¬ n = 3074) (h18 : ¬ n = 3073) (hp : 951 < n) (w : World) : Calls Try.prog 31 #[.agg (cs S), .int .i64 n, .int .u64 (mipN S lines : Nat), .int .u64 now] w (RetU 0 w) := by
  have R : Hid (Row (w.alloc (Obj.cells (cs S) 26)) w.heap.size 26 (cs S)) := row_new _ _ _
  have HB : Hid (Below w.heap.size w (w.alloc (Obj.cells (cs S) 26))) := by show Below _ _ _; exact (by repeat (first | (with_reducible first | exact Below.refl _ _ | assumption | exact Nat.le_refl _ | refine Below.drew ?_ | refine Below.alloc ?_ ?_ _ | refine Below.setCell ?_ ?_ _ | refine le_alloc ?_ | refine le_set ?_ | refine le_drew ?_ | refine below_step (by assumption) ?_ ?_ | refine le_below (by assumption) ?_) | (dsimp only; omega)))
  have e0 : (n == 768) = false := by rw [beq_eq_false_iff_ne]; exact h0
  have e1 : (n == 769) = false := by rw [beq_eq_false_iff_ne]; exact h1
  have e2 : (n == 770) = false := by rw [beq_eq_false_iff_ne]; exact h2
  have e3 : (n == 771) = false := by rw [beq_eq_false_iff_ne]; exact h3
  have e4 : (n == 772) = false := by rw [beq_eq_false_iff_ne]; exact h4
  have e5 : (n == 773) = false := by rw [beq_eq_false_iff_ne]; exact h5
  have e6 : (n == 774) = false := by rw [beq_eq_false_iff_ne]; exact h6
  have e7 : (n == 800) = false := by rw [beq_eq_false_iff_ne]; exact h7
  have e8 : (n == 832) = false := by rw [beq_eq_false_iff_ne]; exact h8
  have e9 : (n == 833) = false := by rw [beq_eq_false_iff_ne]; exact h9
  have e10 : (n == 834) = false := by rw [beq_eq_false_iff_ne]; exact h10
  have e11 : (n == 835) = false := by rw [beq_eq_false_iff_ne]; exact h11
  have e12 : (n == 836) = false := by rw [beq_eq_false_iff_ne]; exact h12
  have e13 : (n == 928) = false := by rw [beq_eq_false_iff_ne]; exact h13
  have e14 : (n == 2816) = false := by rw [beq_eq_false_iff_ne]; exact h14
  have e15 : (n == 3072) = false := by rw [beq_eq_false_iff_ne]; exact h15
  have e16 : (n == 2818) = false := by rw [beq_eq_false_iff_ne]; exact h16
  have e17 : (n == 3074) = false := by rw [beq_eq_false_iff_ne]; exact h17
  have e18 : (n == 3073) = false := by rw [beq_eq_false_iff_ne]; exact h18
  have p1 : 944 ≤ n := by omega
  have p2 : ¬ (n ≤ 951) := by omega
  clear h0 h1 h2 h3 h4 h5 h6 h7 h8 h9 h10 h11 h12 h13 h14 h15 h16 h17 h18 hp
  go_enter Try.func31, Try.ntmps31
  go_wp2_with fail
  go_ret
  exact retU_mk rfl HB.out
theorem high_c (S : Nat → Nat) (n : Int) (lines now : Nat) (hS : Hid (OkS S)) (h0 : ¬ n = 1) (h1 : ¬ n = 2) (h2 : ¬ n = 3) (h3 : ¬ n = 256) (h4 : ¬ n = 260) (h5 : ¬ n = 261) (h6 : ¬ n = 262) (h7 : ¬ n = 320) (h8 : ¬ n = 321) (h9 : ¬ n = 322) (h10 : ¬ n = 323) (h11 : ¬ n = 324) (h12 : ¬ n = 384) (w : World) : Calls Try.prog 31 #[.agg (cs S), .int .i64 n, .int .u64 (mipN S lines : Nat), .int .u64 now] w (RetU (rdF S n lines now) w) := by
  by_cases k0 : n = 768
  · subst k0; exact high_768 S lines now hS w
  by_cases k1 : n = 769
  · subst k1; exact high_769 S lines now hS w
  by_cases k2 : n = 770
  · subst k2; exact high_770 S lines now hS w
  by_cases k3 : n = 771
  · subst k3; exact high_771 S lines now hS w
  by_cases k4 : n = 772
  · subst k4; exact high_772 S lines now hS w
  by_cases k5 : n = 773
  · subst k5; exact high_773 S lines now hS w
  by_cases k6 : n = 774
  · subst k6; exact high_774 S lines now hS w
  by_cases k7 : n = 800
  · subst k7; exact high_800 S lines now hS w
  by_cases k8 : n = 832
  · subst k8; exact high_832 S lines now hS w
  by_cases k9 : n = 833
  · subst k9; exact high_833 S lines now hS w
  by_cases k10 : n = 834
  · subst k10; exact high_834 S lines now hS w
  by_cases k11 : n = 835
  · subst k11; exact high_835 S lines now hS w
  by_cases k12 : n = 836
  · subst k12; exact high_836 S lines now hS w
  by_cases k13 : n = 928
  · subst k13; exact high_928 S lines now hS w
  by_cases k14 : n = 2816
  · subst k14; exact high_2816 S lines now hS w
  by_cases k15 : n = 3072
  · subst k15; exact high_3072 S lines now hS w
  by_cases k16 : n = 2818
  · subst k16; exact high_2818 S lines now hS w
  by_cases k17 : n = 3074
  · subst k17; exact high_3074 S lines now hS w
  by_cases k18 : n = 3073
  · subst k18; exact high_3073 S lines now hS w
  by_cases hp : 944 ≤ n ∧ n ≤ 951
  · have : n = 944 ∨ n = 945 ∨ n = 946 ∨ n = 947 ∨ n = 948 ∨ n = 949 ∨ n = 950 ∨ n = 951 := by omega
    rcases this with rfl | rfl | rfl | rfl | rfl | rfl | rfl | rfl
    · exact high_944 S lines now hS w
    · exact high_945 S lines now hS w
    · exact high_946 S lines now hS w
    · exact high_947 S lines now hS w
    · exact high_948 S lines now hS w
    · exact high_949 S lines now hS w
    · exact high_950 S lines now hS w
    · exact high_951 S lines now hS w
  · rw [rd_other S n lines now h0 h1 h2 h3 h4 h5 h6 h7 h8 h9 h10 h11 h12 k0 k1 k2 k3 k4 k5 k6 k7 k8 k9 k10 k11 k12 k13 k14 k15 k16 k17 k18 hp]
    by_cases hq : n < 944
    · exact high_lo S n lines now k0 k1 k2 k3 k4 k5 k6 k7 k8 k9 k10 k11 k12 k13 k14 k15 k16 k17 k18 hq w
    · exact high_hi S n lines now k0 k1 k2 k3 k4 k5 k6 k7 k8 k9 k10 k11 k12 k13 k14 k15 k16 k17 k18 (by omega) w
set_option maxRecDepth 100000 in
theorem readr_1 (S : Nat → Nat) (lines now : Nat) (hS : Hid (OkS S)) (hl : Hid (lines < 18446744073709551616)) (w : World) : Calls Try.prog 15 #[.agg (cs S), .int .i64 1, .int .u64 lines, .int .u64 now] w (RetU (rdF S 1 lines now) w) := by
  have R : Hid (Row (w.alloc (Obj.cells (cs S) 26)) w.heap.size 26 (cs S)) := row_new _ _ _
  have HB : Hid (Below w.heap.size w (w.alloc (Obj.cells (cs S) 26))) := by show Below _ _ _; exact (by repeat (first | (with_reducible first | exact Below.refl _ _ | assumption | exact Nat.le_refl _ | refine Below.drew ?_ | refine Below.alloc ?_ ?_ _ | refine Below.setCell ?_ ?_ _ | refine le_alloc ?_ | refine le_set ?_ | refine le_drew ?_ | refine below_step (by assumption) ?_ ?_ | refine le_below (by assumption) ?_) | (dsimp only; omega)))
  have HR : Hid (rdF S 1 lines now = S 21 &&& 31) := rfl
  have g5 : (cs S)[5]? = some (.int .u64 (S 5 : Nat)) := rfl
  have m1 : bits .and .u64 (lines : Int) 2696 = ((lines &&& 2696 : Nat) : Int) := u_and lines 2696 hl.out (by decide)
  have m2 : bits .or .u64 (S 5 : Int) ((lines &&& 2696 : Nat) : Int) = ((mipN S lines : Nat) : Int) := u_or (S 5) (lines &&& 2696) (hS.out.u 5 (by decide)) (and_lt2 _ _ (by decide))
  have ml : mipN S lines < 18446744073709551616 := or_lt (hS.out.u 5 (by decide)) (and_lt2 _ _ (by decide))
  have g21 : (cs S)[21]? = some (.int .u64 (S 21 : Nat)) := rfl
  have a1 := Lib.hid (u_and (S 21) 31 (hS.out.u 21 (by decide)) (by decide))
  clear ml
  go_enter Try.func15, Try.ntmps15
  go_wp2_with fail
  go_ret
  exact retU_mk (by rw [HR.out]; exact a1.out) HB.out
set_option maxRecDepth 100000 in
theorem readr_2 (S : Nat → Nat) (lines now : Nat) (hS : Hid (OkS S)) (hl : Hid (lines < 18446744073709551616)) (w : World) : Calls Try.prog 15 #[.agg (cs S), .int .i64 2, .int .u64 lines, .int .u64 now] w (RetU (rdF S 2 lines now) w) := by
  have R : Hid (Row (w.alloc (Obj.cells (cs S) 26)) w.heap.size 26 (cs S)) := row_new _ _ _
  have HB : Hid (Below w.heap.size w (w.alloc (Obj.cells (cs S) 26))) := by show Below _ _ _; exact (by repeat (first | (with_reducible first | exact Below.refl _ _ | assumption | exact Nat.le_refl _ | refine Below.drew ?_ | refine Below.alloc ?_ ?_ _ | refine Below.setCell ?_ ?_ _ | refine le_alloc ?_ | refine le_set ?_ | refine le_drew ?_ | refine below_step (by assumption) ?_ ?_ | refine le_below (by assumption) ?_) | (dsimp only; omega)))
  have HR : Hid (rdF S 2 lines now = (S 21 &&& 224) / 32) := rfl
  have g5 : (cs S)[5]? = some (.int .u64 (S 5 : Nat)) := rfl
  have m1 : bits .and .u64 (lines : Int) 2696 = ((lines &&& 2696 : Nat) : Int) := u_and lines 2696 hl.out (by decide)
  have m2 : bits .or .u64 (S 5 : Int) ((lines &&& 2696 : Nat) : Int) = ((mipN S lines : Nat) : Int) := u_or (S 5) (lines &&& 2696) (hS.out.u 5 (by decide)) (and_lt2 _ _ (by decide))
  have ml : mipN S lines < 18446744073709551616 := or_lt (hS.out.u 5 (by decide)) (and_lt2 _ _ (by decide))
  have g21 : (cs S)[21]? = some (.int .u64 (S 21 : Nat)) := rfl
  have e0 : (S 21 : Int) / 32 = ((S 21 / 32 : Nat) : Int) := by omega
  have a1 : bits .and .u64 ((S 21 : Int) / 32) 7 = ((S 21 / 32 &&& 7 : Nat) : Int) := by rw [e0]; exact u_and _ 7 (by have := hS.out.u 21 (by decide); omega) (by decide)
  have HQ := Lib.hid (frm_eq (S 21))
  clear ml e0
  go_enter Try.func15, Try.ntmps15
  go_wp2_with fail
  go_ret
  exact retU_mk (by rw [HR.out, ← HQ.out]) HB.out
set_option maxRecDepth 100000 in
theorem readr_3 (S : Nat → Nat) (lines now : Nat) (hS : Hid (OkS S)) (hl : Hid (lines < 18446744073709551616)) (w : World) : Calls Try.prog 15 #[.agg (cs S), .int .i64 3, .int .u64 lines, .int .u64 now] w (RetU (rdF S 3 lines now) w) := by
  have R : Hid (Row (w.alloc (Obj.cells (cs S) 26)) w.heap.size 26 (cs S)) := row_new _ _ _
  have HB : Hid (Below w.heap.size w (w.alloc (Obj.cells (cs S) 26))) := by show Below _ _ _; exact (by repeat (first | (with_reducible first | exact Below.refl _ _ | assumption | exact Nat.le_refl _ | refine Below.drew ?_ | refine Below.alloc ?_ ?_ _ | refine Below.setCell ?_ ?_ _ | refine le_alloc ?_ | refine le_set ?_ | refine le_drew ?_ | refine below_step (by assumption) ?_ ?_ | refine le_below (by assumption) ?_) | (dsimp only; omega)))
  have HR : Hid (rdF S 3 lines now = S 21) := rfl
  have g5 : (cs S)[5]? = some (.int .u64 (S 5 : Nat)) := rfl
  have m1 : bits .and .u64 (lines : Int) 2696 = ((lines &&& 2696 : Nat) : Int) := u_and lines 2696 hl.out (by decide)
  have m2 : bits .or .u64 (S 5 : Int) ((lines &&& 2696 : Nat) : Int) = ((mipN S lines : Nat) : Int) := u_or (S 5) (lines &&& 2696) (hS.out.u 5 (by decide)) (and_lt2 _ _ (by decide))
  have ml : mipN S lines < 18446744073709551616 := or_lt (hS.out.u 5 (by decide)) (and_lt2 _ _ (by decide))
  have g21 : (cs S)[21]? = some (.int .u64 (S 21 : Nat)) := rfl
  clear ml
  go_enter Try.func15, Try.ntmps15
  go_wp2_with fail
  go_ret
  exact retU_mk (by rw [HR.out]) HB.out
set_option maxRecDepth 100000 in
theorem readr_256 (S : Nat → Nat) (lines now : Nat) (hS : Hid (OkS S)) (hl : Hid (lines < 18446744073709551616)) (w : World) : Calls Try.prog 15 #[.agg (cs S), .int .i64 256, .int .u64 lines, .int .u64 now] w (RetU (rdF S 256 lines now) w) := by
  have R : Hid (Row (w.alloc (Obj.cells (cs S) 26)) w.heap.size 26 (cs S)) := row_new _ _ _
  have HB : Hid (Below w.heap.size w (w.alloc (Obj.cells (cs S) 26))) := by show Below _ _ _; exact (by repeat (first | (with_reducible first | exact Below.refl _ _ | assumption | exact Nat.le_refl _ | refine Below.drew ?_ | refine Below.alloc ?_ ?_ _ | refine Below.setCell ?_ ?_ _ | refine le_alloc ?_ | refine le_set ?_ | refine le_drew ?_ | refine below_step (by assumption) ?_ ?_ | refine le_below (by assumption) ?_) | (dsimp only; omega)))
  have HR : Hid (rdF S 256 lines now = S 0 &&& 9223372045445521698) := rfl
  have g5 : (cs S)[5]? = some (.int .u64 (S 5 : Nat)) := rfl
  have m1 : bits .and .u64 (lines : Int) 2696 = ((lines &&& 2696 : Nat) : Int) := u_and lines 2696 hl.out (by decide)
  have m2 : bits .or .u64 (S 5 : Int) ((lines &&& 2696 : Nat) : Int) = ((mipN S lines : Nat) : Int) := u_or (S 5) (lines &&& 2696) (hS.out.u 5 (by decide)) (and_lt2 _ _ (by decide))
  have ml : mipN S lines < 18446744073709551616 := or_lt (hS.out.u 5 (by decide)) (and_lt2 _ _ (by decide))
  have g0 : (cs S)[0]? = some (.int .u64 (S 0 : Nat)) := rfl
  have a1 := Lib.hid (u_and (S 0) 9223372045445521698 (hS.out.u 0 (by decide)) (by decide))
  clear ml
  go_enter Try.func15, Try.ntmps15
  go_wp2_with fail
  go_ret
  exact retU_mk (by rw [HR.out]; exact a1.out) HB.out
set_option maxRecDepth 100000 in
theorem readr_260 (S : Nat → Nat) (lines now : Nat) (hS : Hid (OkS S)) (hl : Hid (lines < 18446744073709551616)) (w : World) : Calls Try.prog 15 #[.agg (cs S), .int .i64 260, .int .u64 lines, .int .u64 now] w (RetU (rdF S 260 lines now) w) := by
  have R : Hid (Row (w.alloc (Obj.cells (cs S) 26)) w.heap.size 26 (cs S)) := row_new _ _ _
  have HB : Hid (Below w.heap.size w (w.alloc (Obj.cells (cs S) 26))) := by show Below _ _ _; exact (by repeat (first | (with_reducible first | exact Below.refl _ _ | assumption | exact Nat.le_refl _ | refine Below.drew ?_ | refine Below.alloc ?_ ?_ _ | refine Below.setCell ?_ ?_ _ | refine le_alloc ?_ | refine le_set ?_ | refine le_drew ?_ | refine below_step (by assumption) ?_ ?_ | refine le_below (by assumption) ?_) | (dsimp only; omega)))
  have HR : Hid (rdF S 260 lines now = S 4 &&& S 3) := rfl
  have g5 : (cs S)[5]? = some (.int .u64 (S 5 : Nat)) := rfl
  have m1 : bits .and .u64 (lines : Int) 2696 = ((lines &&& 2696 : Nat) : Int) := u_and lines 2696 hl.out (by decide)
  have m2 : bits .or .u64 (S 5 : Int) ((lines &&& 2696 : Nat) : Int) = ((mipN S lines : Nat) : Int) := u_or (S 5) (lines &&& 2696) (hS.out.u 5 (by decide)) (and_lt2 _ _ (by decide))
  have ml : mipN S lines < 18446744073709551616 := or_lt (hS.out.u 5 (by decide)) (and_lt2 _ _ (by decide))
  have g4 : (cs S)[4]? = some (.int .u64 (S 4 : Nat)) := rfl
  have g3 : (cs S)[3]? = some (.int .u64 (S 3 : Nat)) := rfl
  have a1 := Lib.hid (u_and (S 4) (S 3) (hS.out.u 4 (by decide)) (hS.out.u 3 (by decide)))
  clear ml
  go_enter Try.func15, Try.ntmps15
  go_wp2_with fail
  go_ret
  exact retU_mk (by rw [HR.out]; exact a1.out) HB.out
set_option maxRecDepth 100000 in
theorem readr_261 (S : Nat → Nat) (lines now : Nat) (hS : Hid (OkS S)) (hl : Hid (lines < 18446744073709551616)) (w : World) : Calls Try.prog 15 #[.agg (cs S), .int .i64 261, .int .u64 lines, .int .u64 now] w (RetU (rdF S 261 lines now) w) := by
  have R : Hid (Row (w.alloc (Obj.cells (cs S) 26)) w.heap.size 26 (cs S)) := row_new _ _ _
  have HB : Hid (Below w.heap.size w (w.alloc (Obj.cells (cs S) 26))) := by show Below _ _ _; exact (by repeat (first | (with_reducible first | exact Below.refl _ _ | assumption | exact Nat.le_refl _ | refine Below.drew ?_ | refine Below.alloc ?_ ?_ _ | refine Below.setCell ?_ ?_ _ | refine le_alloc ?_ | refine le_set ?_ | refine le_drew ?_ | refine below_step (by assumption) ?_ ?_ | refine le_below (by assumption) ?_) | (dsimp only; omega)))
  have HR : Hid (rdF S 261 lines now = S 14) := rfl
  have g5 : (cs S)[5]? = some (.int .u64 (S 5 : Nat)) := rfl
  have m1 : bits .and .u64 (lines : Int) 2696 = ((lines &&& 2696 : Nat) : Int) := u_and lines 2696 hl.out (by decide)
  have m2 : bits .or .u64 (S 5 : Int) ((lines &&& 2696 : Nat) : Int) = ((mipN S lines : Nat) : Int) := u_or (S 5) (lines &&& 2696) (hS.out.u 5 (by decide)) (and_lt2 _ _ (by decide))
  have ml : mipN S lines < 18446744073709551616 := or_lt (hS.out.u 5 (by decide)) (and_lt2 _ _ (by decide))
  have g14 : (cs S)[14]? = some (.int .u64 (S 14 : Nat)) := rfl
  clear ml
  go_enter Try.func15, Try.ntmps15
  go_wp2_with fail
  go_ret
  exact retU_mk (by rw [HR.out]) HB.out
set_option maxRecDepth 100000 in
theorem readr_262 (S : Nat → Nat) (lines now : Nat) (hS : Hid (OkS S)) (hl : Hid (lines < 18446744073709551616)) (w : World) : Calls Try.prog 15 #[.agg (cs S), .int .i64 262, .int .u64 lines, .int .u64 now] w (RetU (rdF S 262 lines now) w) := by
  have R : Hid (Row (w.alloc (Obj.cells (cs S) 26)) w.heap.size 26 (cs S)) := row_new _ _ _
  have HB : Hid (Below w.heap.size w (w.alloc (Obj.cells (cs S) 26))) := by show Below _ _ _; exact (by repeat (first | (with_reducible first | exact Below.refl _ _ | assumption | exact Nat.le_refl _ | refine Below.drew ?_ | refine Below.alloc ?_ ?_ _ | refine Below.setCell ?_ ?_ _ | refine le_alloc ?_ | refine le_set ?_ | refine le_drew ?_ | refine below_step (by assumption) ?_ ?_ | refine le_below (by assumption) ?_) | (dsimp only; omega)))
  have HR : Hid (rdF S 262 lines now = S 19) := rfl
  have g5 : (cs S)[5]? = some (.int .u64 (S 5 : Nat)) := rfl
  have m1 : bits .and .u64 (lines : Int) 2696 = ((lines &&& 2696 : Nat) : Int) := u_and lines 2696 hl.out (by decide)
  have m2 : bits .or .u64 (S 5 : Int) ((lines &&& 2696 : Nat) : Int) = ((mipN S lines : Nat) : Int) := u_or (S 5) (lines &&& 2696) (hS.out.u 5 (by decide)) (and_lt2 _ _ (by decide))
  have ml : mipN S lines < 18446744073709551616 := or_lt (hS.out.u 5 (by decide)) (and_lt2 _ _ (by decide))
  have g19 : (cs S)[19]? = some (.int .u64 (S 19 : Nat)) := rfl
  clear ml
  go_enter Try.func15, Try.ntmps15
  go_wp2_with fail
  go_ret
  exact retU_mk (by rw [HR.out]) HB.out
set_option maxRecDepth 100000 in
theorem readr_320 (S : Nat → Nat) (lines now : Nat) (hS : Hid (OkS S)) (hl : Hid (lines < 18446744073709551616)) (w : World) : Calls Try.prog 15 #[.agg (cs S), .int .i64 320, .int .u64 lines, .int .u64 now] w (RetU (rdF S 320 lines now) w) := by
  have R : Hid (Row (w.alloc (Obj.cells (cs S) 26)) w.heap.size 26 (cs S)) := row_new _ _ _
  have HB : Hid (Below w.heap.size w (w.alloc (Obj.cells (cs S) 26))) := by show Below _ _ _; exact (by repeat (first | (with_reducible first | exact Below.refl _ _ | assumption | exact Nat.le_refl _ | refine Below.drew ?_ | refine Below.alloc ?_ ?_ _ | refine Below.setCell ?_ ?_ _ | refine le_alloc ?_ | refine le_set ?_ | refine le_drew ?_ | refine below_step (by assumption) ?_ ?_ | refine le_below (by assumption) ?_) | (dsimp only; omega)))
  have HR : Hid (rdF S 320 lines now = S 18) := rfl
  have g5 : (cs S)[5]? = some (.int .u64 (S 5 : Nat)) := rfl
  have m1 : bits .and .u64 (lines : Int) 2696 = ((lines &&& 2696 : Nat) : Int) := u_and lines 2696 hl.out (by decide)
  have m2 : bits .or .u64 (S 5 : Int) ((lines &&& 2696 : Nat) : Int) = ((mipN S lines : Nat) : Int) := u_or (S 5) (lines &&& 2696) (hS.out.u 5 (by decide)) (and_lt2 _ _ (by decide))
  have ml : mipN S lines < 18446744073709551616 := or_lt (hS.out.u 5 (by decide)) (and_lt2 _ _ (by decide))
  have g18 : (cs S)[18]? = some (.int .u64 (S 18 : Nat)) := rfl
  clear ml
  go_enter Try.func15, Try.ntmps15
  go_wp2_with fail
  go_ret
  exact retU_mk (by rw [HR.out]) HB.out
set_option maxRecDepth 100000 in
theorem readr_321 (S : Nat → Nat) (lines now : Nat) (hS : Hid (OkS S)) (hl : Hid (lines < 18446744073709551616)) (w : World) : Calls Try.prog 15 #[.agg (cs S), .int .i64 321, .int .u64 lines, .int .u64 now] w (RetU (rdF S 321 lines now) w) := by
  have R : Hid (Row (w.alloc (Obj.cells (cs S) 26)) w.heap.size 26 (cs S)) := row_new _ _ _
  have HB : Hid (Below w.heap.size w (w.alloc (Obj.cells (cs S) 26))) := by show Below _ _ _; exact (by repeat (first | (with_reducible first | exact Below.refl _ _ | assumption | exact Nat.le_refl _ | refine Below.drew ?_ | refine Below.alloc ?_ ?_ _ | refine Below.setCell ?_ ?_ _ | refine le_alloc ?_ | refine le_set ?_ | refine le_drew ?_ | refine below_step (by assumption) ?_ ?_ | refine le_below (by assumption) ?_) | (dsimp only; omega)))
  have HR : Hid (rdF S 321 lines now = S 15) := rfl
  have g5 : (cs S)[5]? = some (.int .u64 (S 5 : Nat)) := rfl
  have m1 : bits .and .u64 (lines : Int) 2696 = ((lines &&& 2696 : Nat) : Int) := u_and lines 2696 hl.out (by decide)
  have m2 : bits .or .u64 (S 5 : Int) ((lines &&& 2696 : Nat) : Int) = ((mipN S lines : Nat) : Int) := u_or (S 5) (lines &&& 2696) (hS.out.u 5 (by decide)) (and_lt2 _ _ (by decide))
  have ml : mipN S lines < 18446744073709551616 := or_lt (hS.out.u 5 (by decide)) (and_lt2 _ _ (by decide))
  have g15 : (cs S)[15]? = some (.int .u64 (S 15 : Nat)) := rfl
  clear ml
  go_enter Try.func15, Try.ntmps15
  go_wp2_with fail
  go_ret
  exact retU_mk (by rw [HR.out]) HB.out
set_option maxRecDepth 100000 in
theorem readr_322 (S : Nat → Nat) (lines now : Nat) (hS : Hid (OkS S)) (hl : Hid (lines < 18446744073709551616)) (w : World) : Calls Try.prog 15 #[.agg (cs S), .int .i64 322, .int .u64 lines, .int .u64 now] w (RetU (rdF S 322 lines now) w) := by
  have R : Hid (Row (w.alloc (Obj.cells (cs S) 26)) w.heap.size 26 (cs S)) := row_new _ _ _
  have HB : Hid (Below w.heap.size w (w.alloc (Obj.cells (cs S) 26))) := by show Below _ _ _; exact (by repeat (first | (with_reducible first | exact Below.refl _ _ | assumption | exact Nat.le_refl _ | refine Below.drew ?_ | refine Below.alloc ?_ ?_ _ | refine Below.setCell ?_ ?_ _ | refine le_alloc ?_ | refine le_set ?_ | refine le_drew ?_ | refine below_step (by assumption) ?_ ?_ | refine le_below (by assumption) ?_) | (dsimp only; omega)))
  have HR : Hid (rdF S 322 lines now = S 16) := rfl
  have g5 : (cs S)[5]? = some (.int .u64 (S 5 : Nat)) := rfl
  have m1 : bits .and .u64 (lines : Int) 2696 = ((lines &&& 2696 : Nat) : Int) := u_and lines 2696 hl.out (by decide)
  have m2 : bits .or .u64 (S 5 : Int) ((lines &&& 2696 : Nat) : Int) = ((mipN S lines : Nat) : Int) := u_or (S 5) (lines &&& 2696) (hS.out.u 5 (by decide)) (and_lt2 _ _ (by decide))
  have ml : mipN S lines < 18446744073709551616 := or_lt (hS.out.u 5 (by decide)) (and_lt2 _ _ (by decide))
  have g16 : (cs S)[16]? = some (.int .u64 (S 16 : Nat)) := rfl
  clear ml
  go_enter Try.func15, Try.ntmps15
  go_wp2_with fail
  go_ret
  exact retU_mk (by rw [HR.out]) HB.out
set_option maxRecDepth 100000 in
theorem readr_323 (S : Nat → Nat) (lines now : Nat) (hS : Hid (OkS S)) (hl : Hid (lines < 18446744073709551616)) (w : World) : Calls Try.prog 15 #[.agg (cs S), .int .i64 323, .int .u64 lines, .int .u64 now] w (RetU (rdF S 323 lines now) w) := by
  have R : Hid (Row (w.alloc (Obj.cells (cs S) 26)) w.heap.size 26 (cs S)) := row_new _ _ _
  have HB : Hid (Below w.heap.size w (w.alloc (Obj.cells (cs S) 26))) := by show Below _ _ _; exact (by repeat (first | (with_reducible first | exact Below.refl _ _ | assumption | exact Nat.le_refl _ | refine Below.drew ?_ | refine Below.alloc ?_ ?_ _ | refine Below.setCell ?_ ?_ _ | refine le_alloc ?_ | refine le_set ?_ | refine le_drew ?_ | refine below_step (by assumption) ?_ ?_ | refine le_below (by assumption) ?_) | (dsimp only; omega)))
  have HR : Hid (rdF S 323 lines now = S 17) := rfl
  have g5 : (cs S)[5]? = some (.int .u64 (S 5 : Nat)) := rfl
  have m1 : bits .and .u64 (lines : Int) 2696 = ((lines &&& 2696 : Nat) : Int) := u_and lines 2696 hl.out (by decide)
  have m2 : bits .or .u64 (S 5 : Int) ((lines &&& 2696 : Nat) : Int) = ((mipN S lines : Nat) : Int) := u_or (S 5) (lines &&& 2696) (hS.out.u 5 (by decide)) (and_lt2 _ _ (by decide))
  have ml : mipN S lines < 18446744073709551616 := or_lt (hS.out.u 5 (by decide)) (and_lt2 _ _ (by decide))
  have g17 : (cs S)[17]? = some (.int .u64 (S 17 : Nat)) := rfl
  clear ml
  go_enter Try.func15, Try.ntmps15
  go_wp2_with fail
  go_ret
  exact retU_mk (by rw [HR.out]) HB.out
set_option maxRecDepth 100000 in
theorem readr_384 (S : Nat → Nat) (lines now : Nat) (hS : Hid (OkS S)) (hl : Hid (lines < 18446744073709551616)) (w : World) : Calls Try.prog 15 #[.agg (cs S), .int .i64 384, .int .u64 lines, .int .u64 now] w (RetU (rdF S 384 lines now) w) := by
  have R : Hid (Row (w.alloc (Obj.cells (cs S) 26)) w.heap.size 26 (cs S)) := row_new _ _ _
  have HB : Hid (Below w.heap.size w (w.alloc (Obj.cells (cs S) 26))) := by show Below _ _ _; exact (by repeat (first | (with_reducible first | exact Below.refl _ _ | assumption | exact Nat.le_refl _ | refine Below.drew ?_ | refine Below.alloc ?_ ?_ _ | refine Below.setCell ?_ ?_ _ | refine le_alloc ?_ | refine le_set ?_ | refine le_drew ?_ | refine below_step (by assumption) ?_ ?_ | refine le_below (by assumption) ?_) | (dsimp only; omega)))
  have HR : Hid (rdF S 384 lines now = S 20) := rfl
  have g5 : (cs S)[5]? = some (.int .u64 (S 5 : Nat)) := rfl
  have m1 : bits .and .u64 (lines : Int) 2696 = ((lines &&& 2696 : Nat) : Int) := u_and lines 2696 hl.out (by decide)
  have m2 : bits .or .u64 (S 5 : Int) ((lines &&& 2696 : Nat) : Int) = ((mipN S lines : Nat) : Int) := u_or (S 5) (lines &&& 2696) (hS.out.u 5 (by decide)) (and_lt2 _ _ (by decide))
  have ml : mipN S lines < 18446744073709551616 := or_lt (hS.out.u 5 (by decide)) (and_lt2 _ _ (by decide))
  have g20 : (cs S)[20]? = some (.int .u64 (S 20 : Nat)) := rfl
  clear ml
  go_enter Try.func15, Try.ntmps15
  go_wp2_with fail
  go_ret
  exact retU_mk (by rw [HR.out]) HB.out
set_option maxRecDepth 100000 in
theorem readr_324 (S : Nat → Nat) (lines now : Nat) (hS : Hid (OkS S)) (hl : Hid (lines < 18446744073709551616)) (w : World) : Calls Try.prog 15 #[.agg (cs S), .int .i64 324, .int .u64 lines, .int .u64 now] w (RetU (rdF S 324 lines now) w) := by
  have R : Hid (Row (w.alloc (Obj.cells (cs S) 26)) w.heap.size 26 (cs S)) := row_new _ _ _
  have HB : Hid (Below w.heap.size w (w.alloc (Obj.cells (cs S) 26))) := by show Below _ _ _; exact (by repeat (first | (with_reducible first | exact Below.refl _ _ | assumption | exact Nat.le_refl _ | refine Below.drew ?_ | refine Below.alloc ?_ ?_ _ | refine Below.setCell ?_ ?_ _ | refine le_alloc ?_ | refine le_set ?_ | refine le_drew ?_ | refine below_step (by assumption) ?_ ?_ | refine le_below (by assumption) ?_) | (dsimp only; omega)))
  have HR : Hid (rdF S 324 lines now = mipN S lines &&& S 3) := rfl
  have g5 : (cs S)[5]? = some (.int .u64 (S 5 : Nat)) := rfl
  have m1 : bits .and .u64 (lines : Int) 2696 = ((lines &&& 2696 : Nat) : Int) := u_and lines 2696 hl.out (by decide)
  have m2 : bits .or .u64 (S 5 : Int) ((lines &&& 2696 : Nat) : Int) = ((mipN S lines : Nat) : Int) := u_or (S 5) (lines &&& 2696) (hS.out.u 5 (by decide)) (and_lt2 _ _ (by decide))
  have ml : mipN S lines < 18446744073709551616 := or_lt (hS.out.u 5 (by decide)) (and_lt2 _ _ (by decide))
  have g3 : (cs S)[3]? = some (.int .u64 (S 3 : Nat)) := rfl
  have a3 := Lib.hid (u_and (mipN S lines) (S 3) ml (hS.out.u 3 (by decide)))
  clear ml
  go_enter Try.func15, Try.ntmps15
  go_wp2_with fail
  go_ret
  exact retU_mk (by rw [HR.out]; exact a3.out) HB.out
set_option maxRecDepth 100000 in
theorem readr_o (S : Nat → Nat) (n : Int) (lines now : Nat) (hS : Hid (OkS S)) (hl : Hid (lines < 18446744073709551616)) (h0 : ¬ n = 1) (h1 : ¬ n = 2) (h2 : ¬ n = 3) (h3 : ¬ n = 256) (h4 : ¬ n = 260) (h5 : ¬ n = 261) (h6 : ¬ n = 262) (h7 : ¬ n = 320) (h8 : ¬ n = 321) (h9 : ¬ n = 322) (h10 : ¬ n = 323) (h11 : ¬ n = 324) (h12 : ¬ n = 384) (w : World) : Calls Try.prog 15 #[.agg (cs S), .int .i64 n, .int .u64 lines, .int .u64 now] w (RetU (rdF S n lines now) w) := by
  have R : Hid (Row (w.alloc (Obj.cells (cs S) 26)) w.heap.size 26 (cs S)) := row_new _ _ _
  have HB : Hid (Below w.heap.size w (w.alloc (Obj.cells (cs S) 26))) := by show Below _ _ _; exact (by repeat (first | (with_reducible first | exact Below.refl _ _ | assumption | exact Nat.le_refl _ | refine Below.drew ?_ | refine Below.alloc ?_ ?_ _ | refine Below.setCell ?_ ?_ _ | refine le_alloc ?_ | refine le_set ?_ | refine le_drew ?_ | refine below_step (by assumption) ?_ ?_ | refine le_below (by assumption) ?_) | (dsimp only; omega)))
  have g5 : (cs S)[5]? = some (.int .u64 (S 5 : Nat)) := rfl
  have m1 : bits .and .u64 (lines : Int) 2696 = ((lines &&& 2696 : Nat) : Int) := u_and lines 2696 hl.out (by decide)
  have m2 : bits .or .u64 (S 5 : Int) ((lines &&& 2696 : Nat) : Int) = ((mipN S lines : Nat) : Int) := u_or (S 5) (lines &&& 2696) (hS.out.u 5 (by decide)) (and_lt2 _ _ (by decide))
  have ml : mipN S lines < 18446744073709551616 := or_lt (hS.out.u 5 (by decide)) (and_lt2 _ _ (by decide))
  have e0 : (n == 1) = false := by rw [beq_eq_false_iff_ne]; exact h0
  have e1 : (n == 2) = false := by rw [beq_eq_false_iff_ne]; exact h1
  have e2 : (n == 3) = false := by rw [beq_eq_false_iff_ne]; exact h2
  have e3 : (n == 256) = false := by rw [beq_eq_false_iff_ne]; exact h3
  have e4 : (n == 260) = false := by rw [beq_eq_false_iff_ne]; exact h4
  have e5 : (n == 261) = false := by rw [beq_eq_false_iff_ne]; exact h5
  have e6 : (n == 262) = false := by rw [beq_eq_false_iff_ne]; exact h6
  have e7 : (n == 320) = false := by rw [beq_eq_false_iff_ne]; exact h7
  have e8 : (n == 321) = false := by rw [beq_eq_false_iff_ne]; exact h8
  have e9 : (n == 322) = false := by rw [beq_eq_false_iff_ne]; exact h9
  have e10 : (n == 323) = false := by rw [beq_eq_false_iff_ne]; exact h10
  have e11 : (n == 324) = false := by rw [beq_eq_false_iff_ne]; exact h11
  have e12 : (n == 384) = false := by rw [beq_eq_false_iff_ne]; exact h12
  have HH := Lib.hid (fun u => high_c S n lines now hS h0 h1 h2 h3 h4 h5 h6 h7 h8 h9 h10 h11 h12 u)
  clear ml h0 h1 h2 h3 h4 h5 h6 h7 h8 h9 h10 h11 h12
  go_enter Try.func15, Try.ntmps15
  go_wp2_with (refine wpList_load_row rfl 26 _ rfl w.heap.size rfl 26 (cs S) (0, 0) _ R.out Try.underlying26 rfl (infoS _) ?_)
  refine (HH.out _).mono ?_; rintro e w1 ⟨rfl, hb⟩
  replace HB := Lib.hid (below_step hb HB.out HB.out.size)
  clear hb
  go_wp2_with fail
  go_ret
  exact retU_mk rfl HB.out
theorem readr_c (S : Nat → Nat) (n : Int) (lines now : Nat) (hS : Hid (OkS S)) (hl : Hid (lines < 18446744073709551616)) (w : World) : Calls Try.prog 15 #[.agg (cs S), .int .i64 n, .int .u64 lines, .int .u64 now] w (RetU (rdF S n lines now) w) := by
  by_cases h0 : n = 1
  · subst h0; exact readr_1 S lines now hS hl w
  by_cases h1 : n = 2
  · subst h1; exact readr_2 S lines now hS hl w
  by_cases h2 : n = 3
  · subst h2; exact readr_3 S lines now hS hl w
  by_cases h3 : n = 256
  · subst h3; exact readr_256 S lines now hS hl w
  by_cases h4 : n = 260
  · subst h4; exact readr_260 S lines now hS hl w
  by_cases h5 : n = 261
  · subst h5; exact readr_261 S lines now hS hl w
  by_cases h6 : n = 262
  · subst h6; exact readr_262 S lines now hS hl w
  by_cases h7 : n = 320
  · subst h7; exact readr_320 S lines now hS hl w
  by_cases h8 : n = 321
  · subst h8; exact readr_321 S lines now hS hl w
  by_cases h9 : n = 322
  · subst h9; exact readr_322 S lines now hS hl w
  by_cases h10 : n = 323
  · subst h10; exact readr_323 S lines now hS hl w
  by_cases h11 : n = 324
  · subst h11; exact readr_324 S lines now hS hl w
  by_cases h12 : n = 384
  · subst h12; exact readr_384 S lines now hS hl w
  exact readr_o S n lines now hS hl h0 h1 h2 h3 h4 h5 h6 h7 h8 h9 h10 h11 h12 w
end Go.Proofs.Ytmlbobjbkbcabaa
