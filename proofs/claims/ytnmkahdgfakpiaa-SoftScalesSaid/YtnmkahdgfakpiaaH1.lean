/- SoftModes: the rows of answers, and the first loop. -/
import Derived.Test.YtnmkahdgfakpiaaF2
import Derived.Test.YtnmkahdgfakpiaaG4
import Derived.LoopTactic
namespace Go.Proofs.Ytnmkahdgfakpiaa
open Go.ChangeShapes Go.WideShapes Go.ChangeAt Go.RowKit
set_option linter.unusedVariables false
set_option linter.unusedSimpArgs false
/-- The first k answers stand in their rows. -/
def Rows2 (w : World) (B1 B2 k : Nat) (F : Int → Nat × Int) : Prop :=
  (∀ o : Nat, o < 5 → w.cell? ⟨B1, o, none⟩ = some (.int .u64 ((if o < k then (F o).1 else 0 : Nat) : Int)) ∧ w.cell? ⟨B2, o, none⟩ = some (.int .i64 (if o < k then (F o).2 else 0))) ∧
  (∀ o, w.frozen? ⟨B1, o, none⟩ = false) ∧ (∀ o, w.frozen? ⟨B2, o, none⟩ = false)
theorem rows_below {W w' : World} {B1 B2 k : Nat} {F : Int → Nat × Int} (h : Rows2 W B1 B2 k F) (hb : Below W.heap.size W w') (h1 : B1 < W.heap.size) (h2 : B2 < W.heap.size) : Rows2 w' B1 B2 k F := by
  obtain ⟨hc, hf⟩ := bcell hb
  obtain ⟨a, b, c⟩ := h
  refine ⟨fun o ho => ?_, fun o => by rw [hf _ _ h1]; exact b o, fun o => by rw [hf _ _ h2]; exact c o⟩
  rw [hc _ _ h1, hc _ _ h2]; exact a o ho
theorem rows_step {w : World} {B1 B2 k : Nat} {F : Int → Nat × Int} (h : Rows2 w B1 B2 k F) (hk : k < 5) (hB : B1 ≠ B2) (x y : Int) (hx : x = (F k).1) (hy : y = (F k).2) :
    Rows2 ((w.setCell ⟨B1, k, none⟩ (.int .u64 x)).setCell ⟨B2, k, none⟩ (.int .i64 y)) B1 B2 (k + 1) F := by
  obtain ⟨a, b, c⟩ := h
  have hB' : B2 ≠ B1 := fun e => hB e.symm
  refine ⟨fun o ho => ⟨?_, ?_⟩, fun o => ?_, fun o => ?_⟩
  · rw [cell_set_far hB']
    by_cases e : o = k
    · subst e
      rw [World.cell?_setCell_same _ _ _ (a o ho).1, hx, if_pos (by omega)]
    · rw [World.cell?_setCell_other _ _ _ _ (by intro h; cases h; exact e rfl), (a o ho).1]
      by_cases h1 : o < k
      · rw [if_pos h1, if_pos (by omega)]
      · rw [if_neg h1, if_neg (by omega)]
  · by_cases e : o = k
    · subst e
      rw [World.cell?_setCell_same _ _ _ (by rw [cell_set_far hB]; exact (a o ho).2), hy, if_pos (by omega)]
    · rw [World.cell?_setCell_other _ _ _ _ (by intro h; cases h; exact e rfl), cell_set_far hB, (a o ho).2]
      by_cases h1 : o < k
      · rw [if_pos h1, if_pos (by omega)]
      · rw [if_neg h1, if_neg (by omega)]
  · simp [b]
  · simp [c]
def modeV (n : Int) : Int := (IntKind.u64.wrap n) % 5
theorem mode_v (n : Int) (w : World) : Calls Try.prog 26 #[.int .i64 n] w (RetI (modeV n) w) := by
  have h0 : 0 ≤ IntKind.u64.wrap n := by rw [IntKind.wrap_u64]; omega
  have e : (IntKind.u64.wrap n).tmod 5 = IntKind.u64.wrap n % 5 := Int.tmod_eq_emod_of_nonneg h0
  have E := Lib.hid e
  clear h0 e
  go_enter Try.func26, Try.ntmps26
  go_wp2
  go_ret
  refine retI_mk ?_ (by repeat (first | (with_reducible first | exact Below.refl _ _ | assumption | exact Nat.le_refl _ | refine Below.drew ?_ | refine Below.alloc ?_ ?_ _ | refine Below.setCell ?_ ?_ _ | refine le_alloc ?_ | refine le_set ?_ | refine le_drew ?_ | refine below_step (by assumption) ?_ ?_ | refine le_below (by assumption) ?_) | (dsimp only; omega)))
  rw [E.out, IntWalk.wrap64_in _ ⟨by omega, by omega⟩]; rfl
theorem mode_cases (n : Int) : modeV n = 0 ∨ modeV n = 1 ∨ modeV n = 2 ∨ modeV n = 3 ∨ modeV n = 4 := by unfold modeV; omega
theorem rows_start (w : World) (F : Int → Nat × Int) (t1 t2 : TypeId) : Rows2 ((w.alloc (Obj.cells #[.int .u64 0, .int .u64 0, .int .u64 0, .int .u64 0, .int .u64 0] t1)).alloc (Obj.cells #[.int .i64 0, .int .i64 0, .int .i64 0, .int .i64 0, .int .i64 0] t2)) w.heap.size (w.heap.size + 1) 0 F := by
  refine ⟨fun o ho => ⟨?_, ?_⟩, fun o => ?_, fun o => ?_⟩
  · rw [World.cell?_alloc_past _ _ _ (by simp only [sz_alloc]; omega), World.cell?_alloc_at _ _ _ _ rfl]
    have : o = 0 ∨ o = 1 ∨ o = 2 ∨ o = 3 ∨ o = 4 := by omega
    rcases this with rfl | rfl | rfl | rfl | rfl <;> rfl
  · rw [World.cell?_alloc_at _ _ _ _ (by simp only [sz_alloc])]
    have : o = 0 ∨ o = 1 ∨ o = 2 ∨ o = 3 ∨ o = 4 := by omega
    rcases this with rfl | rfl | rfl | rfl | rfl <;> rfl
  · go_simp
  · go_simp
def RowK (w : World) (B k : Nat) (G : Int → Int) : Prop := (∀ o : Nat, o < 5 → w.cell? ⟨B, o, none⟩ = some (.int .i64 (if o < k then G o else 0))) ∧ (∀ o, w.frozen? ⟨B, o, none⟩ = false)
theorem rowk_start (w : World) (G : Int → Int) (t1 : TypeId) : RowK (w.alloc (Obj.cells #[.int .i64 0, .int .i64 0, .int .i64 0, .int .i64 0, .int .i64 0] t1)) w.heap.size 0 G := by
  refine ⟨fun o ho => ?_, fun o => ?_⟩
  · rw [World.cell?_alloc_at _ _ _ _ rfl]
    have : o = 0 ∨ o = 1 ∨ o = 2 ∨ o = 3 ∨ o = 4 := by omega
    rcases this with rfl | rfl | rfl | rfl | rfl <;> rfl
  · go_simp
theorem rowk_below {W w' : World} {B k : Nat} {G : Int → Int} (h : RowK W B k G) (hb : Below W.heap.size W w') (h1 : B < W.heap.size) : RowK w' B k G := by
  obtain ⟨hc, hf⟩ := bcell hb
  obtain ⟨a, b⟩ := h
  exact ⟨fun o ho => by rw [hc _ _ h1]; exact a o ho, fun o => by rw [hf _ _ h1]; exact b o⟩
theorem rowk_step {w : World} {B k : Nat} {G : Int → Int} (h : RowK w B k G) (hk : k < 5) (y : Int) (hy : y = G k) : RowK (w.setCell ⟨B, k, none⟩ (.int .i64 y)) B (k + 1) G := by
  obtain ⟨a, b⟩ := h
  refine ⟨fun o ho => ?_, fun o => by simp [b]⟩
  by_cases e : o = k
  · subst e
    rw [World.cell?_setCell_same _ _ _ (a o ho), hy, if_pos (by omega)]
  · rw [World.cell?_setCell_other _ _ _ _ (by intro h; cases h; exact e rfl), a o ho]
    by_cases h1 : o < k
    · rw [if_pos h1, if_pos (by omega)]
    · rw [if_neg h1, if_neg (by omega)]
theorem rows_far {w : World} {B1 B2 B k : Nat} {o : Nat} {v : Value} {F : Int → Nat × Int} (h : Rows2 w B1 B2 k F) (h1 : B ≠ B1) (h2 : B ≠ B2) : Rows2 (w.setCell ⟨B, o, none⟩ v) B1 B2 k F := by
  obtain ⟨a, b, c⟩ := h
  exact ⟨fun p hp => by rw [cell_set_far h1, cell_set_far h2]; exact a p hp, fun p => by simp [b], fun p => by simp [c]⟩
theorem u64_andNot_num (a k : Nat) (hk : k < 64) (ha : a < 2 ^ (k + 1)) (h64 : 2 ^ (k + 1) ≤ 18446744073709551616) : bits .andNot .u64 (a : Int) ((2 ^ k : Nat) : Int) = ((a % 2 ^ k : Nat) : Int) := by
  have hp : 2 ^ k < 18446744073709551616 := by rw [pow64]; exact Nat.pow_lt_pow_right (by decide) hk
  rw [u64_andNot_nat a (2 ^ k) (by omega) hp]
  congr 1
  apply Nat.eq_of_testBit_eq
  intro i
  rw [Nat.testBit_and, show (18446744073709551615 : Nat) - 2 ^ k = 2 ^ 64 - (2 ^ k + 1) by omega, Nat.testBit_two_pow_sub_succ (by rw [← pow64]; exact hp), Nat.testBit_two_pow, Nat.testBit_mod_two_pow]
  by_cases h1 : i < k
  · have : i < 64 := by omega
    have h2 : ¬ k = i := by omega
    simp [h1, h2, this]
  · by_cases h3 : i = k
    · subst h3; simp
    · have : a.testBit i = false := Nat.testBit_lt_two_pow (Nat.lt_of_lt_of_le ha (Nat.pow_le_pow_right (by decide) (by omega)))
      simp [this]
theorem key_4 (a : Nat) (ha : Hid (a < 18446744073709551616)) (w : World) : Calls Try.prog 28 #[.int .i64 4, .int .u64 a] w (RetI (keyI false a) w) := by
  have HK : Hid (keyI false a = if a / 2147483648 % 2 = 1 then -((a % 2147483648 : Nat) : Int) else ((a % 2147483648 : Nat) : Int)) := rfl
  obtain ⟨x, hx, hlt, h1, h2⟩ : ∃ x, x = a % 4294967296 ∧ x < 4294967296 ∧ a / 2147483648 % 2 = x / 2147483648 % 2 ∧ a % 2147483648 = x % 2147483648 := ⟨_, rfl, by have := ha.out; omega, by omega, by omega⟩
  rw [h1, h2] at HK
  have e1 := and_bit x 31 (by omega) (by decide)
  rw [show ((2 ^ 31 : Nat) : Int) = 2147483648 by decide] at e1
  have e2 := u64_andNot_num x 31 (by decide) (by show x < 4294967296; exact hlt) (by decide)
  rw [show ((2 ^ 31 : Nat) : Int) = 2147483648 by decide, show (2 : Nat) ^ 31 = 2147483648 by decide] at e2
  rw [show (2 : Nat) ^ 31 = 2147483648 by decide] at e1
  have e3 : wrap64 ((x % 2147483648 : Nat) : Int) = ((x % 2147483648 : Nat) : Int) := wrap64_nat _ (by omega)
  have e4 : wrap64 (-((x % 2147483648 : Nat) : Int)) = -((x % 2147483648 : Nat) : Int) := IntWalk.wrap64_in _ ⟨by omega, by omega⟩
  have H2 : Hid (bits .andNot .u64 (x : Int) 2147483648 = ((x % 2147483648 : Nat) : Int)) := e2
  have H3 := Lib.hid e3; have H4 := Lib.hid e4
  by_cases hb : x / 2147483648 % 2 = 1
  · have b1 : (bits .and .u64 (x : Int) 2147483648 != 0) = true := by rw [e1]; exact decide_eq_true hb
    have HV : Hid (keyI false a = -((x % 2147483648 : Nat) : Int)) := by show _ = _; rw [HK.out, if_pos hb]
    clear e1 e2 e3 e4 hb h1 h2
    go_enter Try.func28, Try.ntmps28
    go_wp2_with fail
    refine (mask_4 a ha _).mono ?_; rintro e w1 ⟨rfl, hb1⟩
    rw [← hx]
    clear hx hlt
    go_wp2_with fail
    go_ret
    exact retI_mk (by rw [H2.out, H3.out, H4.out, HV.out]) (by repeat (first | (with_reducible first | exact Below.refl _ _ | assumption | exact Nat.le_refl _ | refine Below.drew ?_ | refine Below.alloc ?_ ?_ _ | refine Below.setCell ?_ ?_ _ | refine le_alloc ?_ | refine le_set ?_ | refine le_drew ?_ | refine below_step (by assumption) ?_ ?_ | refine le_below (by assumption) ?_) | (dsimp only; omega)))
  · have b1 : (bits .and .u64 (x : Int) 2147483648 != 0) = false := by rw [e1]; exact decide_eq_false hb
    have HV : Hid (keyI false a = ((x : Nat) : Int)) := by show _ = _; rw [HK.out, if_neg hb]; omega
    have e5 : wrap64 (x : Int) = x := wrap64_nat _ (by omega)
    have H5 := Lib.hid e5
    clear e1 e2 e3 e4 e5 hb h1 h2
    go_enter Try.func28, Try.ntmps28
    go_wp2_with fail
    refine (mask_4 a ha _).mono ?_; rintro e w1 ⟨rfl, hb1⟩
    rw [← hx]
    have hlt' : Hid (x < 4294967296) := hlt
    clear hx hlt
    go_wp2_with fail
    go_ret
    exact retI_mk (by rw [HV.out]; first | rfl | exact H5.out | omega) (by repeat (first | (with_reducible first | exact Below.refl _ _ | assumption | exact Nat.le_refl _ | refine Below.drew ?_ | refine Below.alloc ?_ ?_ _ | refine Below.setCell ?_ ?_ _ | refine le_alloc ?_ | refine le_set ?_ | refine le_drew ?_ | refine below_step (by assumption) ?_ ?_ | refine le_below (by assumption) ?_) | (dsimp only; omega)))
theorem key_8 (a : Nat) (ha : Hid (a < 18446744073709551616)) (w : World) : Calls Try.prog 28 #[.int .i64 8, .int .u64 a] w (RetI (keyI true a) w) := by
  have HK : Hid (keyI true a = if a / 9223372036854775808 % 2 = 1 then -((a % 9223372036854775808 : Nat) : Int) else ((a % 9223372036854775808 : Nat) : Int)) := rfl
  obtain ⟨x, hx, hlt, h1, h2⟩ : ∃ x, x = a ∧ x < 18446744073709551616 ∧ a / 9223372036854775808 % 2 = x / 9223372036854775808 % 2 ∧ a % 9223372036854775808 = x % 9223372036854775808 := ⟨_, rfl, by have := ha.out; omega, by omega, by omega⟩
  rw [h1, h2] at HK
  have e1 := and_bit x 63 (by omega) (by decide)
  rw [show ((2 ^ 63 : Nat) : Int) = 9223372036854775808 by decide] at e1
  have e2 := u64_andNot_num x 63 (by decide) (by show x < 18446744073709551616; exact hlt) (by decide)
  rw [show ((2 ^ 63 : Nat) : Int) = 9223372036854775808 by decide, show (2 : Nat) ^ 63 = 9223372036854775808 by decide] at e2
  rw [show (2 : Nat) ^ 63 = 9223372036854775808 by decide] at e1
  have e3 : wrap64 ((x % 9223372036854775808 : Nat) : Int) = ((x % 9223372036854775808 : Nat) : Int) := wrap64_nat _ (by omega)
  have e4 : wrap64 (-((x % 9223372036854775808 : Nat) : Int)) = -((x % 9223372036854775808 : Nat) : Int) := IntWalk.wrap64_in _ ⟨by omega, by omega⟩
  have H2 : Hid (bits .andNot .u64 (x : Int) 9223372036854775808 = ((x % 9223372036854775808 : Nat) : Int)) := e2
  have H3 := Lib.hid e3; have H4 := Lib.hid e4
  by_cases hb : x / 9223372036854775808 % 2 = 1
  · have b1 : (bits .and .u64 (x : Int) 9223372036854775808 != 0) = true := by rw [e1]; exact decide_eq_true hb
    have HV : Hid (keyI true a = -((x % 9223372036854775808 : Nat) : Int)) := by show _ = _; rw [HK.out, if_pos hb]
    clear e1 e2 e3 e4 hb h1 h2
    go_enter Try.func28, Try.ntmps28
    go_wp2_with fail
    refine (mask_8 a ha _).mono ?_; rintro e w1 ⟨rfl, hb1⟩
    rw [← hx]
    clear hx hlt
    go_wp2_with fail
    go_ret
    exact retI_mk (by rw [H2.out, H3.out, H4.out, HV.out]) (by repeat (first | (with_reducible first | exact Below.refl _ _ | assumption | exact Nat.le_refl _ | refine Below.drew ?_ | refine Below.alloc ?_ ?_ _ | refine Below.setCell ?_ ?_ _ | refine le_alloc ?_ | refine le_set ?_ | refine le_drew ?_ | refine below_step (by assumption) ?_ ?_ | refine le_below (by assumption) ?_) | (dsimp only; omega)))
  · have b1 : (bits .and .u64 (x : Int) 9223372036854775808 != 0) = false := by rw [e1]; exact decide_eq_false hb
    have HV : Hid (keyI true a = ((x : Nat) : Int)) := by show _ = _; rw [HK.out, if_neg hb]; omega
    have e5 : wrap64 (x : Int) = x := wrap64_nat _ (by omega)
    have H5 := Lib.hid e5
    clear e1 e2 e3 e4 e5 hb h1 h2
    go_enter Try.func28, Try.ntmps28
    go_wp2_with fail
    refine (mask_8 a ha _).mono ?_; rintro e w1 ⟨rfl, hb1⟩
    rw [← hx]
    have hlt' : Hid (x < 18446744073709551616) := hlt
    clear hx hlt
    go_wp2_with fail
    go_ret
    exact retI_mk (by rw [HV.out]; first | rfl | exact H5.out | omega) (by repeat (first | (with_reducible first | exact Below.refl _ _ | assumption | exact Nat.le_refl _ | refine Below.drew ?_ | refine Below.alloc ?_ ?_ _ | refine Below.setCell ?_ ?_ _ | refine le_alloc ?_ | refine le_set ?_ | refine le_drew ?_ | refine below_step (by assumption) ?_ ?_ | refine le_below (by assumption) ?_) | (dsimp only; omega)))
end Go.Proofs.Ytnmkahdgfakpiaa
