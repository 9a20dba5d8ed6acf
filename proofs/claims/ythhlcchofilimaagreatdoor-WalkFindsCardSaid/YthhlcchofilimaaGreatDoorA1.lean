/- The document's Mode, Allows, Page. -/
import Derived.Test.YthhlcchofilimaaGreatDoorYD
namespace Go.Proofs.YthhlcchofilimaaGreatDoor
open Go.ChangeShapes Go.WideShapes Go.ChangeAt Go.RowKit Go.Sort Y
set_option linter.unusedVariables false
set_option linter.unusedSimpArgs false

theorem e64 {x y : Nat} (hx : x < 18446744073709551616) (hy : y < 18446744073709551616) (h : ∀ i, i < 64 → x.testBit i = y.testBit i) : x = y := by
  apply Nat.eq_of_testBit_eq
  intro i
  by_cases hi : i < 64
  · exact h i hi
  · have hp : 2 ^ 64 ≤ 2 ^ i := Nat.pow_le_pow_right (by decide) (by omega)
    rw [Nat.testBit_lt_two_pow (Nat.lt_of_lt_of_le hx hp), Nat.testBit_lt_two_pow (Nat.lt_of_lt_of_le hy hp)]
/-- A mode that is none is taken for U. -/
def tkI (m : Int) : Int := if m = 3 then 3 else if m = 1 then 1 else 0
theorem bit_val (v n : Nat) (hv : v < 18446744073709551616) : (bits .and .u64 ((v : Int) / 2 ^ n) 1 == 1) = v.testBit n := by
  have e : (v : Int) / 2 ^ n = ((v / 2 ^ n : Nat) : Int) := by simp
  have h := u_and (v / 2 ^ n) 1 (Nat.lt_of_le_of_lt (Nat.div_le_self _ _) hv) (by decide)
  rw [e]
  have h2 : bits .and .u64 ((v / 2 ^ n : Nat) : Int) 1 = ((v / 2 ^ n % 2 : Nat) : Int) := by rw [show (1 : Int) = ((1 : Nat) : Int) from rfl, h, Nat.and_one_is_mod]
  rw [h2, Nat.testBit_eq_decide_div_mod_eq, show (1 : Int) = ((1 : Nat) : Int) from rfl, cast_beq]
  exact Bool.eq_iff_iff.2 (by simp)
theorem bit_c (v n : Nat) (hv : Hid (v < 18446744073709551616)) (hn : n < 64) (w : World) : Calls Tryz.prog 43 #[.int .u64 v, .int .i64 n] w (RetBX (v.testBit n) w) := by
  go_enter Tryz.func43, Tryz.ntmps43
  go_wp2_with fail
  go_ret
  exact retBX_mk (bit_val v n hv.out)
/-- By which mode an access is judged. -/
def modeF (S : Nat → Nat) (m k : Int) : Int := if m = 3 ∧ k ≠ 0 ∧ (S 0).testBit 17 = true then tkI ((S 0 / 2048 % 4 : Nat) : Int) else tkI m
theorem mp_val (s : Nat) (hs : s < 18446744073709551616) : wrap64 ((IntKind.u64.wrap ((s : Int) / 2048)).tmod 4) = ((s / 2048 % 4 : Nat) : Int) := by
  have e : IntKind.u64.wrap ((s : Int) / 2048) = ((s / 2048 : Nat) : Int) := by rw [IntKind.wrap_u64]; omega
  rw [e, Int.tmod_eq_emod_of_nonneg (by omega)]
  unfold wrap64; omega
/-- The page fault of a kind; the access fault. -/
def pageN (k : Int) : Nat := if k = 0 then 12 else if k = 2 ∨ k = 3 then 15 else 13
def faultN (k : Int) : Nat := if k = 0 then 1 else if k = 2 ∨ k = 3 then 7 else 5
theorem pager_c (k : Int) (w : World) : Calls Tryz.prog 38 #[.int .i64 k] w (RetUX (pageN k) w) := by
  by_cases h0 : k = 0
  · subst h0
    go_enter Tryz.func38, Tryz.ntmps38
    go_wp2_with fail
    go_ret
    exact retUX_mk rfl
  by_cases h2 : k = 2
  · subst h2
    go_enter Tryz.func38, Tryz.ntmps38
    go_wp2_with fail
    go_ret
    exact retUX_mk rfl
  by_cases h3 : k = 3
  · subst h3
    go_enter Tryz.func38, Tryz.ntmps38
    go_wp2_with fail
    go_ret
    exact retUX_mk rfl
  have e0 : (k == 0) = false := by simpa using h0
  have e2 : (k == 2) = false := by simpa using h2
  have e3 : (k == 3) = false := by simpa using h3
  have e : Hid (pageN k = 13) := by show _ = _; unfold pageN; rw [if_neg h0, if_neg (by omega)]
  clear h0 h2 h3
  go_enter Tryz.func38, Tryz.ntmps38
  go_wp2_with fail
  go_ret
  exact retUX_mk (congrArg Nat.cast e.out.symm)
/-- Does an entry let an access be made? -/
def allowG (r w x u a d sum mxr : Bool) (m k : Int) : Bool :=
  (if k = 0 then x else if k = 2 then w else if k = 3 then r && w else r || x && mxr) && (if m = 1 then !u || sum && decide (k ≠ 0) else u) && a && (d || !decide (k = 2 ∨ k = 3))
def permB (S : Nat → Nat) (m k : Int) (e : Nat) : Bool := allowG (e.testBit 1) (e.testBit 2) (e.testBit 3) (e.testBit 4) (e.testBit 6) (e.testBit 7) ((S 0).testBit 18) ((S 0).testBit 19) m k
set_option maxRecDepth 100000 in
set_option maxHeartbeats 2000000 in
theorem allowr_0_1 (r w x u a d sum mxr : Bool) (c s e : Nat) 
    (P : Hid (∀ W, Calls Tryz.prog 43 #[.int .u64 e, .int .i64 1] W (RetBX r W) ∧ Calls Tryz.prog 43 #[.int .u64 e, .int .i64 2] W (RetBX w W) ∧ Calls Tryz.prog 43 #[.int .u64 e, .int .i64 3] W (RetBX x W) ∧ Calls Tryz.prog 43 #[.int .u64 e, .int .i64 4] W (RetBX u W) ∧ Calls Tryz.prog 43 #[.int .u64 e, .int .i64 6] W (RetBX a W) ∧ Calls Tryz.prog 43 #[.int .u64 e, .int .i64 7] W (RetBX d W) ∧ Calls Tryz.prog 43 #[.int .u64 s, .int .i64 18] W (RetBX sum W) ∧ Calls Tryz.prog 43 #[.int .u64 s, .int .i64 19] W (RetBX mxr W)))
    (W : World) (h0 : W.cell? ⟨c, 0, none⟩ = some (.int .u64 (s : Nat))) : Calls Tryz.prog 44 #[.pointer (some ⟨c, 0, none⟩), .int .i64 1, .int .i64 0, .int .u64 e] W (RetBX (allowG r w x u a d sum mxr 1 0) W) := by
  obtain ⟨R, hR⟩ : ∃ R, allowG r w x u a d sum mxr 1 0 = R := ⟨_, rfl⟩
  have HR : Hid (allowG r w x u a d sum mxr 1 0 = R) := hR
  rw [hR]
  clear hR
  go_enter Tryz.func44, Tryz.ntmps44
  go_wp2_with fail
  refine (P.out _).1.mono ?_; rintro e1 w1 ⟨rfl, h⟩; replace h := h.symm; subst h
  go_wp2_with fail
  refine (P.out _).2.1.mono ?_; rintro e1 w1 ⟨rfl, h⟩; replace h := h.symm; subst h
  go_wp2_with fail
  refine (P.out _).2.2.1.mono ?_; rintro e1 w1 ⟨rfl, h⟩; replace h := h.symm; subst h
  go_wp2_with fail
  refine (P.out _).2.2.2.1.mono ?_; rintro e1 w1 ⟨rfl, h⟩; replace h := h.symm; subst h
  go_wp2_with fail
  refine (P.out _).2.2.2.2.1.mono ?_; rintro e1 w1 ⟨rfl, h⟩; replace h := h.symm; subst h
  go_wp2_with fail
  refine (P.out _).2.2.2.2.2.1.mono ?_; rintro e1 w1 ⟨rfl, h⟩; replace h := h.symm; subst h
  go_wp2_with fail
  refine (P.out _).2.2.2.2.2.2.1.mono ?_; rintro e1 w1 ⟨rfl, h⟩; replace h := h.symm; subst h
  go_wp2_with fail
  refine (P.out _).2.2.2.2.2.2.2.mono ?_; rintro e1 w1 ⟨rfl, h⟩; replace h := h.symm; subst h
  clear P
  go_wp2_with fail
  all_goals
    go_ret
    refine retBX_mk ?_
    rw [← HR.out]
    clear HR h0
    simp_all [allowG]
set_option maxRecDepth 100000 in
set_option maxHeartbeats 2000000 in
theorem allowr_0_n (r w x u a d sum mxr : Bool) (c s e : Nat) (m : Int) (m1 : (m == 1) = false) 
    (P : Hid (∀ W, Calls Tryz.prog 43 #[.int .u64 e, .int .i64 1] W (RetBX r W) ∧ Calls Tryz.prog 43 #[.int .u64 e, .int .i64 2] W (RetBX w W) ∧ Calls Tryz.prog 43 #[.int .u64 e, .int .i64 3] W (RetBX x W) ∧ Calls Tryz.prog 43 #[.int .u64 e, .int .i64 4] W (RetBX u W) ∧ Calls Tryz.prog 43 #[.int .u64 e, .int .i64 6] W (RetBX a W) ∧ Calls Tryz.prog 43 #[.int .u64 e, .int .i64 7] W (RetBX d W) ∧ Calls Tryz.prog 43 #[.int .u64 s, .int .i64 18] W (RetBX sum W) ∧ Calls Tryz.prog 43 #[.int .u64 s, .int .i64 19] W (RetBX mxr W)))
    (W : World) (h0 : W.cell? ⟨c, 0, none⟩ = some (.int .u64 (s : Nat))) : Calls Tryz.prog 44 #[.pointer (some ⟨c, 0, none⟩), .int .i64 m, .int .i64 0, .int .u64 e] W (RetBX (allowG r w x u a d sum mxr m 0) W) := by
  obtain ⟨R, hR⟩ : ∃ R, allowG r w x u a d sum mxr m 0 = R := ⟨_, rfl⟩
  have HR : Hid (allowG r w x u a d sum mxr m 0 = R) := hR
  rw [hR]
  clear hR
  go_enter Tryz.func44, Tryz.ntmps44
  go_wp2_with fail
  refine (P.out _).1.mono ?_; rintro e1 w1 ⟨rfl, h⟩; replace h := h.symm; subst h
  go_wp2_with fail
  refine (P.out _).2.1.mono ?_; rintro e1 w1 ⟨rfl, h⟩; replace h := h.symm; subst h
  go_wp2_with fail
  refine (P.out _).2.2.1.mono ?_; rintro e1 w1 ⟨rfl, h⟩; replace h := h.symm; subst h
  go_wp2_with fail
  refine (P.out _).2.2.2.1.mono ?_; rintro e1 w1 ⟨rfl, h⟩; replace h := h.symm; subst h
  go_wp2_with fail
  refine (P.out _).2.2.2.2.1.mono ?_; rintro e1 w1 ⟨rfl, h⟩; replace h := h.symm; subst h
  go_wp2_with fail
  refine (P.out _).2.2.2.2.2.1.mono ?_; rintro e1 w1 ⟨rfl, h⟩; replace h := h.symm; subst h
  go_wp2_with fail
  refine (P.out _).2.2.2.2.2.2.1.mono ?_; rintro e1 w1 ⟨rfl, h⟩; replace h := h.symm; subst h
  go_wp2_with fail
  refine (P.out _).2.2.2.2.2.2.2.mono ?_; rintro e1 w1 ⟨rfl, h⟩; replace h := h.symm; subst h
  clear P
  go_wp2_with fail
  all_goals
    go_ret
    refine retBX_mk ?_
    rw [← HR.out]
    clear HR h0
    simp_all [allowG]
set_option maxRecDepth 100000 in
set_option maxHeartbeats 2000000 in
theorem allowr_2_1 (r w x u a d sum mxr : Bool) (c s e : Nat) 
    (P : Hid (∀ W, Calls Tryz.prog 43 #[.int .u64 e, .int .i64 1] W (RetBX r W) ∧ Calls Tryz.prog 43 #[.int .u64 e, .int .i64 2] W (RetBX w W) ∧ Calls Tryz.prog 43 #[.int .u64 e, .int .i64 3] W (RetBX x W) ∧ Calls Tryz.prog 43 #[.int .u64 e, .int .i64 4] W (RetBX u W) ∧ Calls Tryz.prog 43 #[.int .u64 e, .int .i64 6] W (RetBX a W) ∧ Calls Tryz.prog 43 #[.int .u64 e, .int .i64 7] W (RetBX d W) ∧ Calls Tryz.prog 43 #[.int .u64 s, .int .i64 18] W (RetBX sum W) ∧ Calls Tryz.prog 43 #[.int .u64 s, .int .i64 19] W (RetBX mxr W)))
    (W : World) (h0 : W.cell? ⟨c, 0, none⟩ = some (.int .u64 (s : Nat))) : Calls Tryz.prog 44 #[.pointer (some ⟨c, 0, none⟩), .int .i64 1, .int .i64 2, .int .u64 e] W (RetBX (allowG r w x u a d sum mxr 1 2) W) := by
  obtain ⟨R, hR⟩ : ∃ R, allowG r w x u a d sum mxr 1 2 = R := ⟨_, rfl⟩
  have HR : Hid (allowG r w x u a d sum mxr 1 2 = R) := hR
  rw [hR]
  clear hR
  go_enter Tryz.func44, Tryz.ntmps44
  go_wp2_with fail
  refine (P.out _).1.mono ?_; rintro e1 w1 ⟨rfl, h⟩; replace h := h.symm; subst h
  go_wp2_with fail
  refine (P.out _).2.1.mono ?_; rintro e1 w1 ⟨rfl, h⟩; replace h := h.symm; subst h
  go_wp2_with fail
  refine (P.out _).2.2.1.mono ?_; rintro e1 w1 ⟨rfl, h⟩; replace h := h.symm; subst h
  go_wp2_with fail
  refine (P.out _).2.2.2.1.mono ?_; rintro e1 w1 ⟨rfl, h⟩; replace h := h.symm; subst h
  go_wp2_with fail
  refine (P.out _).2.2.2.2.1.mono ?_; rintro e1 w1 ⟨rfl, h⟩; replace h := h.symm; subst h
  go_wp2_with fail
  refine (P.out _).2.2.2.2.2.1.mono ?_; rintro e1 w1 ⟨rfl, h⟩; replace h := h.symm; subst h
  go_wp2_with fail
  refine (P.out _).2.2.2.2.2.2.1.mono ?_; rintro e1 w1 ⟨rfl, h⟩; replace h := h.symm; subst h
  go_wp2_with fail
  refine (P.out _).2.2.2.2.2.2.2.mono ?_; rintro e1 w1 ⟨rfl, h⟩; replace h := h.symm; subst h
  clear P
  go_wp2_with fail
  all_goals
    go_ret
    refine retBX_mk ?_
    rw [← HR.out]
    clear HR h0
    simp_all [allowG]
set_option maxRecDepth 100000 in
set_option maxHeartbeats 2000000 in
theorem allowr_2_n (r w x u a d sum mxr : Bool) (c s e : Nat) (m : Int) (m1 : (m == 1) = false) 
    (P : Hid (∀ W, Calls Tryz.prog 43 #[.int .u64 e, .int .i64 1] W (RetBX r W) ∧ Calls Tryz.prog 43 #[.int .u64 e, .int .i64 2] W (RetBX w W) ∧ Calls Tryz.prog 43 #[.int .u64 e, .int .i64 3] W (RetBX x W) ∧ Calls Tryz.prog 43 #[.int .u64 e, .int .i64 4] W (RetBX u W) ∧ Calls Tryz.prog 43 #[.int .u64 e, .int .i64 6] W (RetBX a W) ∧ Calls Tryz.prog 43 #[.int .u64 e, .int .i64 7] W (RetBX d W) ∧ Calls Tryz.prog 43 #[.int .u64 s, .int .i64 18] W (RetBX sum W) ∧ Calls Tryz.prog 43 #[.int .u64 s, .int .i64 19] W (RetBX mxr W)))
    (W : World) (h0 : W.cell? ⟨c, 0, none⟩ = some (.int .u64 (s : Nat))) : Calls Tryz.prog 44 #[.pointer (some ⟨c, 0, none⟩), .int .i64 m, .int .i64 2, .int .u64 e] W (RetBX (allowG r w x u a d sum mxr m 2) W) := by
  obtain ⟨R, hR⟩ : ∃ R, allowG r w x u a d sum mxr m 2 = R := ⟨_, rfl⟩
  have HR : Hid (allowG r w x u a d sum mxr m 2 = R) := hR
  rw [hR]
  clear hR
  go_enter Tryz.func44, Tryz.ntmps44
  go_wp2_with fail
  refine (P.out _).1.mono ?_; rintro e1 w1 ⟨rfl, h⟩; replace h := h.symm; subst h
  go_wp2_with fail
  refine (P.out _).2.1.mono ?_; rintro e1 w1 ⟨rfl, h⟩; replace h := h.symm; subst h
  go_wp2_with fail
  refine (P.out _).2.2.1.mono ?_; rintro e1 w1 ⟨rfl, h⟩; replace h := h.symm; subst h
  go_wp2_with fail
  refine (P.out _).2.2.2.1.mono ?_; rintro e1 w1 ⟨rfl, h⟩; replace h := h.symm; subst h
  go_wp2_with fail
  refine (P.out _).2.2.2.2.1.mono ?_; rintro e1 w1 ⟨rfl, h⟩; replace h := h.symm; subst h
  go_wp2_with fail
  refine (P.out _).2.2.2.2.2.1.mono ?_; rintro e1 w1 ⟨rfl, h⟩; replace h := h.symm; subst h
  go_wp2_with fail
  refine (P.out _).2.2.2.2.2.2.1.mono ?_; rintro e1 w1 ⟨rfl, h⟩; replace h := h.symm; subst h
  go_wp2_with fail
  refine (P.out _).2.2.2.2.2.2.2.mono ?_; rintro e1 w1 ⟨rfl, h⟩; replace h := h.symm; subst h
  clear P
  go_wp2_with fail
  all_goals
    go_ret
    refine retBX_mk ?_
    rw [← HR.out]
    clear HR h0
    simp_all [allowG]
set_option maxRecDepth 100000 in
set_option maxHeartbeats 2000000 in
theorem allowr_3_1 (r w x u a d sum mxr : Bool) (c s e : Nat) 
    (P : Hid (∀ W, Calls Tryz.prog 43 #[.int .u64 e, .int .i64 1] W (RetBX r W) ∧ Calls Tryz.prog 43 #[.int .u64 e, .int .i64 2] W (RetBX w W) ∧ Calls Tryz.prog 43 #[.int .u64 e, .int .i64 3] W (RetBX x W) ∧ Calls Tryz.prog 43 #[.int .u64 e, .int .i64 4] W (RetBX u W) ∧ Calls Tryz.prog 43 #[.int .u64 e, .int .i64 6] W (RetBX a W) ∧ Calls Tryz.prog 43 #[.int .u64 e, .int .i64 7] W (RetBX d W) ∧ Calls Tryz.prog 43 #[.int .u64 s, .int .i64 18] W (RetBX sum W) ∧ Calls Tryz.prog 43 #[.int .u64 s, .int .i64 19] W (RetBX mxr W)))
    (W : World) (h0 : W.cell? ⟨c, 0, none⟩ = some (.int .u64 (s : Nat))) : Calls Tryz.prog 44 #[.pointer (some ⟨c, 0, none⟩), .int .i64 1, .int .i64 3, .int .u64 e] W (RetBX (allowG r w x u a d sum mxr 1 3) W) := by
  obtain ⟨R, hR⟩ : ∃ R, allowG r w x u a d sum mxr 1 3 = R := ⟨_, rfl⟩
  have HR : Hid (allowG r w x u a d sum mxr 1 3 = R) := hR
  rw [hR]
  clear hR
  go_enter Tryz.func44, Tryz.ntmps44
  go_wp2_with fail
  refine (P.out _).1.mono ?_; rintro e1 w1 ⟨rfl, h⟩; replace h := h.symm; subst h
  go_wp2_with fail
  refine (P.out _).2.1.mono ?_; rintro e1 w1 ⟨rfl, h⟩; replace h := h.symm; subst h
  go_wp2_with fail
  refine (P.out _).2.2.1.mono ?_; rintro e1 w1 ⟨rfl, h⟩; replace h := h.symm; subst h
  go_wp2_with fail
  refine (P.out _).2.2.2.1.mono ?_; rintro e1 w1 ⟨rfl, h⟩; replace h := h.symm; subst h
  go_wp2_with fail
  refine (P.out _).2.2.2.2.1.mono ?_; rintro e1 w1 ⟨rfl, h⟩; replace h := h.symm; subst h
  go_wp2_with fail
  refine (P.out _).2.2.2.2.2.1.mono ?_; rintro e1 w1 ⟨rfl, h⟩; replace h := h.symm; subst h
  go_wp2_with fail
  refine (P.out _).2.2.2.2.2.2.1.mono ?_; rintro e1 w1 ⟨rfl, h⟩; replace h := h.symm; subst h
  go_wp2_with fail
  refine (P.out _).2.2.2.2.2.2.2.mono ?_; rintro e1 w1 ⟨rfl, h⟩; replace h := h.symm; subst h
  clear P
  go_wp2_with fail
  all_goals
    go_ret
    refine retBX_mk ?_
    rw [← HR.out]
    clear HR h0
    simp_all [allowG]
set_option maxRecDepth 100000 in
set_option maxHeartbeats 2000000 in
theorem allowr_3_n (r w x u a d sum mxr : Bool) (c s e : Nat) (m : Int) (m1 : (m == 1) = false) 
    (P : Hid (∀ W, Calls Tryz.prog 43 #[.int .u64 e, .int .i64 1] W (RetBX r W) ∧ Calls Tryz.prog 43 #[.int .u64 e, .int .i64 2] W (RetBX w W) ∧ Calls Tryz.prog 43 #[.int .u64 e, .int .i64 3] W (RetBX x W) ∧ Calls Tryz.prog 43 #[.int .u64 e, .int .i64 4] W (RetBX u W) ∧ Calls Tryz.prog 43 #[.int .u64 e, .int .i64 6] W (RetBX a W) ∧ Calls Tryz.prog 43 #[.int .u64 e, .int .i64 7] W (RetBX d W) ∧ Calls Tryz.prog 43 #[.int .u64 s, .int .i64 18] W (RetBX sum W) ∧ Calls Tryz.prog 43 #[.int .u64 s, .int .i64 19] W (RetBX mxr W)))
    (W : World) (h0 : W.cell? ⟨c, 0, none⟩ = some (.int .u64 (s : Nat))) : Calls Tryz.prog 44 #[.pointer (some ⟨c, 0, none⟩), .int .i64 m, .int .i64 3, .int .u64 e] W (RetBX (allowG r w x u a d sum mxr m 3) W) := by
  obtain ⟨R, hR⟩ : ∃ R, allowG r w x u a d sum mxr m 3 = R := ⟨_, rfl⟩
  have HR : Hid (allowG r w x u a d sum mxr m 3 = R) := hR
  rw [hR]
  clear hR
  go_enter Tryz.func44, Tryz.ntmps44
  go_wp2_with fail
  refine (P.out _).1.mono ?_; rintro e1 w1 ⟨rfl, h⟩; replace h := h.symm; subst h
  go_wp2_with fail
  refine (P.out _).2.1.mono ?_; rintro e1 w1 ⟨rfl, h⟩; replace h := h.symm; subst h
  go_wp2_with fail
  refine (P.out _).2.2.1.mono ?_; rintro e1 w1 ⟨rfl, h⟩; replace h := h.symm; subst h
  go_wp2_with fail
  refine (P.out _).2.2.2.1.mono ?_; rintro e1 w1 ⟨rfl, h⟩; replace h := h.symm; subst h
  go_wp2_with fail
  refine (P.out _).2.2.2.2.1.mono ?_; rintro e1 w1 ⟨rfl, h⟩; replace h := h.symm; subst h
  go_wp2_with fail
  refine (P.out _).2.2.2.2.2.1.mono ?_; rintro e1 w1 ⟨rfl, h⟩; replace h := h.symm; subst h
  go_wp2_with fail
  refine (P.out _).2.2.2.2.2.2.1.mono ?_; rintro e1 w1 ⟨rfl, h⟩; replace h := h.symm; subst h
  go_wp2_with fail
  refine (P.out _).2.2.2.2.2.2.2.mono ?_; rintro e1 w1 ⟨rfl, h⟩; replace h := h.symm; subst h
  clear P
  go_wp2_with fail
  all_goals
    go_ret
    refine retBX_mk ?_
    rw [← HR.out]
    clear HR h0
    simp_all [allowG]
set_option maxRecDepth 100000 in
set_option maxHeartbeats 2000000 in
theorem allowr_n_1 (r w x u a d sum mxr : Bool) (c s e : Nat) (k : Int) (k0 : (k == 0) = false) (k2 : (k == 2) = false) (k3 : (k == 3) = false) 
    (P : Hid (∀ W, Calls Tryz.prog 43 #[.int .u64 e, .int .i64 1] W (RetBX r W) ∧ Calls Tryz.prog 43 #[.int .u64 e, .int .i64 2] W (RetBX w W) ∧ Calls Tryz.prog 43 #[.int .u64 e, .int .i64 3] W (RetBX x W) ∧ Calls Tryz.prog 43 #[.int .u64 e, .int .i64 4] W (RetBX u W) ∧ Calls Tryz.prog 43 #[.int .u64 e, .int .i64 6] W (RetBX a W) ∧ Calls Tryz.prog 43 #[.int .u64 e, .int .i64 7] W (RetBX d W) ∧ Calls Tryz.prog 43 #[.int .u64 s, .int .i64 18] W (RetBX sum W) ∧ Calls Tryz.prog 43 #[.int .u64 s, .int .i64 19] W (RetBX mxr W)))
    (W : World) (h0 : W.cell? ⟨c, 0, none⟩ = some (.int .u64 (s : Nat))) : Calls Tryz.prog 44 #[.pointer (some ⟨c, 0, none⟩), .int .i64 1, .int .i64 k, .int .u64 e] W (RetBX (allowG r w x u a d sum mxr 1 k) W) := by
  obtain ⟨R, hR⟩ : ∃ R, allowG r w x u a d sum mxr 1 k = R := ⟨_, rfl⟩
  have HR : Hid (allowG r w x u a d sum mxr 1 k = R) := hR
  rw [hR]
  clear hR
  go_enter Tryz.func44, Tryz.ntmps44
  go_wp2_with fail
  refine (P.out _).1.mono ?_; rintro e1 w1 ⟨rfl, h⟩; replace h := h.symm; subst h
  go_wp2_with fail
  refine (P.out _).2.1.mono ?_; rintro e1 w1 ⟨rfl, h⟩; replace h := h.symm; subst h
  go_wp2_with fail
  refine (P.out _).2.2.1.mono ?_; rintro e1 w1 ⟨rfl, h⟩; replace h := h.symm; subst h
  go_wp2_with fail
  refine (P.out _).2.2.2.1.mono ?_; rintro e1 w1 ⟨rfl, h⟩; replace h := h.symm; subst h
  go_wp2_with fail
  refine (P.out _).2.2.2.2.1.mono ?_; rintro e1 w1 ⟨rfl, h⟩; replace h := h.symm; subst h
  go_wp2_with fail
  refine (P.out _).2.2.2.2.2.1.mono ?_; rintro e1 w1 ⟨rfl, h⟩; replace h := h.symm; subst h
  go_wp2_with fail
  refine (P.out _).2.2.2.2.2.2.1.mono ?_; rintro e1 w1 ⟨rfl, h⟩; replace h := h.symm; subst h
  go_wp2_with fail
  refine (P.out _).2.2.2.2.2.2.2.mono ?_; rintro e1 w1 ⟨rfl, h⟩; replace h := h.symm; subst h
  clear P
  go_wp2_with fail
  all_goals
    go_ret
    refine retBX_mk ?_
    rw [← HR.out]
    clear HR h0
    simp_all [allowG]
set_option maxRecDepth 100000 in
set_option maxHeartbeats 2000000 in
theorem allowr_n_n (r w x u a d sum mxr : Bool) (c s e : Nat) (k : Int) (m : Int) (k0 : (k == 0) = false) (k2 : (k == 2) = false) (k3 : (k == 3) = false) (m1 : (m == 1) = false) 
    (P : Hid (∀ W, Calls Tryz.prog 43 #[.int .u64 e, .int .i64 1] W (RetBX r W) ∧ Calls Tryz.prog 43 #[.int .u64 e, .int .i64 2] W (RetBX w W) ∧ Calls Tryz.prog 43 #[.int .u64 e, .int .i64 3] W (RetBX x W) ∧ Calls Tryz.prog 43 #[.int .u64 e, .int .i64 4] W (RetBX u W) ∧ Calls Tryz.prog 43 #[.int .u64 e, .int .i64 6] W (RetBX a W) ∧ Calls Tryz.prog 43 #[.int .u64 e, .int .i64 7] W (RetBX d W) ∧ Calls Tryz.prog 43 #[.int .u64 s, .int .i64 18] W (RetBX sum W) ∧ Calls Tryz.prog 43 #[.int .u64 s, .int .i64 19] W (RetBX mxr W)))
    (W : World) (h0 : W.cell? ⟨c, 0, none⟩ = some (.int .u64 (s : Nat))) : Calls Tryz.prog 44 #[.pointer (some ⟨c, 0, none⟩), .int .i64 m, .int .i64 k, .int .u64 e] W (RetBX (allowG r w x u a d sum mxr m k) W) := by
  obtain ⟨R, hR⟩ : ∃ R, allowG r w x u a d sum mxr m k = R := ⟨_, rfl⟩
  have HR : Hid (allowG r w x u a d sum mxr m k = R) := hR
  rw [hR]
  clear hR
  go_enter Tryz.func44, Tryz.ntmps44
  go_wp2_with fail
  refine (P.out _).1.mono ?_; rintro e1 w1 ⟨rfl, h⟩; replace h := h.symm; subst h
  go_wp2_with fail
  refine (P.out _).2.1.mono ?_; rintro e1 w1 ⟨rfl, h⟩; replace h := h.symm; subst h
  go_wp2_with fail
  refine (P.out _).2.2.1.mono ?_; rintro e1 w1 ⟨rfl, h⟩; replace h := h.symm; subst h
  go_wp2_with fail
  refine (P.out _).2.2.2.1.mono ?_; rintro e1 w1 ⟨rfl, h⟩; replace h := h.symm; subst h
  go_wp2_with fail
  refine (P.out _).2.2.2.2.1.mono ?_; rintro e1 w1 ⟨rfl, h⟩; replace h := h.symm; subst h
  go_wp2_with fail
  refine (P.out _).2.2.2.2.2.1.mono ?_; rintro e1 w1 ⟨rfl, h⟩; replace h := h.symm; subst h
  go_wp2_with fail
  refine (P.out _).2.2.2.2.2.2.1.mono ?_; rintro e1 w1 ⟨rfl, h⟩; replace h := h.symm; subst h
  go_wp2_with fail
  refine (P.out _).2.2.2.2.2.2.2.mono ?_; rintro e1 w1 ⟨rfl, h⟩; replace h := h.symm; subst h
  clear P
  go_wp2_with fail
  all_goals
    go_ret
    refine retBX_mk ?_
    rw [← HR.out]
    clear HR h0
    simp_all [allowG]
theorem allowr_c (S : Nat → Nat) (c : Nat) (m k : Int) (e : Nat) (hS : Hid (OkS S)) (he : Hid (e < 18446744073709551616)) (W : World) (h0 : W.cell? ⟨c, 0, none⟩ = some (.int .u64 (S 0 : Nat))) :
    Calls Tryz.prog 44 #[.pointer (some ⟨c, 0, none⟩), .int .i64 m, .int .i64 k, .int .u64 e] W (RetBX (permB S m k e) W) := by
  have s0 : Hid (S 0 < 18446744073709551616) := hS.out.u 0 (by decide)
  have P := Lib.hid (fun W => ⟨bit_c e 1 he (by decide) W, bit_c e 2 he (by decide) W, bit_c e 3 he (by decide) W, bit_c e 4 he (by decide) W, bit_c e 6 he (by decide) W, bit_c e 7 he (by decide) W, bit_c (S 0) 18 s0 (by decide) W, bit_c (S 0) 19 s0 (by decide) W⟩ : ∀ W, _ ∧ _ ∧ _ ∧ _ ∧ _ ∧ _ ∧ _ ∧ _)
  unfold permB
  by_cases hm : m = 1
  · subst hm
    by_cases hk0 : k = 0
    · subst hk0; exact allowr_0_1 _ _ _ _ _ _ _ _ c (S 0) e P W h0
    by_cases hk2 : k = 2
    · subst hk2; exact allowr_2_1 _ _ _ _ _ _ _ _ c (S 0) e P W h0
    by_cases hk3 : k = 3
    · subst hk3; exact allowr_3_1 _ _ _ _ _ _ _ _ c (S 0) e P W h0
    exact allowr_n_1 _ _ _ _ _ _ _ _ c (S 0) e k (by simpa using hk0) (by simpa using hk2) (by simpa using hk3) P W h0
  · by_cases hk0 : k = 0
    · subst hk0; exact allowr_0_n _ _ _ _ _ _ _ _ c (S 0) e m (by simpa using hm) P W h0
    by_cases hk2 : k = 2
    · subst hk2; exact allowr_2_n _ _ _ _ _ _ _ _ c (S 0) e m (by simpa using hm) P W h0
    by_cases hk3 : k = 3
    · subst hk3; exact allowr_3_n _ _ _ _ _ _ _ _ c (S 0) e m (by simpa using hm) P W h0
    exact allowr_n_n _ _ _ _ _ _ _ _ c (S 0) e k m (by simpa using hk0) (by simpa using hk2) (by simpa using hk3) (by simpa using hm) P W h0
end Go.Proofs.YthhlcchofilimaaGreatDoor
