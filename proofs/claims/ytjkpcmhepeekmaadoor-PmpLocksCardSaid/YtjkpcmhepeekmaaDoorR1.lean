/- Range. -/
import Derived.Test.YtjkpcmhepeekmaaDoorB2
namespace Go.Proofs.YtjkpcmhepeekmaaDoor
open Go.ChangeShapes Go.WideShapes Go.ChangeAt Go.RowKit
set_option linter.unusedVariables false
set_option linter.unusedSimpArgs false
/-- Settings and addresses that may be. -/
def OkC (c : Nat → Nat) : Prop := ∀ k, c k < 256
def OkA (a : Nat → Nat) : Prop := ∀ k, a k < 18446744073709551616
theorem rsel {c a : Nat → Nat} {n lo hi : Nat} (h1 : loF c a n = lo) (h2 : hiF c a n = hi) : rOk c a n = decide (lo < hi) ∧ rA c a n = (bif decide (lo < hi) then lo else 0) ∧ rB c a n = (bif decide (lo < hi) then hi - 1 else 0) := by
  have : rOk c a n = decide (lo < hi) := by unfold rOk; rw [h1, h2]
  exact ⟨this, by unfold rA; rw [this, h1], by unfold rB; rw [this, h2]⟩
theorem rsel_y {c a : Nat → Nat} {n lo hi : Nat} (h1 : loF c a n = lo) (h2 : hiF c a n = hi) (h : lo < hi) : rOk c a n = true ∧ rA c a n = lo ∧ rB c a n = hi - 1 := by
  obtain ⟨x, y, z⟩ := rsel h1 h2
  rw [show decide (lo < hi) = true from decide_eq_true h] at x y z
  exact ⟨x, y, z⟩
theorem rsel_n {c a : Nat → Nat} {n lo hi : Nat} (h1 : loF c a n = lo) (h2 : hiF c a n = hi) (h : ¬ lo < hi) : rOk c a n = false ∧ rA c a n = 0 ∧ rB c a n = 0 := by
  obtain ⟨x, y, z⟩ := rsel h1 h2
  rw [show decide (lo < hi) = false from decide_eq_false h] at x y z
  exact ⟨x, y, z⟩
theorem way0 {c a : Nat → Nat} {n : Nat} (h : wayN (c n) = 0) : loF c a n = 0 ∧ hiF c a n = 0 := by unfold loF hiF; rw [h]; exact ⟨rfl, rfl⟩
theorem way1 {c a : Nat → Nat} {n : Nat} (h : wayN (c n) = 1) : loF c a n = (bif n == 0 then 0 else 4 * adr (a (n - 1))) ∧ hiF c a n = 4 * adr (a n) := by unfold loF hiF; rw [h]; exact ⟨rfl, rfl⟩
theorem way2 {c a : Nat → Nat} {n : Nat} (h : wayN (c n) = 2) : loF c a n = 4 * adr (a n) ∧ hiF c a n = 4 * adr (a n) + 4 := by unfold loF hiF; rw [h]; exact ⟨rfl, rfl⟩
theorem way3 {c a : Nat → Nat} {n : Nat} (h : wayN (c n) = 3) : loF c a n = 4 * adr (a n) / 2 ^ (ones 54 (adr (a n)) + 3) * 2 ^ (ones 54 (adr (a n)) + 3) ∧ hiF c a n = 4 * adr (a n) / 2 ^ (ones 54 (adr (a n)) + 3) * 2 ^ (ones 54 (adr (a n)) + 3) + 2 ^ (ones 54 (adr (a n)) + 3) := by unfold loF hiF; rw [h]; exact ⟨rfl, rfl⟩

set_option maxRecDepth 100000 in
theorem Range_0 (c a : Nat → Nat) (n : Nat) (hn : n < 8) (hw : wayN (c n) = 0) (hc : Hid (OkC c)) (ha : Hid (OkA a)) (w : World) (hG : Hid (G w)) :
    Calls Tryd.prog 8 #[.agg (u8s c), .agg (u64s a), .int .i64 n] w (RetR (rA c a n) (rB c a n) (rOk c a n) w) := by
  obtain ⟨q1, q2⟩ := way0 (a := a) hw
  obtain ⟨r1, r2, r3⟩ := rsel_n q1 q2 (by omega)
  rw [r1, r2, r3]
  clear q1 q2 r1 r2 r3
  have n8 : (n : Int) < 8 := by omega
  have n0 : ((n : Nat) : Int).toNat = n := by omega
  have HE := Lib.hid (fun v => isEntry_y (n : Int) (eq_true (by omega)) (eq_true n8) v)
  have HP := Lib.hid (fun v => place_c (a n) (ha.out n) v)
  have HW := Lib.hid (fun v => wayOf_c (c n) (hc.out n) v)
  rw [hw] at HW
  have c0 : (u8s c)[n]? = some (.int .u8 (c n : Nat)) := u8s_at c n hn
  have a0 : (u64s a)[n]? = some (.int .u64 (a n : Nat)) := u64s_at a n hn
  go_enter Tryd.func8, Tryd.ntmps8
  go_wp2_with fail
  refine (HE.out _).mono ?_; rintro e w1 ⟨rfl, h⟩; replace h := h.symm; subst h
  go_wp2_with fail
  refine (HP.out _).mono ?_; rintro e w1 ⟨rfl, h⟩; replace h := h.symm; subst h
  go_wp2_with fail
  refine (HW.out _).mono ?_; rintro e w1 ⟨rfl, h⟩; replace h := h.symm; subst h
  go_wp2_with fail
  go_ret3
  exact retR_mk rfl rfl rfl (by repeat (first | (with_reducible first | exact Below.refl _ _ | assumption | exact Nat.le_refl _ | refine Below.drew ?_ | refine Below.alloc ?_ ?_ _ | refine Below.setCell ?_ ?_ _ | refine le_alloc ?_ | refine le_set ?_ | refine le_drew ?_ | refine below_step (by assumption) ?_ ?_ | refine le_below (by assumption) ?_) | (dsimp only; omega)))

set_option maxRecDepth 100000 in
theorem Range_1z (c a : Nat → Nat) (hw : wayN (c 0) = 1) (hc : Hid (OkC c)) (ha : Hid (OkA a)) (w : World) (hG : Hid (G w)) :
    Calls Tryd.prog 8 #[.agg (u8s c), .agg (u64s a), .int .i64 0] w (RetR (rA c a 0) (rB c a 0) (rOk c a 0) w) := by
  obtain ⟨q1, q2⟩ := way1 (a := a) hw
  have HE := Lib.hid (fun v => isEntry_y 0 (eq_true (by omega)) (eq_true (by omega)) v)
  have HP := Lib.hid (fun v => place_c (a 0) (ha.out 0) v)
  have HW := Lib.hid (fun v => wayOf_c (c 0) (hc.out 0) v)
  rw [hw] at HW
  have c0 : (u8s c)[0]? = some (.int .u8 (c 0 : Nat)) := u8s_at c 0 (by omega)
  have a0 : (u64s a)[0]? = some (.int .u64 (a 0 : Nat)) := u64s_at a 0 (by omega)
  have hl := adr_lt (a 0)
  rw [show (bif (0 : Nat) == 0 then 0 else 4 * adr (a (0 - 1))) = 0 from rfl] at q1
  obtain ⟨y, hy⟩ : ∃ y, y = 4 * adr (a 0) := ⟨_, rfl⟩
  rw [← hy] at HP q2
  have hb : Hid (∀ v, Calls Tryd.prog 20 #[.int .u64 0, .int .u64 y] v (RetRX (rA c a 0) (rB c a 0) (rOk c a 0) v)) := by
    intro v
    by_cases h : 0 < y
    · obtain ⟨r1, r2, r3⟩ := rsel_y q1 q2 h
      rw [r1, r2, r3]
      exact between_y 0 y (by omega) (by show _ < _; omega) v
    · obtain ⟨r1, r2, r3⟩ := rsel_n q1 q2 h
      rw [r1, r2, r3]
      exact between_n 0 y (by omega) v
  clear q1 q2 hy hl
  go_enter Tryd.func8, Tryd.ntmps8
  go_wp2_with fail
  refine (HE.out _).mono ?_; rintro e w1 ⟨rfl, h⟩; replace h := h.symm; subst h
  go_wp2_with fail
  refine (HP.out _).mono ?_; rintro e w1 ⟨rfl, h⟩; replace h := h.symm; subst h
  go_wp2_with fail
  refine (HW.out _).mono ?_; rintro e w1 ⟨rfl, h⟩; replace h := h.symm; subst h
  go_wp2_with fail
  refine (hb.out _).mono ?_; rintro e w1 ⟨rfl, h⟩; replace h := h.symm; subst h
  go_wp2_with fail
  go_ret3
  exact retR_mk rfl rfl rfl (by repeat (first | (with_reducible first | exact Below.refl _ _ | assumption | exact Nat.le_refl _ | refine Below.drew ?_ | refine Below.alloc ?_ ?_ _ | refine Below.setCell ?_ ?_ _ | refine le_alloc ?_ | refine le_set ?_ | refine le_drew ?_ | refine below_step (by assumption) ?_ ?_ | refine le_below (by assumption) ?_) | (dsimp only; omega)))

set_option maxRecDepth 100000 in
theorem Range_1s (c a : Nat → Nat) (n : Nat) (hn : n < 8) (hz : n ≠ 0) (hw : wayN (c n) = 1) (hc : Hid (OkC c)) (ha : Hid (OkA a)) (w : World) (hG : Hid (G w)) :
    Calls Tryd.prog 8 #[.agg (u8s c), .agg (u64s a), .int .i64 n] w (RetR (rA c a n) (rB c a n) (rOk c a n) w) := by
  obtain ⟨q1, q2⟩ := way1 (a := a) hw
  have n8 : (n : Int) < 8 := by omega
  have n0 : ((n : Nat) : Int).toNat = n := by omega
  have HE := Lib.hid (fun v => isEntry_y (n : Int) (eq_true (by omega)) (eq_true n8) v)
  have HP := Lib.hid (fun v => place_c (a n) (ha.out n) v)
  have HW := Lib.hid (fun v => wayOf_c (c n) (hc.out n) v)
  rw [hw] at HW
  have c0 : (u8s c)[n]? = some (.int .u8 (c n : Nat)) := u8s_at c n hn
  have a0 : (u64s a)[n]? = some (.int .u64 (a n : Nat)) := u64s_at a n hn
  obtain ⟨m, hm⟩ : ∃ m, m = n - 1 := ⟨_, rfl⟩
  have m8 : (m : Int) < 8 := by omega
  have m0 : ((m : Nat) : Int).toNat = m := by omega
  have z0 : (0 : Int) < n := by omega
  have z2 : wrap64 ((n : Int) - 1) = (m : Int) := by rw [IntWalk.wrap64_in _ ⟨by omega, by omega⟩]; omega
  have z1 : IntKind.i64.wrap ((n : Int) - 1) = (m : Int) := by rw [IntKind.wrap_i64]; omega
  have am : (u64s a)[m]? = some (.int .u64 (a m : Nat)) := u64s_at a m (by omega)
  have HM := Lib.hid (fun v => place_c (a m) (ha.out m) v)
  have hl := adr_lt (a n)
  have hl2 := adr_lt (a m)
  rw [show (bif n == 0 then 0 else 4 * adr (a (n - 1))) = 4 * adr (a m) by rw [hm, show (n == 0) = false by simp [hz]]; rfl] at q1
  obtain ⟨y, hy⟩ : ∃ y, y = 4 * adr (a n) := ⟨_, rfl⟩
  obtain ⟨x, hx⟩ : ∃ x, x = 4 * adr (a m) := ⟨_, rfl⟩
  rw [← hy] at HP q2
  rw [← hx] at HM q1
  have hb : Hid (∀ v, Calls Tryd.prog 20 #[.int .u64 x, .int .u64 y] v (RetRX (rA c a n) (rB c a n) (rOk c a n) v)) := by
    intro v
    by_cases h : x < y
    · obtain ⟨r1, r2, r3⟩ := rsel_y q1 q2 h
      rw [r1, r2, r3]
      exact between_y x y (by omega) (by show _ < _; omega) v
    · obtain ⟨r1, r2, r3⟩ := rsel_n q1 q2 h
      rw [r1, r2, r3]
      exact between_n x y (by omega) v
  clear q1 q2 hy hx hl hl2 hm hz
  go_enter Tryd.func8, Tryd.ntmps8
  go_wp2_with fail
  refine (HE.out _).mono ?_; rintro e w1 ⟨rfl, h⟩; replace h := h.symm; subst h
  go_wp2_with fail
  refine (HP.out _).mono ?_; rintro e w1 ⟨rfl, h⟩; replace h := h.symm; subst h
  go_wp2_with fail
  refine (HW.out _).mono ?_; rintro e w1 ⟨rfl, h⟩; replace h := h.symm; subst h
  go_wp2_with fail
  refine (HM.out _).mono ?_; rintro e w1 ⟨rfl, h⟩; replace h := h.symm; subst h
  go_wp2_with fail
  refine (hb.out _).mono ?_; rintro e w1 ⟨rfl, h⟩; replace h := h.symm; subst h
  go_wp2_with fail
  go_ret3
  exact retR_mk rfl rfl rfl (by repeat (first | (with_reducible first | exact Below.refl _ _ | assumption | exact Nat.le_refl _ | refine Below.drew ?_ | refine Below.alloc ?_ ?_ _ | refine Below.setCell ?_ ?_ _ | refine le_alloc ?_ | refine le_set ?_ | refine le_drew ?_ | refine below_step (by assumption) ?_ ?_ | refine le_below (by assumption) ?_) | (dsimp only; omega)))

set_option maxRecDepth 100000 in
theorem Range_2 (c a : Nat → Nat) (n : Nat) (hn : n < 8) (hw : wayN (c n) = 2) (hc : Hid (OkC c)) (ha : Hid (OkA a)) (w : World) (hG : Hid (G w)) :
    Calls Tryd.prog 8 #[.agg (u8s c), .agg (u64s a), .int .i64 n] w (RetR (rA c a n) (rB c a n) (rOk c a n) w) := by
  obtain ⟨q1, q2⟩ := way2 (a := a) hw
  obtain ⟨r1, r2, r3⟩ := rsel_y q1 q2 (by omega)
  have n8 : (n : Int) < 8 := by omega
  have n0 : ((n : Nat) : Int).toNat = n := by omega
  have HE := Lib.hid (fun v => isEntry_y (n : Int) (eq_true (by omega)) (eq_true n8) v)
  have HP := Lib.hid (fun v => place_c (a n) (ha.out n) v)
  have HW := Lib.hid (fun v => wayOf_c (c n) (hc.out n) v)
  rw [hw] at HW
  have c0 : (u8s c)[n]? = some (.int .u8 (c n : Nat)) := u8s_at c n hn
  have a0 : (u64s a)[n]? = some (.int .u64 (a n : Nat)) := u64s_at a n hn
  have hl := adr_lt (a n)
  obtain ⟨y, hy⟩ : ∃ y, y = 4 * adr (a n) := ⟨_, rfl⟩
  rw [← hy] at HP r2 r3
  have hb : Hid (∀ v, Calls Tryd.prog 21 #[.int .u64 y, .int .u64 4] v (RetRX (rA c a n) (rB c a n) (rOk c a n) v)) := by
    intro v
    have := around_c y 2 (by omega) (by show _ < _; omega) v
    rw [r1, r2, r3]
    rw [show y / 2 ^ 2 * 2 ^ 2 = y by omega] at this
    exact this
  clear q1 q2 r1 r2 r3 hy hl
  go_enter Tryd.func8, Tryd.ntmps8
  go_wp2_with fail
  refine (HE.out _).mono ?_; rintro e w1 ⟨rfl, h⟩; replace h := h.symm; subst h
  go_wp2_with fail
  refine (HP.out _).mono ?_; rintro e w1 ⟨rfl, h⟩; replace h := h.symm; subst h
  go_wp2_with fail
  refine (HW.out _).mono ?_; rintro e w1 ⟨rfl, h⟩; replace h := h.symm; subst h
  go_wp2_with fail
  refine (hb.out _).mono ?_; rintro e w1 ⟨rfl, h⟩; replace h := h.symm; subst h
  go_wp2_with fail
  go_ret3
  exact retR_mk rfl rfl rfl (by repeat (first | (with_reducible first | exact Below.refl _ _ | assumption | exact Nat.le_refl _ | refine Below.drew ?_ | refine Below.alloc ?_ ?_ _ | refine Below.setCell ?_ ?_ _ | refine le_alloc ?_ | refine le_set ?_ | refine le_drew ?_ | refine below_step (by assumption) ?_ ?_ | refine le_below (by assumption) ?_) | (dsimp only; omega)))

set_option maxRecDepth 100000 in
theorem Range_3 (c a : Nat → Nat) (n : Nat) (hn : n < 8) (hw : wayN (c n) = 3) (hc : Hid (OkC c)) (ha : Hid (OkA a)) (w : World) (hG : Hid (G w)) :
    Calls Tryd.prog 8 #[.agg (u8s c), .agg (u64s a), .int .i64 n] w (RetR (rA c a n) (rB c a n) (rOk c a n) w) := by
  obtain ⟨q1, q2⟩ := way3 (a := a) hw
  have n8 : (n : Int) < 8 := by omega
  have n0 : ((n : Nat) : Int).toNat = n := by omega
  have HE := Lib.hid (fun v => isEntry_y (n : Int) (eq_true (by omega)) (eq_true n8) v)
  have HP := Lib.hid (fun v => place_c (a n) (ha.out n) v)
  have HW := Lib.hid (fun v => wayOf_c (c n) (hc.out n) v)
  rw [hw] at HW
  have c0 : (u8s c)[n]? = some (.int .u8 (c n : Nat)) := u8s_at c n hn
  have a0 : (u64s a)[n]? = some (.int .u64 (a n : Nat)) := u64s_at a n hn
  have HR := Lib.hid (fun v hv => reach_c (a n) (ha.out n) v hv)
  have hl := adr_lt (a n)
  have ho := ones_le 54 (adr (a n))
  obtain ⟨y, hy⟩ : ∃ y, y = 4 * adr (a n) := ⟨_, rfl⟩
  obtain ⟨t, ht⟩ : ∃ t, t = ones 54 (adr (a n)) := ⟨_, rfl⟩
  rw [← hy, ← ht] at q1 q2
  rw [← hy] at HP
  rw [← ht] at HR ho
  obtain ⟨r1, r2, r3⟩ := rsel_y q1 q2 (by have := Nat.two_pow_pos (t + 3); omega)
  have hb : Hid (∀ v, Calls Tryd.prog 21 #[.int .u64 y, .int .u64 (2 ^ (t + 3) : Nat)] v (RetRX (rA c a n) (rB c a n) (rOk c a n) v)) := by
    intro v
    rw [r1, r2, r3]
    exact around_c y (t + 3) (by omega) (by show _ < _; omega) v
  obtain ⟨p, hp⟩ : ∃ p, p = 2 ^ (t + 3) := ⟨_, rfl⟩
  rw [← hp] at HR hb
  clear q1 q2 r1 r2 r3 hy hl ht ho hp
  go_enter Tryd.func8, Tryd.ntmps8
  go_wp2_with fail
  refine (HE.out _).mono ?_; rintro e w1 ⟨rfl, h⟩; replace h := h.symm; subst h
  go_wp2_with fail
  refine (HP.out _).mono ?_; rintro e w1 ⟨rfl, h⟩; replace h := h.symm; subst h
  go_wp2_with fail
  refine (HW.out _).mono ?_; rintro e w1 ⟨rfl, h⟩; replace h := h.symm; subst h
  go_wp2_with fail
  have hG1 : Hid (G ((w.alloc (Obj.cells (u8s c) 22)).alloc (Obj.cells (u64s a) 24))) := g_alloc (g_alloc hG.out _) _
  refine (HR.out _ hG1).mono ?_; rintro e w1 ⟨rfl, h⟩; replace h := h.symm; subst h
  go_wp2_with fail
  refine (hb.out _).mono ?_; rintro e w1 ⟨rfl, h⟩; replace h := h.symm; subst h
  go_wp2_with fail
  go_ret3
  exact retR_mk rfl rfl rfl (by repeat (first | (with_reducible first | exact Below.refl _ _ | assumption | exact Nat.le_refl _ | refine Below.drew ?_ | refine Below.alloc ?_ ?_ _ | refine Below.setCell ?_ ?_ _ | refine le_alloc ?_ | refine le_set ?_ | refine le_drew ?_ | refine below_step (by assumption) ?_ ?_ | refine le_below (by assumption) ?_) | (dsimp only; omega)))

theorem Range_c (c a : Nat → Nat) (n : Nat) (hn : n < 8) (hc : Hid (OkC c)) (ha : Hid (OkA a)) (w : World) (hG : Hid (G w)) :
    Calls Tryd.prog 8 #[.agg (u8s c), .agg (u64s a), .int .i64 n] w (RetR (rA c a n) (rB c a n) (rOk c a n) w) := by
  rcases way_cases (c n) with h | h | h | h
  · exact Range_0 c a n hn h hc ha w hG
  · by_cases hz : n = 0
    · subst hz; exact Range_1z c a h hc ha w hG
    · exact Range_1s c a n hn hz h hc ha w hG
  · exact Range_2 c a n hn h hc ha w hG
  · exact Range_3 c a n hn h hc ha w hG
set_option maxRecDepth 100000 in
theorem Range_no (c a : Nat → Nat) (n : Int) (hn : Hid (¬ (0 ≤ n ∧ n < 8))) (w : World) :
    Calls Tryd.prog 8 #[.agg (u8s c), .agg (u64s a), .int .i64 n] w (RetR 0 0 false w) := by
  have HE := Lib.hid (fun v => isEntry_n n hn v)
  clear hn
  go_enter Tryd.func8, Tryd.ntmps8
  go_wp2_with fail
  refine (HE.out _).mono ?_; rintro e w1 ⟨rfl, h⟩; replace h := h.symm; subst h
  go_wp2_with fail
  go_ret3
  exact retR_mk rfl rfl rfl (by repeat (first | (with_reducible first | exact Below.refl _ _ | assumption | exact Nat.le_refl _ | refine Below.drew ?_ | refine Below.alloc ?_ ?_ _ | refine Below.setCell ?_ ?_ _ | refine le_alloc ?_ | refine le_set ?_ | refine le_drew ?_ | refine below_step (by assumption) ?_ ?_ | refine le_below (by assumption) ?_) | (dsimp only; omega)))
end Go.Proofs.YtjkpcmhepeekmaaDoor
