/- The reference's Range. -/
import Derived.Test.YtjkpcmhepeekmaaDoorR1
import Derived.LoopTactic
namespace Go.Proofs.YtjkpcmhepeekmaaDoor
open Go.ChangeShapes Go.WideShapes Go.ChangeAt Go.RowKit
set_option linter.unusedVariables false
set_option linter.unusedSimpArgs false
/-- The loop that counts an address' ones. -/
def LoopI (A k x z : Nat) : Prop := k ≤ 54 ∧ z = 2 ^ (k + 3) ∧ x < 2 ^ (54 - k) ∧ ones 54 A = k + ones (54 - k) x
theorem loop_start (A : Nat) (h : A < 18014398509481984) : LoopI A 0 A 8 := ⟨by omega, rfl, h, (Nat.zero_add _).symm⟩
theorem loop_z {A k x z : Nat} (h : LoopI A k x z) : z ≤ 144115188075855872 ∧ 8 ≤ z ∧ x < 18014398509481984 := by
  obtain ⟨h1, h2, h3, h4⟩ := h
  obtain ⟨h5, h6⟩ := pow_up k h1
  have h7 : 2 ^ (54 - k) ≤ 2 ^ 54 := Nat.pow_le_pow_right (by decide) (by omega)
  exact ⟨by omega, by omega, by omega⟩
theorem loop_next {A k x z : Nat} (h : LoopI A k x z) (hx : x % 2 = 1) : LoopI A (k + 1) (x / 2) (2 * z) := by
  obtain ⟨h1, h2, h3, h4⟩ := h
  have hk : k < 54 := by
    apply Nat.lt_of_not_le
    intro h
    have : 54 - k = 0 := by omega
    rw [this] at h3
    omega
  obtain ⟨j, hj⟩ : ∃ j, 54 - k = j + 1 := ⟨53 - k, by omega⟩
  have hj2 : 54 - (k + 1) = j := by omega
  rw [hj] at h3 h4
  refine ⟨by omega, by rw [h2, Nat.pow_succ 2 (k + 3), Nat.mul_comm], ?_, ?_⟩
  · rw [hj2]; rw [Nat.pow_succ] at h3; omega
  · rw [hj2, h4]
    show k + (bif x % 2 == 1 then ones j (x / 2) + 1 else 0) = _
    rw [hx]; show k + (ones j (x / 2) + 1) = _; omega
theorem loop_end {A k x z : Nat} (h : LoopI A k x z) (hx : x % 2 ≠ 1) : z = 2 ^ (ones 54 A + 3) := by
  obtain ⟨h1, h2, h3, h4⟩ := h
  have : ones (54 - k) x = 0 := by
    cases e : 54 - k with
    | zero => rfl
    | succ j =>
      show (bif x % 2 == 1 then ones j (x / 2) + 1 else 0) = 0
      rw [show (x % 2 == 1) = false by simp [hx]]
      try rfl
  rw [this] at h4
  rw [h2, h4]
  try rfl

set_option maxRecDepth 100000 in
theorem RangeR_3 (c a : Nat → Nat) (n : Nat) (hn : n < 8) (hw : wayN (c n) = 3) (hc : Hid (OkC c)) (ha : Hid (OkA a)) (w : World) :
    Calls Tryd.prog 9 #[.agg (u8s c), .agg (u64s a), .int .i64 n] w (RetR (rA c a n) (rB c a n) (rOk c a n) w) := by
  obtain ⟨q1, q2⟩ := way3 (a := a) hw
  have n8 : (n : Int) ≤ 7 := by omega
  have n0 : ((n : Nat) : Int).toNat = n := by omega
  have HP := Lib.hid (fun v => address_c (a n) (ha.out n) v)
  have HW := Lib.hid (fun v => way_c (c n) (hc.out n) v)
  rw [hw] at HW
  have c0 : (u8s c)[n]? = some (.int .u8 (c n : Nat)) := u8s_at c n hn
  have a0 : (u64s a)[n]? = some (.int .u64 (a n : Nat)) := u64s_at a n hn
  have hA := adr_lt (a n)
  obtain ⟨A, eA⟩ : ∃ A, A = adr (a n) := ⟨_, rfl⟩
  rw [← eA] at q1 q2 HP hA
  have hI := Lib.hid (loop_start A hA)
  have HQ := Lib.hid (And.intro q1 q2)
  have HA := Lib.hid hA
  clear q1 q2 eA hA
  go_enter Tryd.func9, Tryd.ntmps9
  go_wp2_with fail
  refine (HP.out _).mono ?_; rintro e w1 ⟨rfl, h⟩; replace h := h.symm; subst h
  go_wp2_with fail
  refine (HW.out _).mono ?_; rintro e w1 ⟨rfl, h⟩; replace h := h.symm; subst h
  go_wp2_with fail
  go_loop [13, 14] (fun z x => ∃ k X Z : Nat, z = .int .u64 Z ∧ x = .int .u64 X ∧ Hid (LoopI A k X Z)) (fun _ x => (intOf x).toNat)
  case atStart => exact ⟨0, A, 8, rfl, rfl, hI⟩
  case round =>
    obtain ⟨k, X, Z, rfl, rfl, HI⟩ := hrel
    clear hI
    by_cases hx : X % 2 = 1
    · have h1 : ((X : Int) % 2 == 1) = true := by simp; omega
      have hN := loop_next HI.out hx
      obtain ⟨z1, z2, z3⟩ := loop_z HI.out
      have h2 : IntKind.u64.wrap (2 * (Z : Int)) = ((2 * Z : Nat) : Int) := by rw [IntKind.wrap_u64]; omega
      have h3 : IntKind.u64.wrap ((X : Int) / 2) = ((X / 2 : Nat) : Int) := by rw [IntKind.wrap_u64]; omega
      have HN := Lib.hid hN
      have hm : X / 2 < X := by omega
      have HM := Lib.hid hm
      clear hN z1 z2 z3 hx HI hm
      go_wp2_with fail
      go_round
      case rel => exact ⟨k + 1, X / 2, 2 * Z, by first | rfl | (rw [h2]), by first | rfl | (rw [h3]), HN⟩
      case measure => have := HM.out; simp [intOf]; omega
    · have h1 : ((X : Int) % 2 == 1) = false := by simp; omega
      have hE := loop_end HI.out hx
      obtain ⟨z1, z2, z3⟩ := loop_z HI.out
      rw [← hE] at HQ
      have hA := HA.out
      obtain ⟨b, hb⟩ : ∃ b, b = 4 * A := ⟨_, rfl⟩
      rw [← hb] at HQ
      have b1 : IntKind.u64.wrap (4 * (A : Int)) = (b : Int) := by rw [IntKind.wrap_u64]; omega
      obtain ⟨q, hq⟩ : ∃ q, q = b / Z := ⟨_, rfl⟩
      have hqb : q ≤ b := by rw [hq]; exact Nat.div_le_self _ _
      have b2 : IntKind.u64.wrap ((b : Int) / (Z : Int)) = (q : Int) := by
        rw [← Int.natCast_ediv, ← hq, IntKind.wrap_u64]; omega
      obtain ⟨f, hf⟩ : ∃ f, f = q * Z := ⟨_, rfl⟩
      have hfb : f ≤ b := by rw [hf, hq]; exact Nat.div_mul_le_self _ _
      have b3 : IntKind.u64.wrap ((q : Int) * (Z : Int)) = (f : Int) := by
        rw [← Int.natCast_mul, ← hf, IntKind.wrap_u64]; omega
      rw [← hq, ← hf] at HQ
      have b4 : IntKind.u64.wrap ((f : Int) + (Z : Int)) = ((f + Z : Nat) : Int) := by rw [IntKind.wrap_u64]; omega
      have b5 : ¬ ((f : Int) ≥ ((f + Z : Nat) : Int)) := by omega
      have b6 : IntKind.u64.wrap (((f + Z : Nat) : Int) - 1) = ((f + Z - 1 : Nat) : Int) := by rw [IntKind.wrap_u64]; omega
      have b0 : ¬ Z = 0 := by omega
      obtain ⟨g, hg⟩ : ∃ g, g = f + Z := ⟨_, rfl⟩
      obtain ⟨r1, r2, r3⟩ := rsel_y HQ.out.1 HQ.out.2 (by omega)
      rw [← hg] at b4 b5 b6 r3
      have HR := Lib.hid (And.intro r1 (And.intro r2 r3))
      clear r1 r2 r3 hx hE z1 z2 z3 hA hb hqb hq hf hfb hg HQ HI
      go_wp2_with fail
      go_ret3
      rw [HR.out.1, HR.out.2.1, HR.out.2.2]
      exact retR_mk rfl rfl rfl (by repeat (first | (with_reducible first | exact Below.refl _ _ | assumption | exact Nat.le_refl _ | refine Below.drew ?_ | refine Below.alloc ?_ ?_ _ | refine Below.setCell ?_ ?_ _ | refine le_alloc ?_ | refine le_set ?_ | refine le_drew ?_ | refine below_step (by assumption) ?_ ?_ | refine le_below (by assumption) ?_) | (dsimp only; omega)))

set_option maxRecDepth 100000 in
theorem RangeR_0 (c a : Nat → Nat) (n : Nat) (hn : n < 8) (hw : wayN (c n) = 0) (hc : Hid (OkC c)) (ha : Hid (OkA a)) (w : World) :
    Calls Tryd.prog 9 #[.agg (u8s c), .agg (u64s a), .int .i64 n] w (RetR (rA c a n) (rB c a n) (rOk c a n) w) := by
  obtain ⟨q1, q2⟩ := way0 (a := a) hw
  obtain ⟨r1, r2, r3⟩ := rsel_n q1 q2 (by omega)
  rw [r1, r2, r3]
  clear q1 q2 r1 r2 r3
  have n8 : (n : Int) ≤ 7 := by omega
  have n0 : ((n : Nat) : Int).toNat = n := by omega
  have HP := Lib.hid (fun v => address_c (a n) (ha.out n) v)
  have HW := Lib.hid (fun v => way_c (c n) (hc.out n) v)
  rw [hw] at HW
  have c0 : (u8s c)[n]? = some (.int .u8 (c n : Nat)) := u8s_at c n hn
  have a0 : (u64s a)[n]? = some (.int .u64 (a n : Nat)) := u64s_at a n hn
  go_enter Tryd.func9, Tryd.ntmps9
  go_wp2_with fail
  refine (HP.out _).mono ?_; rintro e w1 ⟨rfl, h⟩; replace h := h.symm; subst h
  go_wp2_with fail
  refine (HW.out _).mono ?_; rintro e w1 ⟨rfl, h⟩; replace h := h.symm; subst h
  go_wp2_with fail
  go_ret3
  exact retR_mk rfl rfl rfl (by repeat (first | (with_reducible first | exact Below.refl _ _ | assumption | exact Nat.le_refl _ | refine Below.drew ?_ | refine Below.alloc ?_ ?_ _ | refine Below.setCell ?_ ?_ _ | refine le_alloc ?_ | refine le_set ?_ | refine le_drew ?_ | refine below_step (by assumption) ?_ ?_ | refine le_below (by assumption) ?_) | (dsimp only; omega)))

set_option maxRecDepth 100000 in
theorem RangeR_2 (c a : Nat → Nat) (n : Nat) (hn : n < 8) (hw : wayN (c n) = 2) (hc : Hid (OkC c)) (ha : Hid (OkA a)) (w : World) :
    Calls Tryd.prog 9 #[.agg (u8s c), .agg (u64s a), .int .i64 n] w (RetR (rA c a n) (rB c a n) (rOk c a n) w) := by
  obtain ⟨q1, q2⟩ := way2 (a := a) hw
  obtain ⟨r1, r2, r3⟩ := rsel_y q1 q2 (by omega)
  have n8 : (n : Int) ≤ 7 := by omega
  have n0 : ((n : Nat) : Int).toNat = n := by omega
  have HP := Lib.hid (fun v => address_c (a n) (ha.out n) v)
  have HW := Lib.hid (fun v => way_c (c n) (hc.out n) v)
  rw [hw] at HW
  have c0 : (u8s c)[n]? = some (.int .u8 (c n : Nat)) := u8s_at c n hn
  have a0 : (u64s a)[n]? = some (.int .u64 (a n : Nat)) := u64s_at a n hn
  have hA := adr_lt (a n)
  obtain ⟨A, eA⟩ : ∃ A, A = adr (a n) := ⟨_, rfl⟩
  rw [← eA] at r2 r3 HP hA
  have b1 : IntKind.u64.wrap (4 * (A : Int)) = ((4 * A : Nat) : Int) := by rw [IntKind.wrap_u64]; omega
  obtain ⟨f, hf⟩ : ∃ f, f = 4 * A := ⟨_, rfl⟩
  rw [← hf] at b1 r2 r3
  have b4 : IntKind.u64.wrap ((f : Int) + 4) = ((f + 4 : Nat) : Int) := by rw [IntKind.wrap_u64]; omega
  have b5 : ¬ ((f : Int) ≥ ((f + 4 : Nat) : Int)) := by omega
  have b6 : IntKind.u64.wrap (((f + 4 : Nat) : Int) - 1) = ((f + 4 - 1 : Nat) : Int) := by rw [IntKind.wrap_u64]; omega
  obtain ⟨g, hg⟩ : ∃ g, g = f + 4 := ⟨_, rfl⟩
  rw [← hg] at b4 b5 b6 r3
  rw [r1, r2, r3]
  clear q1 q2 r1 r2 r3 eA hA hf hg
  go_enter Tryd.func9, Tryd.ntmps9
  go_wp2_with fail
  refine (HP.out _).mono ?_; rintro e w1 ⟨rfl, h⟩; replace h := h.symm; subst h
  go_wp2_with fail
  refine (HW.out _).mono ?_; rintro e w1 ⟨rfl, h⟩; replace h := h.symm; subst h
  go_wp2_with fail
  go_ret3
  exact retR_mk rfl (by first | rfl | exact b6) rfl (by repeat (first | (with_reducible first | exact Below.refl _ _ | assumption | exact Nat.le_refl _ | refine Below.drew ?_ | refine Below.alloc ?_ ?_ _ | refine Below.setCell ?_ ?_ _ | refine le_alloc ?_ | refine le_set ?_ | refine le_drew ?_ | refine below_step (by assumption) ?_ ?_ | refine le_below (by assumption) ?_) | (dsimp only; omega)))

set_option maxRecDepth 100000 in
theorem RangeR_1z (c a : Nat → Nat) (n : Nat) (hn : n < 8) (hz : n = 0) (hw : wayN (c n) = 1) (hc : Hid (OkC c)) (ha : Hid (OkA a)) (w : World) :
    Calls Tryd.prog 9 #[.agg (u8s c), .agg (u64s a), .int .i64 n] w (RetR (rA c a n) (rB c a n) (rOk c a n) w) := by
  obtain ⟨q1, q2⟩ := way1 (a := a) hw
  have n8 : (n : Int) ≤ 7 := by omega
  have n0 : ((n : Nat) : Int).toNat = n := by omega
  have HP := Lib.hid (fun v => address_c (a n) (ha.out n) v)
  have HW := Lib.hid (fun v => way_c (c n) (hc.out n) v)
  rw [hw] at HW
  have c0 : (u8s c)[n]? = some (.int .u8 (c n : Nat)) := u8s_at c n hn
  have a0 : (u64s a)[n]? = some (.int .u64 (a n : Nat)) := u64s_at a n hn
  have z0 : ¬ (n : Int) > 0 := by omega
  rw [show (bif n == 0 then 0 else 4 * adr (a (n - 1))) = 0 by rw [hz]; rfl] at q1
  obtain ⟨x, hx⟩ : ∃ x, x = 0 := ⟨_, rfl⟩
  rw [← hx] at q1
  have hA := adr_lt (a n)
  obtain ⟨A, eA⟩ : ∃ A, A = adr (a n) := ⟨_, rfl⟩
  rw [← eA] at q2 HP hA
  obtain ⟨y, hy⟩ : ∃ y, y = 4 * A := ⟨_, rfl⟩
  rw [← hy] at q2
  have b1 : IntKind.u64.wrap (4 * (A : Int)) = (y : Int) := by rw [IntKind.wrap_u64]; omega
  by_cases h : x < y
  · obtain ⟨r1, r2, r3⟩ := rsel_y q1 q2 h
    rw [r1, r2, r3]
    have b5 : ¬ ((x : Int) ≥ (y : Int)) := by omega
    have b6 : IntKind.u64.wrap ((y : Int) - 1) = ((y - 1 : Nat) : Int) := by rw [IntKind.wrap_u64]; omega
    subst hx
    rw [show ((0 : Nat) : Int) = 0 from rfl] at b5
    clear q1 q2 r1 r2 r3 eA hA hy hz h
    go_enter Tryd.func9, Tryd.ntmps9
    go_wp2_with fail
    refine (HP.out _).mono ?_; rintro e w1 ⟨rfl, h⟩; replace h := h.symm; subst h
    go_wp2_with fail
    refine (HW.out _).mono ?_; rintro e w1 ⟨rfl, h⟩; replace h := h.symm; subst h
    go_wp2_with fail
    go_ret3
    exact retR_mk rfl (by first | rfl | exact b6) rfl (by repeat (first | (with_reducible first | exact Below.refl _ _ | assumption | exact Nat.le_refl _ | refine Below.drew ?_ | refine Below.alloc ?_ ?_ _ | refine Below.setCell ?_ ?_ _ | refine le_alloc ?_ | refine le_set ?_ | refine le_drew ?_ | refine below_step (by assumption) ?_ ?_ | refine le_below (by assumption) ?_) | (dsimp only; omega)))
  · obtain ⟨r1, r2, r3⟩ := rsel_n q1 q2 h
    rw [r1, r2, r3]
    have b5 : ((x : Int) ≥ (y : Int)) := by omega
    subst hx
    rw [show ((0 : Nat) : Int) = 0 from rfl] at b5
    clear q1 q2 r1 r2 r3 eA hA hy hz h
    go_enter Tryd.func9, Tryd.ntmps9
    go_wp2_with fail
    refine (HP.out _).mono ?_; rintro e w1 ⟨rfl, h⟩; replace h := h.symm; subst h
    go_wp2_with fail
    refine (HW.out _).mono ?_; rintro e w1 ⟨rfl, h⟩; replace h := h.symm; subst h
    go_wp2_with fail
    go_ret3
    exact retR_mk rfl rfl rfl (by repeat (first | (with_reducible first | exact Below.refl _ _ | assumption | exact Nat.le_refl _ | refine Below.drew ?_ | refine Below.alloc ?_ ?_ _ | refine Below.setCell ?_ ?_ _ | refine le_alloc ?_ | refine le_set ?_ | refine le_drew ?_ | refine below_step (by assumption) ?_ ?_ | refine le_below (by assumption) ?_) | (dsimp only; omega)))

set_option maxRecDepth 100000 in
theorem RangeR_1s (c a : Nat → Nat) (n : Nat) (hn : n < 8) (hz : n ≠ 0) (hw : wayN (c n) = 1) (hc : Hid (OkC c)) (ha : Hid (OkA a)) (w : World) :
    Calls Tryd.prog 9 #[.agg (u8s c), .agg (u64s a), .int .i64 n] w (RetR (rA c a n) (rB c a n) (rOk c a n) w) := by
  obtain ⟨q1, q2⟩ := way1 (a := a) hw
  have n8 : (n : Int) ≤ 7 := by omega
  have n0 : ((n : Nat) : Int).toNat = n := by omega
  have HP := Lib.hid (fun v => address_c (a n) (ha.out n) v)
  have HW := Lib.hid (fun v => way_c (c n) (hc.out n) v)
  rw [hw] at HW
  have c0 : (u8s c)[n]? = some (.int .u8 (c n : Nat)) := u8s_at c n hn
  have a0 : (u64s a)[n]? = some (.int .u64 (a n : Nat)) := u64s_at a n hn
  obtain ⟨m, hm⟩ : ∃ m, m = n - 1 := ⟨_, rfl⟩
  have m8 : (m : Int) < 8 := by omega
  have m0 : ((m : Nat) : Int).toNat = m := by omega
  have z0 : (0 : Int) < n := by omega
  have z2 : wrap64 ((n : Int) - 1) = (m : Int) := by rw [IntWalk.wrap64_in _ ⟨by omega, by omega⟩]; omega
  have z1 : IntKind.i64.wrap ((n : Int) - 1) = (m : Int) := by rw [IntKind.wrap_i64]; omega
  have am : (u64s a)[m]? = some (.int .u64 (a m : Nat)) := u64s_at a m (by omega)
  have HM := Lib.hid (fun v => address_c (a m) (ha.out m) v)
  rw [show (bif n == 0 then 0 else 4 * adr (a (n - 1))) = 4 * adr (a m) by rw [hm, show (n == 0) = false by simp [hz]]; rfl] at q1
  have hB := adr_lt (a m)
  obtain ⟨B, eB⟩ : ∃ B, B = adr (a m) := ⟨_, rfl⟩
  rw [← eB] at q1 HM hB
  obtain ⟨x, hx⟩ : ∃ x, x = 4 * B := ⟨_, rfl⟩
  rw [← hx] at q1
  have d1 : IntKind.u64.wrap (4 * (B : Int)) = (x : Int) := by rw [IntKind.wrap_u64]; omega
  have hA := adr_lt (a n)
  obtain ⟨A, eA⟩ : ∃ A, A = adr (a n) := ⟨_, rfl⟩
  rw [← eA] at q2 HP hA
  obtain ⟨y, hy⟩ : ∃ y, y = 4 * A := ⟨_, rfl⟩
  rw [← hy] at q2
  have b1 : IntKind.u64.wrap (4 * (A : Int)) = (y : Int) := by rw [IntKind.wrap_u64]; omega
  by_cases h : x < y
  · obtain ⟨r1, r2, r3⟩ := rsel_y q1 q2 h
    rw [r1, r2, r3]
    have b5 : ¬ ((x : Int) ≥ (y : Int)) := by omega
    have b6 : IntKind.u64.wrap ((y : Int) - 1) = ((y - 1 : Nat) : Int) := by rw [IntKind.wrap_u64]; omega
    clear q1 q2 r1 r2 r3 eA hA hy hz h hm eB hB hx
    go_enter Tryd.func9, Tryd.ntmps9
    go_wp2_with fail
    refine (HP.out _).mono ?_; rintro e w1 ⟨rfl, h⟩; replace h := h.symm; subst h
    go_wp2_with fail
    refine (HW.out _).mono ?_; rintro e w1 ⟨rfl, h⟩; replace h := h.symm; subst h
    go_wp2_with fail
    refine (HM.out _).mono ?_; rintro e w1 ⟨rfl, h⟩; replace h := h.symm; subst h
    go_wp2_with fail
    go_ret3
    exact retR_mk rfl (by first | rfl | exact b6) rfl (by repeat (first | (with_reducible first | exact Below.refl _ _ | assumption | exact Nat.le_refl _ | refine Below.drew ?_ | refine Below.alloc ?_ ?_ _ | refine Below.setCell ?_ ?_ _ | refine le_alloc ?_ | refine le_set ?_ | refine le_drew ?_ | refine below_step (by assumption) ?_ ?_ | refine le_below (by assumption) ?_) | (dsimp only; omega)))
  · obtain ⟨r1, r2, r3⟩ := rsel_n q1 q2 h
    rw [r1, r2, r3]
    have b5 : ((x : Int) ≥ (y : Int)) := by omega
    clear q1 q2 r1 r2 r3 eA hA hy hz h hm eB hB hx
    go_enter Tryd.func9, Tryd.ntmps9
    go_wp2_with fail
    refine (HP.out _).mono ?_; rintro e w1 ⟨rfl, h⟩; replace h := h.symm; subst h
    go_wp2_with fail
    refine (HW.out _).mono ?_; rintro e w1 ⟨rfl, h⟩; replace h := h.symm; subst h
    go_wp2_with fail
    refine (HM.out _).mono ?_; rintro e w1 ⟨rfl, h⟩; replace h := h.symm; subst h
    go_wp2_with fail
    go_ret3
    exact retR_mk rfl rfl rfl (by repeat (first | (with_reducible first | exact Below.refl _ _ | assumption | exact Nat.le_refl _ | refine Below.drew ?_ | refine Below.alloc ?_ ?_ _ | refine Below.setCell ?_ ?_ _ | refine le_alloc ?_ | refine le_set ?_ | refine le_drew ?_ | refine below_step (by assumption) ?_ ?_ | refine le_below (by assumption) ?_) | (dsimp only; omega)))

theorem RangeR_c (c a : Nat → Nat) (n : Nat) (hn : n < 8) (hc : Hid (OkC c)) (ha : Hid (OkA a)) (w : World) :
    Calls Tryd.prog 9 #[.agg (u8s c), .agg (u64s a), .int .i64 n] w (RetR (rA c a n) (rB c a n) (rOk c a n) w) := by
  rcases way_cases (c n) with h | h | h | h
  · exact RangeR_0 c a n hn h hc ha w
  · by_cases hz : n = 0
    · exact RangeR_1z c a n hn hz h hc ha w
    · exact RangeR_1s c a n hn hz h hc ha w
  · exact RangeR_2 c a n hn h hc ha w
  · exact RangeR_3 c a n hn h hc ha w
set_option maxRecDepth 100000 in
theorem RangeR_no (c a : Nat → Nat) (n : Int) (hn : Hid (¬ (0 ≤ n ∧ n < 8))) (w : World) :
    Calls Tryd.prog 9 #[.agg (u8s c), .agg (u64s a), .int .i64 n] w (RetR 0 0 false w) := by
  by_cases h : n < 0
  · clear hn
    go_enter Tryd.func9, Tryd.ntmps9
    go_wp2_with fail
    go_ret3
    exact retR_mk rfl rfl rfl (by repeat (first | (with_reducible first | exact Below.refl _ _ | assumption | exact Nat.le_refl _ | refine Below.drew ?_ | refine Below.alloc ?_ ?_ _ | refine Below.setCell ?_ ?_ _ | refine le_alloc ?_ | refine le_set ?_ | refine le_drew ?_ | refine below_step (by assumption) ?_ ?_ | refine le_below (by assumption) ?_) | (dsimp only; omega)))
  · have h2 : n > 7 := by have := hn.out; omega
    clear hn
    go_enter Tryd.func9, Tryd.ntmps9
    go_wp2_with fail
    go_ret3
    exact retR_mk rfl rfl rfl (by repeat (first | (with_reducible first | exact Below.refl _ _ | assumption | exact Nat.le_refl _ | refine Below.drew ?_ | refine Below.alloc ?_ ?_ _ | refine Below.setCell ?_ ?_ _ | refine le_alloc ?_ | refine le_set ?_ | refine le_drew ?_ | refine below_step (by assumption) ?_ ?_ | refine le_below (by assumption) ?_) | (dsimp only; omega)))
end Go.Proofs.YtjkpcmhepeekmaaDoor
