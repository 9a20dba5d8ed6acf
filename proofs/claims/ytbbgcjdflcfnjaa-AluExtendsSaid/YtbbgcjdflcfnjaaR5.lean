/- The document's own answers: signed. -/
import Derived.Test.YtbbgcjdflcfnjaaR4
namespace Go.Proofs.Ytbbgcjdflcfnjaa
open Go.ChangeShapes Go.WideShapes Go.ChangeAt Go.RowKit
set_option linter.unusedVariables false
set_option linter.unusedSimpArgs false
theorem mod_pow_of {wd : Nat} (hw : wd ≤ 64) (x : Nat) : x % 18446744073709551616 % 2 ^ wd = x % 2 ^ wd :=
  Nat.mod_mod_of_dvd x (by rw [show (18446744073709551616 : Nat) = 2 ^ 64 by decide]; exact Nat.pow_dvd_pow 2 hw)
theorem half_pow {wd half : Nat} (h1 : 1 ≤ wd) (hh : 2 * half = 2 ^ wd) : half = 2 ^ (wd - 1) := by
  obtain ⟨m, rfl⟩ : ∃ m, wd = m + 1 := ⟨wd - 1, by omega⟩
  rw [Nat.pow_succ] at hh; simp only [Nat.add_sub_cancel]; omega
theorem high_eq {wd half a : Nat} (h1 : 1 ≤ wd) (hh : 2 * half = 2 ^ wd) (ha : a < 2 ^ wd) : highV wd a = decide (half ≤ a) := by
  have hp := half_pow h1 hh
  unfold highV; rw [← hp]
  rw [← hh] at ha
  have h0 : 0 < half := by rw [hp]; exact Nat.two_pow_pos _
  by_cases h : half ≤ a
  · have : a / half = 1 := (dm_unique h0 (show (a - half) + half * 1 = a by omega) (by omega)).1
    rw [this]; simp [h]
  · rw [Nat.div_eq_of_lt (by omega)]; simp [h]
theorem minus_eq {wd half a : Nat} (hw : wd ≤ 64) (hh : 2 * half = 2 ^ wd) (ha : a < 2 ^ wd) : minusV wd a = (2 * half - a) % (2 * half) := by
  unfold minusV
  rw [mod_pow_of hw, ← hh]
  have hd : 2 * half ∣ 18446744073709551616 := by rw [hh, show (18446744073709551616 : Nat) = 2 ^ 64 by decide]; exact Nat.pow_dvd_pow 2 hw
  obtain ⟨c, hc⟩ := hd
  rw [← hh] at ha
  have hc0 : 0 < c := Nat.pos_of_ne_zero (fun h => by subst h; omega)
  obtain ⟨d, rfl⟩ : ∃ d, c = d + 1 := ⟨c - 1, by omega⟩
  rw [Nat.mul_add, Nat.mul_one] at hc
  rw [hc, show 2 * half * d + 2 * half - a = (2 * half - a) + 2 * half * d by omega, Nat.add_mul_mod_self_left]
/-- The magnitude of a number that is taken with a sign. -/
def absV (half a : Nat) : Nat := if half ≤ a then 2 * half - a else a
theorem abs_eq (half a : Nat) (ha : a < 2 * half) : (absV half a : Int) = (sgn half a).natAbs := by unfold absV sgn; split <;> split <;> omega
theorem uns_neg (half q : Nat) (h0 : 0 < half) (hq : q < 2 * half) : uns half (-(q : Int)) = (2 * half - q) % (2 * half) := by
  have h := uns_cast h0 (-(q : Int))
  by_cases hz : q = 0
  · subst hz; unfold uns; simp
  · have e : (-(q : Int)) % ((2 * half : Nat) : Int) = ((2 * half - q : Nat) : Int) := by
      rw [show (-(q : Int)) = ((2 * half - q : Nat) : Int) + ((2 * half : Nat) : Int) * (-1) by omega, Int.add_mul_emod_self_left]
      exact Int.emod_eq_of_lt (by omega) (by omega)
    rw [e] at h
    rw [Nat.mod_eq_of_lt (by omega)]; omega
theorem uns_pos (half q : Nat) (hq : q < 2 * half) : uns half (q : Int) = q := by rw [uns_nat]; exact Nat.mod_eq_of_lt hq
theorem quo_abs (half a b : Nat) (h0 : 0 < half) (ha : a < 2 * half) (hb : b < 2 * half) (hz : 0 < b) :
    quoS half a b = (if decide (half ≤ a) != decide (half ≤ b) then (2 * half - absV half a / absV half b) % (2 * half) else absV half a / absV half b) ∧
    remS half a b = (if decide (half ≤ a) then (2 * half - absV half a % absV half b) % (2 * half) else absV half a % absV half b) := by
  have hA : absV half a < 2 * half := by unfold absV; split <;> omega
  have hq : absV half a / absV half b < 2 * half := Nat.lt_of_le_of_lt (Nat.div_le_self _ _) hA
  have hr : absV half a % absV half b < 2 * half := Nat.lt_of_le_of_lt (Nat.mod_le _ _) hA
  have ea : sgn half a = if half ≤ a then -(absV half a : Int) else (absV half a : Int) := by unfold sgn absV; split <;> split <;> omega
  have eb : sgn half b = if half ≤ b then -(absV half b : Int) else (absV half b : Int) := by unfold sgn absV; split <;> split <;> omega
  have e1 : ((absV half a : Int)).tdiv (absV half b : Int) = ((absV half a / absV half b : Nat) : Int) := rfl
  have e2 : ((absV half a : Int)).tmod (absV half b : Int) = ((absV half a % absV half b : Nat) : Int) := rfl
  have hz' : ¬ b = 0 := by omega
  rw [show quoS half a b = uns half ((sgn half a).tdiv (sgn half b)) from if_neg hz', show remS half a b = uns half ((sgn half a).tmod (sgn half b)) from if_neg hz', ea, eb]
  have u1 := uns_pos half _ hq
  have u2 := uns_neg half _ h0 hq
  have u3 := uns_pos half _ hr
  have u4 := uns_neg half _ h0 hr
  by_cases h1 : half ≤ a <;> by_cases h2 : half ≤ b <;> simp only [h1, h2, if_true, if_false, Int.neg_tdiv, Int.tdiv_neg, Int.neg_tmod, Int.tmod_neg, Int.neg_neg, e1, e2, u1, u2, u3, u4, decide_true, decide_false, bne_self_eq_false, Bool.false_eq_true, reduceIte] <;> (first | exact ⟨rfl, rfl⟩ | (constructor <;> simp))
set_option maxRecDepth 100000 in
set_option maxHeartbeats 4000000 in
theorem signed_c (a b wd half : Nat) (h1 : 1 ≤ wd) (h2 : wd ≤ 64) (hh : 2 * half = 2 ^ wd) (ha : a < 2 ^ wd) (hb : b < 2 ^ wd) (hz : 0 < b) (w : World) :
    Calls Try.prog 42 #[.int .u64 a, .int .u64 b, .int .i64 wd] w (RetP (quoS half a b) (remS half a b) w) := by
  have hN := pow_le64 wd h2
  have h0 : 0 < half := by have := half_pow h1 hh; rw [this]; exact Nat.two_pow_pos _
  have q := quo_abs half a b h0 (by omega) (by omega) hz
  have hA : absV half a < 2 ^ wd := by unfold absV; split <;> omega
  have hB : absV half b < 2 ^ wd := by unfold absV; split <;> omega
  have hB0 : 0 < absV half b := by unfold absV; split <;> omega
  have l64 : ∀ x, x < 2 ^ wd → x < 18446744073709551616 := fun x h => Nat.lt_of_lt_of_le h hN
  have hq : absV half a / absV half b < 2 ^ wd := Nat.lt_of_le_of_lt (Nat.div_le_self _ _) hA
  have hr : absV half a % absV half b < 2 ^ wd := Nat.lt_of_le_of_lt (Nat.mod_le _ _) hA
  have D1 := Lib.hid (fun w => high_c a wd (l64 a ha) h1 h2 w)
  have D2 := Lib.hid (fun w => high_c b wd (l64 b hb) h1 h2 w)
  rw [high_eq h1 hh ha] at D1
  rw [high_eq h1 hh hb] at D2
  have M := fun x (hx : x < 2 ^ wd) => Lib.hid (fun w => minus_c x wd (l64 x hx) h2 w)
  have m1 := M a ha
  have m2 := M b hb
  have m3 := M _ hq
  have m4 := M _ hr
  rw [minus_eq h2 hh ha] at m1
  rw [minus_eq h2 hh hb] at m2
  rw [minus_eq h2 hh hq] at m3
  rw [minus_eq h2 hh hr] at m4
  have D3 := Lib.hid (fun w => divide_c (absV half a) (absV half b) wd (l64 _ hA) (l64 _ hB) hB0 h2 hA w)
  have xa : decide (half ≤ a) = true → (2 * half - a) % (2 * half) = absV half a := fun h => by
    have := of_decide_eq_true h; unfold absV; rw [if_pos this]; exact Nat.mod_eq_of_lt (by omega)
  have xb : decide (half ≤ b) = true → (2 * half - b) % (2 * half) = absV half b := fun h => by
    have := of_decide_eq_true h; unfold absV; rw [if_pos this]; exact Nat.mod_eq_of_lt (by omega)
  have ya : decide (half ≤ a) = false → absV half a = a := fun h => if_neg (of_decide_eq_false h)
  have yb : decide (half ≤ b) = false → absV half b = b := fun h => if_neg (of_decide_eq_false h)
  have HQ := Lib.hid q.1
  have HR := Lib.hid q.2
  generalize quoS half a b = Q at *
  generalize remS half a b = R at *
  generalize absV half a / absV half b = qq at *
  generalize absV half a % absV half b = rr at *
  generalize absV half a = A at *
  generalize absV half b = B at *
  generalize (2 * half - a) % (2 * half) = a' at *
  generalize (2 * half - b) % (2 * half) = b' at *
  generalize (2 * half - qq) % (2 * half) = q' at *
  generalize (2 * half - rr) % (2 * half) = r' at *
  generalize decide (half ≤ a) = x at *
  generalize decide (half ≤ b) = y at *
  clear q hA hB hB0 hq hr M l64 ha hb h0 hN hh hz h1 h2
  cases x <;> cases y
  · have k := ya rfl; subst k
    have k := yb rfl; subst k
    clear xa xb ya yb
    go_enter Try.func42, Try.ntmps42
    go_wp2_with fail
    refine (D1.out _).mono ?_; rintro e w1 ⟨rfl, hb1⟩
    go_wp2_with fail
    refine (D2.out _).mono ?_; rintro e w2 ⟨rfl, hb2⟩
    go_wp2_with fail
    refine (D3.out _).mono ?_; rintro e w5 ⟨rfl, hb5⟩
    go_wp2_with fail
    exact bodyPost_ret (v := .tuple #[_, _]) (by simp [results, Try.results42, go_sem] <;> (first | rfl | (repeat' (first | rfl | apply And.intro)))) rfl (retP_mk (by rw [HQ.out]; rfl) (by rw [HR.out]; rfl) (by repeat (first | (with_reducible first | exact Below.refl _ _ | assumption | exact Nat.le_refl _ | refine Below.drew ?_ | refine Below.alloc ?_ ?_ _ | refine below_drewN ?_ _ | refine Below.setCell ?_ ?_ _ | refine le_alloc ?_ | refine le_set ?_ | refine le_drew ?_ | refine le_drewN ?_ | refine below_step (by assumption) ?_ ?_ | refine le_below (by assumption) ?_) | (dsimp only; omega))))
  · have k := ya rfl; subst k
    have k := xb rfl; subst k
    clear xa xb ya yb
    go_enter Try.func42, Try.ntmps42
    go_wp2_with fail
    refine (D1.out _).mono ?_; rintro e w1 ⟨rfl, hb1⟩
    go_wp2_with fail
    refine (D2.out _).mono ?_; rintro e w2 ⟨rfl, hb2⟩
    go_wp2_with fail
    refine (m2.out _).mono ?_; rintro e w4 ⟨rfl, hb4⟩
    go_wp2_with fail
    refine (D3.out _).mono ?_; rintro e w5 ⟨rfl, hb5⟩
    go_wp2_with fail
    refine (m3.out _).mono ?_; rintro e w6 ⟨rfl, hb6⟩
    go_wp2_with fail
    exact bodyPost_ret (v := .tuple #[_, _]) (by simp [results, Try.results42, go_sem] <;> (first | rfl | (repeat' (first | rfl | apply And.intro)))) rfl (retP_mk (by rw [HQ.out]; rfl) (by rw [HR.out]; rfl) (by repeat (first | (with_reducible first | exact Below.refl _ _ | assumption | exact Nat.le_refl _ | refine Below.drew ?_ | refine Below.alloc ?_ ?_ _ | refine below_drewN ?_ _ | refine Below.setCell ?_ ?_ _ | refine le_alloc ?_ | refine le_set ?_ | refine le_drew ?_ | refine le_drewN ?_ | refine below_step (by assumption) ?_ ?_ | refine le_below (by assumption) ?_) | (dsimp only; omega))))
  · have k := xa rfl; subst k
    have k := yb rfl; subst k
    clear xa xb ya yb
    go_enter Try.func42, Try.ntmps42
    go_wp2_with fail
    refine (D1.out _).mono ?_; rintro e w1 ⟨rfl, hb1⟩
    go_wp2_with fail
    refine (D2.out _).mono ?_; rintro e w2 ⟨rfl, hb2⟩
    go_wp2_with fail
    refine (m1.out _).mono ?_; rintro e w3 ⟨rfl, hb3⟩
    go_wp2_with fail
    refine (D3.out _).mono ?_; rintro e w5 ⟨rfl, hb5⟩
    go_wp2_with fail
    refine (m3.out _).mono ?_; rintro e w6 ⟨rfl, hb6⟩
    go_wp2_with fail
    refine (m4.out _).mono ?_; rintro e w7 ⟨rfl, hb7⟩
    go_wp2_with fail
    exact bodyPost_ret (v := .tuple #[_, _]) (by simp [results, Try.results42, go_sem] <;> (first | rfl | (repeat' (first | rfl | apply And.intro)))) rfl (retP_mk (by rw [HQ.out]; rfl) (by rw [HR.out]; rfl) (by repeat (first | (with_reducible first | exact Below.refl _ _ | assumption | exact Nat.le_refl _ | refine Below.drew ?_ | refine Below.alloc ?_ ?_ _ | refine below_drewN ?_ _ | refine Below.setCell ?_ ?_ _ | refine le_alloc ?_ | refine le_set ?_ | refine le_drew ?_ | refine le_drewN ?_ | refine below_step (by assumption) ?_ ?_ | refine le_below (by assumption) ?_) | (dsimp only; omega))))
  · have k := xa rfl; subst k
    have k := xb rfl; subst k
    clear xa xb ya yb
    go_enter Try.func42, Try.ntmps42
    go_wp2_with fail
    refine (D1.out _).mono ?_; rintro e w1 ⟨rfl, hb1⟩
    go_wp2_with fail
    refine (D2.out _).mono ?_; rintro e w2 ⟨rfl, hb2⟩
    go_wp2_with fail
    refine (m1.out _).mono ?_; rintro e w3 ⟨rfl, hb3⟩
    go_wp2_with fail
    refine (m2.out _).mono ?_; rintro e w4 ⟨rfl, hb4⟩
    go_wp2_with fail
    refine (D3.out _).mono ?_; rintro e w5 ⟨rfl, hb5⟩
    go_wp2_with fail
    refine (m4.out _).mono ?_; rintro e w7 ⟨rfl, hb7⟩
    go_wp2_with fail
    exact bodyPost_ret (v := .tuple #[_, _]) (by simp [results, Try.results42, go_sem] <;> (first | rfl | (repeat' (first | rfl | apply And.intro)))) rfl (retP_mk (by rw [HQ.out]; rfl) (by rw [HR.out]; rfl) (by repeat (first | (with_reducible first | exact Below.refl _ _ | assumption | exact Nat.le_refl _ | refine Below.drew ?_ | refine Below.alloc ?_ ?_ _ | refine below_drewN ?_ _ | refine Below.setCell ?_ ?_ _ | refine le_alloc ?_ | refine le_set ?_ | refine le_drew ?_ | refine le_drewN ?_ | refine below_step (by assumption) ?_ ?_ | refine le_below (by assumption) ?_) | (dsimp only; omega))))
end Go.Proofs.Ytbbgcjdflcfnjaa
