/- The document's own answers: shift. -/
import Derived.Test.YtbbgcjdflcfnjaaR5
namespace Go.Proofs.Ytbbgcjdflcfnjaa
open Go.ChangeShapes Go.WideShapes Go.ChangeAt Go.RowKit
set_option linter.unusedVariables false
set_option linter.unusedSimpArgs false
theorem sll_step (a n wd : Nat) : (a * 2 ^ n % 2 ^ wd * 2) % 2 ^ wd = a * 2 ^ (n + 1) % 2 ^ wd := by
  rw [Nat.mul_mod, Nat.mod_mod, ← Nat.mul_mod, Nat.pow_succ, Nat.mul_assoc]
theorem srl_step (a n : Nat) : a / 2 ^ (n + 1) = a / 2 ^ n / 2 := by rw [Nat.pow_succ, Nat.div_div_eq_div_mul]
theorem sgn_uns (half : Nat) (x : Int) (h0 : 0 < half) (h1 : -(half : Int) ≤ x) (h2 : x < half) : sgn half (uns half x) = x := by
  have h := uns_cast h0 x
  by_cases hx : 0 ≤ x
  · rw [Int.emod_eq_of_lt hx (by omega)] at h
    unfold sgn; rw [if_pos (by omega)]; exact h
  · rw [show x = (x + ((2 * half : Nat) : Int)) + ((2 * half : Nat) : Int) * (-1) by omega, Int.add_mul_emod_self_left, Int.emod_eq_of_lt (by omega) (by omega)] at h
    rw [show x = (x + ((2 * half : Nat) : Int)) + ((2 * half : Nat) : Int) * (-1) by omega] 
    unfold sgn; split <;> omega
theorem sra_step (half a n : Nat) (h0 : 0 < half) (he : half % 2 = 0) (ha : a < 2 * half) :
    sraV half a (n + 1) = (if half ≤ sraV half a n then sraV half a n / 2 + half else sraV half a n / 2) ∧ sraV half a n < 2 * half := by
  have hr := sgn_range ha
  have hx : -(half : Int) ≤ sgn half a / 2 ^ n ∧ sgn half a / 2 ^ n < half := by
    have hp : (0 : Int) < 2 ^ n := by rw [pow_cast]; have := Nat.two_pow_pos n; omega
    constructor
    · apply Int.le_ediv_of_mul_le hp
      have : (half : Int) * 1 ≤ (half : Int) * 2 ^ n := Int.mul_le_mul_of_nonneg_left (by omega) (by omega)
      rw [Int.neg_mul]; omega
    · apply Int.ediv_lt_of_lt_mul hp
      have : (half : Int) * 1 ≤ (half : Int) * 2 ^ n := Int.mul_le_mul_of_nonneg_left (by omega) (by omega)
      omega
  have hd : sgn half a / 2 ^ (n + 1) = sgn half a / 2 ^ n / 2 := by
    have hp : (0 : Int) ≤ 2 ^ n := by rw [pow_cast]; exact Int.natCast_nonneg _
    rw [Int.pow_succ, Int.ediv_ediv_of_nonneg hp]
  unfold sraV
  rw [hd]
  generalize sgn half a / 2 ^ n = x at *
  have hs := sgn_uns half x h0 hx.1 hx.2
  have hl := uns_lt h0 x
  have hu := uns_cast h0 (x / 2)
  generalize uns half x = u at *
  refine ⟨?_, hl⟩
  have key : x = if u < half then (u : Int) else (u : Int) - 2 * half := hs.symm
  by_cases hh : half ≤ u
  · rw [if_pos hh]; rw [if_neg (by omega)] at key
    have e : (x / 2) % ((2 * half : Nat) : Int) = ((u / 2 + half : Nat) : Int) := by
      rw [show x / 2 = ((u / 2 + half : Nat) : Int) + ((2 * half : Nat) : Int) * (-1) by omega, Int.add_mul_emod_self_left]
      exact Int.emod_eq_of_lt (by omega) (by omega)
    rw [e] at hu; omega
  · rw [if_neg hh]; rw [if_pos (by omega)] at key
    have e : (x / 2) % ((2 * half : Nat) : Int) = ((u / 2 : Nat) : Int) := by
      rw [key]; rw [show ((u : Int) / 2) = ((u / 2 : Nat) : Int) by omega]; exact Int.emod_eq_of_lt (by omega) (by omega)
    rw [e] at hu; omega
set_option maxRecDepth 100000 in
set_option maxHeartbeats 2000000 in
theorem shift_15 (a s wd half : Nat) (h1 : 1 ≤ wd) (h2 : wd ≤ 64) (hh : 2 * half = 2 ^ wd) (ha : a < 2 ^ wd) (hs : Hid (s < 64)) (w : World) :
    Calls Try.prog 40 #[.int .i64 15, .int .u64 a, .int .i64 s, .int .i64 wd] w (RetV .u64 ((a * 2 ^ s % 2 ^ wd : Nat) : Int) w) := by
  have hN := pow_le64 wd h2
  have HS0 : Hid (a * 2 ^ 0 % 2 ^ wd = a) := by show _ = _; rw [Nat.pow_zero, Nat.mul_one, Nat.mod_eq_of_lt ha]
  go_enter Try.func40, Try.ntmps40
  go_wp2_with fail
  go_loopw [1, 9] (fun x i wr => ∃ n : Nat, n ≤ s ∧ x = .int .u64 ((a * 2 ^ n % 2 ^ wd : Nat) : Int) ∧ i = .int .i64 (n : Int) ∧ Hid (Below w.heap.size w wr)) (fun _ i _ => ((s : Int) - intOf i).toNat)
  case atStart => exact ⟨0, by omega, by congr 2; exact HS0.out.symm, rfl, by show Below _ _ _; exact (by repeat (first | (with_reducible first | exact Below.refl _ _ | assumption | exact Nat.le_refl _ | refine Below.drew ?_ | refine Below.alloc ?_ ?_ _ | refine below_drewN ?_ _ | refine Below.setCell ?_ ?_ _ | refine le_alloc ?_ | refine le_set ?_ | refine le_drew ?_ | refine le_drewN ?_ | refine below_step (by assumption) ?_ ?_ | refine le_below (by assumption) ?_) | (dsimp only; omega)))⟩
  case round =>
    obtain ⟨n, hn, rfl, rfl, HB⟩ := hrel
    have hss := hs.out
    by_cases hlt : n < s
    · have hlt' : (n : Int) < (s : Int) := by omega
      have hnn : Hid (n < s ∧ s < 64) := ⟨hlt, hss⟩
      have hn64 : (n : Int) < 64 := by omega
      have hx : a * 2 ^ n % 2 ^ wd < 18446744073709551616 := Nat.lt_of_lt_of_le (Nat.mod_lt _ (Nat.two_pow_pos wd)) hN
      have hst := sll_step a n wd
      obtain ⟨Y, hY⟩ : ∃ Y, Y = a * 2 ^ (n + 1) % 2 ^ wd := ⟨_, rfl⟩
      rw [← hY] at hst
      have HY := Lib.hid hY
      generalize a * 2 ^ n % 2 ^ wd = X at *
      have D1 := Lib.hid (fun w => high_c X wd hx h1 h2 w)
      have D2 := Lib.hid (fun w => low_c (X * 2 % 18446744073709551616) wd (Nat.mod_lt _ (by decide)) h2 w)
      rw [mod_pow_of h2, hst] at D2
      have E := Lib.hid (show IntKind.u64.wrap ((X : Int) * 2) = ((X * 2 % 18446744073709551616 : Nat) : Int) by rw [IntKind.wrap_u64]; omega)
      generalize highV wd X = hv at *
      generalize X * 2 % 18446744073709551616 = Z at *
      clear hY hst hx hN hn hlt hss h1 h2 hh ha
      go_wp2_with fail
      refine (D1.out _).mono ?_; rintro e w1 ⟨rfl, hb1⟩
      go_wp2_with fail
      rw [E.out]
      refine (D2.out _).mono ?_; rintro e w2 ⟨rfl, hb2⟩
      go_wp2_with fail
      go_roundw
      case rel =>
        have hkk := hnn.out; have hB := HB.out
        exact ⟨n + 1, by omega, by rw [HY.out], by first | rfl | (congr 1; omega) | (congr 1; rw [IntWalk.i64_in _ (by omega)]; omega), by show Below _ _ _; exact (by repeat (first | (with_reducible first | exact Below.refl _ _ | assumption | exact Nat.le_refl _ | refine Below.drew ?_ | refine Below.alloc ?_ ?_ _ | refine below_drewN ?_ _ | refine Below.setCell ?_ ?_ _ | refine le_alloc ?_ | refine le_set ?_ | refine le_drew ?_ | refine le_drewN ?_ | refine below_step (by assumption) ?_ ?_ | refine le_below (by assumption) ?_) | (dsimp only; omega)))⟩
      case measure =>
        have hkk := hnn.out
        first | (simp [intOf]; done) | (simp [intOf]; omega)
    · have hk' : n = s := by omega
      have hlt' : ¬ (n : Int) < (s : Int) := by omega
      subst hk'
      generalize a * 2 ^ n % 2 ^ wd = X at *
      clear hn hlt hss
      go_wp2_with fail
      go_ret
      exact retV_mk rfl HB.out
set_option maxRecDepth 100000 in
set_option maxHeartbeats 2000000 in
theorem shift_19 (a s wd half : Nat) (h1 : 1 ≤ wd) (h2 : wd ≤ 64) (hh : 2 * half = 2 ^ wd) (ha : a < 2 ^ wd) (hs : Hid (s < 64)) (w : World) :
    Calls Try.prog 40 #[.int .i64 19, .int .u64 a, .int .i64 s, .int .i64 wd] w (RetV .u64 ((a / 2 ^ s : Nat) : Int) w) := by
  have hN := pow_le64 wd h2
  have HS0 : Hid (a / 2 ^ 0 = a) := by show _ = _; rw [Nat.pow_zero, Nat.div_one]
  go_enter Try.func40, Try.ntmps40
  go_wp2_with fail
  go_loopw [1, 9] (fun x i wr => ∃ n : Nat, n ≤ s ∧ x = .int .u64 ((a / 2 ^ n : Nat) : Int) ∧ i = .int .i64 (n : Int) ∧ Hid (Below w.heap.size w wr)) (fun _ i _ => ((s : Int) - intOf i).toNat)
  case atStart => exact ⟨0, by omega, by congr 2; exact HS0.out.symm, rfl, by show Below _ _ _; exact (by repeat (first | (with_reducible first | exact Below.refl _ _ | assumption | exact Nat.le_refl _ | refine Below.drew ?_ | refine Below.alloc ?_ ?_ _ | refine below_drewN ?_ _ | refine Below.setCell ?_ ?_ _ | refine le_alloc ?_ | refine le_set ?_ | refine le_drew ?_ | refine le_drewN ?_ | refine below_step (by assumption) ?_ ?_ | refine le_below (by assumption) ?_) | (dsimp only; omega)))⟩
  case round =>
    obtain ⟨n, hn, rfl, rfl, HB⟩ := hrel
    have hss := hs.out
    by_cases hlt : n < s
    · have hlt' : (n : Int) < (s : Int) := by omega
      have hnn : Hid (n < s ∧ s < 64) := ⟨hlt, hss⟩
      have hn64 : (n : Int) < 64 := by omega
      have hx : a / 2 ^ n < 18446744073709551616 := Nat.lt_of_le_of_lt (Nat.div_le_self _ _) (Nat.lt_of_lt_of_le ha hN)
      have hst := srl_step a n
      obtain ⟨Y, hY⟩ : ∃ Y, Y = a / 2 ^ (n + 1) := ⟨_, rfl⟩
      rw [← hY] at hst
      have HY := Lib.hid hY
      generalize a / 2 ^ n = X at *
      have D1 := Lib.hid (fun w => high_c X wd hx h1 h2 w)
      have E : (X : Int) / 2 = (Y : Int) := by omega
      generalize highV wd X = hv at *
      clear hY hst hx hN hn hlt hss h1 h2 hh ha
      go_wp2_with fail
      refine (D1.out _).mono ?_; rintro e w1 ⟨rfl, hb1⟩
      go_wp2_with fail
      go_roundw
      case rel =>
        have hkk := hnn.out; have hB := HB.out
        exact ⟨n + 1, by omega, by rw [HY.out], by first | rfl | (congr 1; omega) | (congr 1; rw [IntWalk.i64_in _ (by omega)]; omega), by show Below _ _ _; exact (by repeat (first | (with_reducible first | exact Below.refl _ _ | assumption | exact Nat.le_refl _ | refine Below.drew ?_ | refine Below.alloc ?_ ?_ _ | refine below_drewN ?_ _ | refine Below.setCell ?_ ?_ _ | refine le_alloc ?_ | refine le_set ?_ | refine le_drew ?_ | refine le_drewN ?_ | refine below_step (by assumption) ?_ ?_ | refine le_below (by assumption) ?_) | (dsimp only; omega)))⟩
      case measure =>
        have hkk := hnn.out
        first | (simp [intOf]; done) | (simp [intOf]; omega)
    · have hk' : n = s := by omega
      have hlt' : ¬ (n : Int) < (s : Int) := by omega
      subst hk'
      generalize a / 2 ^ n = X at *
      clear hn hlt hss
      go_wp2_with fail
      go_ret
      exact retV_mk rfl HB.out
set_option maxRecDepth 100000 in
set_option maxHeartbeats 2000000 in
theorem shift_20 (a s wd half : Nat) (h1 : 1 ≤ wd) (h2 : wd ≤ 64) (hh : 2 * half = 2 ^ wd) (ha : a < 2 ^ wd) (hs : Hid (s < 64)) (he : half % 2 = 0) (w : World) :
    Calls Try.prog 40 #[.int .i64 20, .int .u64 a, .int .i64 s, .int .i64 wd] w (RetV .u64 ((sraV half a s : Nat) : Int) w) := by
  have hN := pow_le64 wd h2
  have h0 : 0 < half := by have := half_pow h1 hh; rw [this]; exact Nat.two_pow_pos _
  have HS0 : Hid (sraV half a 0 = a) := by show _ = _; unfold sraV; rw [Int.pow_zero, Int.ediv_one]; exact uns_sgn (by omega)
  obtain ⟨m, hm⟩ : ∃ m, wd = m + 1 := ⟨wd - 1, by omega⟩
  have hpm : half = 2 ^ m := by have := half_pow h1 hh; rw [this, hm]; simp
  have em : (wd : Int) - 1 = (m : Int) := by omega
  have hm64 : (m : Int) ≤ 64 := by omega
  have hwm : IntKind.u64.wrap ((2 : Int) ^ m) = (half : Int) := by
    rw [pow_cast, ← hpm, IntKind.wrap_u64]; omega
  go_enter Try.func40, Try.ntmps40
  go_wp2_with fail
  go_loopw [1, 9] (fun x i wr => ∃ n : Nat, n ≤ s ∧ x = .int .u64 ((sraV half a n : Nat) : Int) ∧ i = .int .i64 (n : Int) ∧ Hid (Below w.heap.size w wr)) (fun _ i _ => ((s : Int) - intOf i).toNat)
  case atStart => exact ⟨0, by omega, by congr 2; exact HS0.out.symm, rfl, by show Below _ _ _; exact (by repeat (first | (with_reducible first | exact Below.refl _ _ | assumption | exact Nat.le_refl _ | refine Below.drew ?_ | refine Below.alloc ?_ ?_ _ | refine below_drewN ?_ _ | refine Below.setCell ?_ ?_ _ | refine le_alloc ?_ | refine le_set ?_ | refine le_drew ?_ | refine le_drewN ?_ | refine below_step (by assumption) ?_ ?_ | refine le_below (by assumption) ?_) | (dsimp only; omega)))⟩
  case round =>
    obtain ⟨n, hn, rfl, rfl, HB⟩ := hrel
    have hss := hs.out
    by_cases hlt : n < s
    · have hlt' : (n : Int) < (s : Int) := by omega
      have hnn : Hid (n < s ∧ s < 64) := ⟨hlt, hss⟩
      have hn64 : (n : Int) < 64 := by omega
      obtain ⟨hst, hxl⟩ := sra_step half a n h0 he (by omega)
      have hx : sraV half a n < 18446744073709551616 := by omega
      have hhi := high_eq h1 hh (show sraV half a n < 2 ^ wd by omega)
      obtain ⟨Y, hY⟩ : ∃ Y, Y = sraV half a (n + 1) := ⟨_, rfl⟩
      rw [← hY] at hst
      have HY := Lib.hid hY
      generalize sraV half a n = X at *
      have D1 := Lib.hid (fun w => high_c X wd hx h1 h2 w)
      rw [hhi] at D1
      obtain ⟨Z, hZ⟩ : ∃ Z, Z = X / 2 := ⟨_, rfl⟩
      have E : (X : Int) / 2 = (Z : Int) := by omega
      by_cases hc : half ≤ X
      · rw [if_pos hc] at hst
        rw [decide_eq_true hc] at D1
        have E2 : IntKind.u64.wrap ((Z : Int) + (half : Int)) = (Y : Int) := by rw [IntKind.wrap_u64]; omega
        have EM := Lib.hid em
        have hm0 : 0 ≤ (m : Int) := by omega
        clear hY hst hx hN hn hlt hss h1 h2 hh ha hxl hhi hZ hc he h0 hpm hm
        go_wp2_with fail
        refine (D1.out _).mono ?_; rintro e w1 ⟨rfl, hb1⟩
        go_wp2_with fail
        go_roundw
        case rel =>
          have hkk := hnn.out; have hB := HB.out
          exact ⟨n + 1, by omega, by rw [HY.out], by first | rfl | (congr 1; omega) | (congr 1; rw [IntWalk.i64_in _ (by omega)]; omega), by show Below _ _ _; exact (by repeat (first | (with_reducible first | exact Below.refl _ _ | assumption | exact Nat.le_refl _ | refine Below.drew ?_ | refine Below.alloc ?_ ?_ _ | refine below_drewN ?_ _ | refine Below.setCell ?_ ?_ _ | refine le_alloc ?_ | refine le_set ?_ | refine le_drew ?_ | refine le_drewN ?_ | refine below_step (by assumption) ?_ ?_ | refine le_below (by assumption) ?_) | (dsimp only; omega)))⟩
        case measure =>
          have hkk := hnn.out
          first | (simp [intOf]; done) | (simp [intOf]; omega)
      · rw [if_neg hc, ← hZ] at hst
        rw [decide_eq_false hc] at D1
        subst hst
        clear hY hx hN hn hlt hss h1 h2 hh ha hxl hhi hZ hc he h0 hpm hm
        go_wp2_with fail
        refine (D1.out _).mono ?_; rintro e w1 ⟨rfl, hb1⟩
        go_wp2_with fail
        go_roundw
        case rel =>
          have hkk := hnn.out; have hB := HB.out
          exact ⟨n + 1, by omega, by rw [HY.out], by first | rfl | (congr 1; omega) | (congr 1; rw [IntWalk.i64_in _ (by omega)]; omega), by show Below _ _ _; exact (by repeat (first | (with_reducible first | exact Below.refl _ _ | assumption | exact Nat.le_refl _ | refine Below.drew ?_ | refine Below.alloc ?_ ?_ _ | refine below_drewN ?_ _ | refine Below.setCell ?_ ?_ _ | refine le_alloc ?_ | refine le_set ?_ | refine le_drew ?_ | refine le_drewN ?_ | refine below_step (by assumption) ?_ ?_ | refine le_below (by assumption) ?_) | (dsimp only; omega)))⟩
        case measure =>
          have hkk := hnn.out
          first | (simp [intOf]; done) | (simp [intOf]; omega)

    · have hk' : n = s := by omega
      have hlt' : ¬ (n : Int) < (s : Int) := by omega
      subst hk'
      generalize sraV half a n = X at *
      clear hn hlt hss
      go_wp2_with fail
      go_ret
      exact retV_mk rfl HB.out
end Go.Proofs.Ytbbgcjdflcfnjaa
