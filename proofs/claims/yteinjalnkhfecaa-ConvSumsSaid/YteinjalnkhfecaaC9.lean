/- The contract of ToInt. -/
import Derived.Test.YteinjalnkhfecaaC8
namespace Go.Proofs.Yteinjalnkhfecaa
open Go.ChangeShapes Go.WideShapes Go.ChangeAt Go.RowKit
set_option linter.unusedVariables false
set_option linter.unusedSimpArgs false
theorem read_c (d : Bool) (E F : Int) (hd : Hid (Lay d E F)) (a : Nat) (ha : Hid (a < 18446744073709551616)) (w : World) : Calls Try.prog 44 #[.agg #[.int .i64 E, .int .i64 F], .int .u64 a] w (RetR (minusN d a) (readE d a) (readG d a) w) := by
  rcases hd.out with ⟨rfl, rfl, rfl⟩ | ⟨rfl, rfl, rfl⟩
  · exact read_f a ha w
  · exact read_t a ha w
theorem readE_b (d : Bool) (a : Nat) : Hid (-10000 ≤ readE d a ∧ readE d a ≤ 10000) := by
  cases d
  · have h : farN false a < 2147483648 := Nat.mod_lt _ (by decide)
    have e : Hid (readE false a = if farN false a / 8388608 = 0 then 1 - 127 - 23 else ((farN false a / 8388608 : Nat) : Int) - 127 - 23) := rfl
    show _ ∧ _
    rw [e.out]; split <;> omega
  · have h : farN true a < 9223372036854775808 := Nat.mod_lt _ (by decide)
    have e : Hid (readE true a = if farN true a / 4503599627370496 = 0 then 1 - 1023 - 52 else ((farN true a / 4503599627370496 : Nat) : Int) - 1023 - 52) := rfl
    show _ ∧ _
    rw [e.out]; split <;> omega
theorem readG_b (d : Bool) (a : Nat) : readG d a < 18446744073709551616 := by
  cases d
  · have e : Hid (readG false a = if farN false a / 8388608 = 0 then a % 8388608 else a % 8388608 + 8388608) := rfl
    rw [e.out]; split <;> omega
  · have e : Hid (readG true a = if farN true a / 4503599627370496 = 0 then a % 4503599627370496 else a % 4503599627370496 + 4503599627370496) := rfl
    rw [e.out]; split <;> omega
theorem wholeV_lt (rm : Int) (m : Bool) (e : Int) (g : Nat) (hg : g < 18446744073709551616) : (wholeV rm m e g).1 < 18446744073709551616 := by
  unfold wholeV
  split
  · decide
  · split
    · decide
    · split
      · next h0 h1 h2 =>
        exact lift_lt g e.toNat h0 (by omega)
      · next h0 h1 h2 =>
        obtain ⟨k, hk⟩ := Int.eq_ofNat_of_zero_le (by omega : 0 ≤ -e)
        show cutK rm m g (-e).toNat < _
        rw [hk, Int.toNat_natCast]
        have a : g / 2 ^ k ≤ g / 2 ^ 1 := Nat.div_le_div_left (Nat.pow_le_pow_right (by decide) (by omega)) (by decide)
        unfold cutK
        split <;> omega
/-- The whole number that a float is rounded to, and its flags. -/
def toIntV (d : Bool) (rm : Int) (wd u : Bool) (a : Nat) : Nat × Int :=
  let r := wholeV rm (minusN d a) (readE d a) (readG d a)
  if clsV d a = 8 ∨ clsV d a = 9 then (endV wd u false, 16)
  else if clsV d a = 7 ∨ clsV d a = 0 then (endV wd u (minusN d a), 16)
  else if r.2.2 = false ∨ farV wd u (minusN d a) < r.1 then (endV wd u (minusN d a), 16)
  else (numV wd (minusN d a) r.1, if r.2.1 then 1 else 0)
set_option maxRecDepth 100000 in
theorem ToInt_c (sz : Int) (d : Bool) (hsz : Hid (SzOk sz d)) (rm : Int) (hrm : Hid (0 ≤ rm ∧ rm ≤ 4)) (wd u : Bool) (a : Nat) (ha : Hid (a < 18446744073709551616)) (w : World) :
    Calls Try.prog 16 #[.int .i64 sz, .int .i64 rm, .bool wd, .bool u, .int .u64 a] w (RetP (toIntV d rm wd u a) w) := by
  go_enter Try.func16, Try.ntmps16
  go_wp2_with fail
  refine (layoutOf_s sz d hsz _).mono ?_; rintro e w1 ⟨E, F, rfl, hd, hb1⟩; obtain ⟨hc1, hf1⟩ := bcell hb1; have hz1 := hb1.size; (try simp only [sz_alloc, sz_drew, sz_set] at hz1 hc1 hf1)
  clear hc1 hf1
  go_wp2_with fail
  refine (mode_c rm hrm.out _).mono ?_; rintro e w2 ⟨rfl, hb2⟩; obtain ⟨hc2, hf2⟩ := bcell hb2; have hz2 := hb2.size; (try simp only [sz_alloc, sz_drew, sz_set] at hz2 hc2 hf2); have l2_0 : w1.heap.size < w2.heap.size := (by omega); have n2_0 : ¬ w1.heap.size = w2.heap.size := (by omega); have m2_0 : ¬ w2.heap.size = w1.heap.size := (by omega); have k2_0 := fun o => hc2 (w1.heap.size) o (by omega); have f2_0 := fun o => hf2 (w1.heap.size) o (by omega); (try simp (disch := (first | rfl | omega | (simp only [sz_alloc, sz_drew, sz_set]; omega))) only [sz_alloc, sz_drew, sz_set, World.cell?_drew, World.frozen?_drew, World.cell?_alloc_at, World.cell?_alloc_past, World.frozen?_alloc_at, World.frozen?_alloc_past] at k2_0 f2_0)
  clear hc2 hf2
  go_wp2_with fail
  have HT : Hid (toIntV d rm wd u a = if clsV d a = 8 ∨ clsV d a = 9 then (endV wd u false, 16) else if clsV d a = 7 ∨ clsV d a = 0 then (endV wd u (minusN d a), 16)
    else if (wholeV rm (minusN d a) (readE d a) (readG d a)).2.2 = false ∨ farV wd u (minusN d a) < (wholeV rm (minusN d a) (readE d a) (readG d a)).1 then (endV wd u (minusN d a), 16)
    else (numV wd (minusN d a) (wholeV rm (minusN d a) (readE d a) (readG d a)).1, if (wholeV rm (minusN d a) (readE d a) (readG d a)).2.1 then 1 else 0)) := rfl
  have HC := Lib.hid (fun v => class_c d E F hd a ha v)
  have HM := Lib.hid (fun v => isMinus_c d E F hd a ha v)
  have HRd := Lib.hid (fun v => read_c d E F hd a ha v)
  have HW := Lib.hid (fun v => whole_c rm (minusN d a) (readE d a) (readG d a) (readG_b d a) (readE_b d a).out.1 (readE_b d a).out.2 v)
  have HB := Lib.hid (wholeV_lt rm (minusN d a) (readE d a) (readG d a) (readG_b d a))
  generalize minusN d a = m at *
  generalize readE d a = ex at *
  generalize readG d a = g at *
  generalize clsV d a = c at *
  generalize wholeV rm m ex g = r at *
  obtain ⟨r1, r2, r3⟩ := r
  generalize toIntV d rm wd u a = out at *
  refine (HM.out _).mono ?_; rintro e w3 ⟨rfl, hb3⟩; obtain ⟨hc3, hf3⟩ := bcell hb3; have hz3 := hb3.size; (try simp only [sz_alloc, sz_drew, sz_set] at hz3 hc3 hf3); have l3_0 : w1.heap.size < w3.heap.size := (by omega); have n3_0 : ¬ w1.heap.size = w3.heap.size := (by omega); have m3_0 : ¬ w3.heap.size = w1.heap.size := (by omega); have k3_0 := fun o => hc3 (w1.heap.size) o (by omega); have f3_0 := fun o => hf3 (w1.heap.size) o (by omega); (try simp (disch := (first | rfl | omega | (simp only [sz_alloc, sz_drew, sz_set]; omega))) only [sz_alloc, sz_drew, sz_set, World.cell?_drew, World.frozen?_drew, World.cell?_alloc_at, World.cell?_alloc_past, World.frozen?_alloc_at, World.frozen?_alloc_past, hc2, hf2] at k3_0 f3_0)
  clear hc3 hf3
  go_wp2_with fail
  refine (HC.out _).mono ?_; rintro e w4 ⟨rfl, hb4⟩; obtain ⟨hc4, hf4⟩ := bcell hb4; have hz4 := hb4.size; (try simp only [sz_alloc, sz_drew, sz_set] at hz4 hc4 hf4); have l4_0 : w1.heap.size < w4.heap.size := (by omega); have n4_0 : ¬ w1.heap.size = w4.heap.size := (by omega); have m4_0 : ¬ w4.heap.size = w1.heap.size := (by omega); have k4_0 := fun o => hc4 (w1.heap.size) o (by omega); have f4_0 := fun o => hf4 (w1.heap.size) o (by omega); (try simp (disch := (first | rfl | omega | (simp only [sz_alloc, sz_drew, sz_set]; omega))) only [sz_alloc, sz_drew, sz_set, World.cell?_drew, World.frozen?_drew, World.cell?_alloc_at, World.cell?_alloc_past, World.frozen?_alloc_at, World.frozen?_alloc_past, hc3, hc2, hf3, hf2] at k4_0 f4_0); have l4_1 : w3.heap.size < w4.heap.size := (by omega); have n4_1 : ¬ w3.heap.size = w4.heap.size := (by omega); have m4_1 : ¬ w4.heap.size = w3.heap.size := (by omega); have k4_1 := fun o => hc4 (w3.heap.size) o (by omega); have f4_1 := fun o => hf4 (w3.heap.size) o (by omega); (try simp (disch := (first | rfl | omega | (simp only [sz_alloc, sz_drew, sz_set]; omega))) only [sz_alloc, sz_drew, sz_set, World.cell?_drew, World.frozen?_drew, World.cell?_alloc_at, World.cell?_alloc_past, World.frozen?_alloc_at, World.frozen?_alloc_past, hc3, hc2, hf3, hf2] at k4_1 f4_1)
  clear hc4 hf4
  by_cases c8 : c = 8
  · subst c8
    have HO : Hid (out = (endV wd u false, 16)) := by show _ = _; rw [HT.out, if_pos (by decide)]
    clear HT
    go_wp2_with fail
    refine (end_c wd u false _).mono ?_
    rintro e w5 ⟨rfl, hb5⟩
    go_wp2_with fail
    go_ret2
    exact retP_mk (by rw [HO.out]) (by rw [HO.out]) (by repeat (first | (with_reducible first | exact Below.refl _ _ | assumption | exact Nat.le_refl _ | refine Below.drew ?_ | refine Below.alloc ?_ ?_ _ | refine Below.setCell ?_ ?_ _ | refine le_alloc ?_ | refine le_set ?_ | refine le_drew ?_ | refine below_step (by assumption) ?_ ?_ | refine le_below (by assumption) ?_) | (dsimp only; omega)))
  by_cases c9 : c = 9
  · subst c9
    have HO : Hid (out = (endV wd u false, 16)) := by show _ = _; rw [HT.out, if_pos (by decide)]
    clear HT
    go_wp2_with fail
    refine (end_c wd u false _).mono ?_
    rintro e w5 ⟨rfl, hb5⟩
    go_wp2_with fail
    go_ret2
    exact retP_mk (by rw [HO.out]) (by rw [HO.out]) (by repeat (first | (with_reducible first | exact Below.refl _ _ | assumption | exact Nat.le_refl _ | refine Below.drew ?_ | refine Below.alloc ?_ ?_ _ | refine Below.setCell ?_ ?_ _ | refine le_alloc ?_ | refine le_set ?_ | refine le_drew ?_ | refine below_step (by assumption) ?_ ?_ | refine le_below (by assumption) ?_) | (dsimp only; omega)))
  by_cases c7 : c = 7
  · subst c7
    have HO : Hid (out = (endV wd u m, 16)) := by show _ = _; rw [HT.out, if_neg (by decide), if_pos (by decide)]
    clear HT
    go_wp2_with fail
    refine (end_c wd u m _).mono ?_
    rintro e w5 ⟨rfl, hb5⟩
    go_wp2_with fail
    go_ret2
    exact retP_mk (by rw [HO.out]) (by rw [HO.out]) (by repeat (first | (with_reducible first | exact Below.refl _ _ | assumption | exact Nat.le_refl _ | refine Below.drew ?_ | refine Below.alloc ?_ ?_ _ | refine Below.setCell ?_ ?_ _ | refine le_alloc ?_ | refine le_set ?_ | refine le_drew ?_ | refine below_step (by assumption) ?_ ?_ | refine le_below (by assumption) ?_) | (dsimp only; omega)))
  by_cases c0 : c = 0
  · subst c0
    have HO : Hid (out = (endV wd u m, 16)) := by show _ = _; rw [HT.out, if_neg (by decide), if_pos (by decide)]
    clear HT
    go_wp2_with fail
    refine (end_c wd u m _).mono ?_
    rintro e w5 ⟨rfl, hb5⟩
    go_wp2_with fail
    go_ret2
    exact retP_mk (by rw [HO.out]) (by rw [HO.out]) (by repeat (first | (with_reducible first | exact Below.refl _ _ | assumption | exact Nat.le_refl _ | refine Below.drew ?_ | refine Below.alloc ?_ ?_ _ | refine Below.setCell ?_ ?_ _ | refine le_alloc ?_ | refine le_set ?_ | refine le_drew ?_ | refine below_step (by assumption) ?_ ?_ | refine le_below (by assumption) ?_) | (dsimp only; omega)))
  have b8 : (c == 8) = false := beq_eq_false_iff_ne.2 c8
  have b9 : (c == 9) = false := beq_eq_false_iff_ne.2 c9
  have b7 : (c == 7) = false := beq_eq_false_iff_ne.2 c7
  have b0 : (c == 0) = false := beq_eq_false_iff_ne.2 c0
  have HO : Hid (out = if r3 = false ∨ farV wd u m < r1 then (endV wd u m, 16) else (numV wd m r1, if r2 then 1 else 0)) := by
    show _ = _; rw [HT.out, if_neg (by omega), if_neg (by omega)]
  clear HT c8 c9 c7 c0
  go_wp2_with fail
  refine (HRd.out _).mono ?_; rintro e w5 ⟨rfl, hb5⟩; obtain ⟨hc5, hf5⟩ := bcell hb5; have hz5 := hb5.size; (try simp only [sz_alloc, sz_drew, sz_set] at hz5 hc5 hf5); have l5_0 : w1.heap.size < w5.heap.size := (by omega); have n5_0 : ¬ w1.heap.size = w5.heap.size := (by omega); have m5_0 : ¬ w5.heap.size = w1.heap.size := (by omega); have k5_0 := fun o => hc5 (w1.heap.size) o (by omega); have f5_0 := fun o => hf5 (w1.heap.size) o (by omega); (try simp (disch := (first | rfl | omega | (simp only [sz_alloc, sz_drew, sz_set]; omega))) only [sz_alloc, sz_drew, sz_set, World.cell?_drew, World.frozen?_drew, World.cell?_alloc_at, World.cell?_alloc_past, World.frozen?_alloc_at, World.frozen?_alloc_past, hc4, hc3, hc2, hf4, hf3, hf2] at k5_0 f5_0); have l5_1 : w3.heap.size < w5.heap.size := (by omega); have n5_1 : ¬ w3.heap.size = w5.heap.size := (by omega); have m5_1 : ¬ w5.heap.size = w3.heap.size := (by omega); have k5_1 := fun o => hc5 (w3.heap.size) o (by omega); have f5_1 := fun o => hf5 (w3.heap.size) o (by omega); (try simp (disch := (first | rfl | omega | (simp only [sz_alloc, sz_drew, sz_set]; omega))) only [sz_alloc, sz_drew, sz_set, World.cell?_drew, World.frozen?_drew, World.cell?_alloc_at, World.cell?_alloc_past, World.frozen?_alloc_at, World.frozen?_alloc_past, hc4, hc3, hc2, hf4, hf3, hf2] at k5_1 f5_1)
  clear hc5 hf5
  go_wp2_with fail
  refine (HW.out _).mono ?_; rintro e w6 ⟨rfl, hb6⟩; obtain ⟨hc6, hf6⟩ := bcell hb6; have hz6 := hb6.size; (try simp only [sz_alloc, sz_drew, sz_set] at hz6 hc6 hf6); have l6_0 : w1.heap.size < w6.heap.size := (by omega); have n6_0 : ¬ w1.heap.size = w6.heap.size := (by omega); have m6_0 : ¬ w6.heap.size = w1.heap.size := (by omega); have k6_0 := fun o => hc6 (w1.heap.size) o (by omega); have f6_0 := fun o => hf6 (w1.heap.size) o (by omega); (try simp (disch := (first | rfl | omega | (simp only [sz_alloc, sz_drew, sz_set]; omega))) only [sz_alloc, sz_drew, sz_set, World.cell?_drew, World.frozen?_drew, World.cell?_alloc_at, World.cell?_alloc_past, World.frozen?_alloc_at, World.frozen?_alloc_past, hc5, hc4, hc3, hc2, hf5, hf4, hf3, hf2] at k6_0 f6_0); have l6_1 : w3.heap.size < w6.heap.size := (by omega); have n6_1 : ¬ w3.heap.size = w6.heap.size := (by omega); have m6_1 : ¬ w6.heap.size = w3.heap.size := (by omega); have k6_1 := fun o => hc6 (w3.heap.size) o (by omega); have f6_1 := fun o => hf6 (w3.heap.size) o (by omega); (try simp (disch := (first | rfl | omega | (simp only [sz_alloc, sz_drew, sz_set]; omega))) only [sz_alloc, sz_drew, sz_set, World.cell?_drew, World.frozen?_drew, World.cell?_alloc_at, World.cell?_alloc_past, World.frozen?_alloc_at, World.frozen?_alloc_past, hc5, hc4, hc3, hc2, hf5, hf4, hf3, hf2] at k6_1 f6_1)
  clear hc6 hf6
  cases r3
  · have HO2 : Hid (out = (endV wd u m, 16)) := by show _ = _; rw [HO.out, if_pos (.inl rfl)]
    clear HO
    have HO := HO2
    clear HO2
    go_wp2_with fail
    refine (end_c wd u m _).mono ?_
    rintro e w8 ⟨rfl, hb8⟩
    go_wp2_with fail
    go_ret2
    exact retP_mk (by rw [HO.out]) (by rw [HO.out]) (by repeat (first | (with_reducible first | exact Below.refl _ _ | assumption | exact Nat.le_refl _ | refine Below.drew ?_ | refine Below.alloc ?_ ?_ _ | refine Below.setCell ?_ ?_ _ | refine le_alloc ?_ | refine le_set ?_ | refine le_drew ?_ | refine below_step (by assumption) ?_ ?_ | refine le_below (by assumption) ?_) | (dsimp only; omega)))
  have HF := Lib.hid (fun v => farthest_c wd u m v)
  generalize farV wd u m = fv at *
  go_wp2_with fail
  refine (HF.out _).mono ?_; rintro e w7 ⟨rfl, hb7⟩; obtain ⟨hc7, hf7⟩ := bcell hb7; have hz7 := hb7.size; (try simp only [sz_alloc, sz_drew, sz_set] at hz7 hc7 hf7); have l7_0 : w1.heap.size < w7.heap.size := (by omega); have n7_0 : ¬ w1.heap.size = w7.heap.size := (by omega); have m7_0 : ¬ w7.heap.size = w1.heap.size := (by omega); have k7_0 := fun o => hc7 (w1.heap.size) o (by omega); have f7_0 := fun o => hf7 (w1.heap.size) o (by omega); (try simp (disch := (first | rfl | omega | (simp only [sz_alloc, sz_drew, sz_set]; omega))) only [sz_alloc, sz_drew, sz_set, World.cell?_drew, World.frozen?_drew, World.cell?_alloc_at, World.cell?_alloc_past, World.frozen?_alloc_at, World.frozen?_alloc_past, hc6, hc5, hc4, hc3, hc2, hf6, hf5, hf4, hf3, hf2] at k7_0 f7_0); have l7_1 : w3.heap.size < w7.heap.size := (by omega); have n7_1 : ¬ w3.heap.size = w7.heap.size := (by omega); have m7_1 : ¬ w7.heap.size = w3.heap.size := (by omega); have k7_1 := fun o => hc7 (w3.heap.size) o (by omega); have f7_1 := fun o => hf7 (w3.heap.size) o (by omega); (try simp (disch := (first | rfl | omega | (simp only [sz_alloc, sz_drew, sz_set]; omega))) only [sz_alloc, sz_drew, sz_set, World.cell?_drew, World.frozen?_drew, World.cell?_alloc_at, World.cell?_alloc_past, World.frozen?_alloc_at, World.frozen?_alloc_past, hc6, hc5, hc4, hc3, hc2, hf6, hf5, hf4, hf3, hf2] at k7_1 f7_1)
  clear hc7 hf7
  by_cases hl : (fv : Int) < (r1 : Int)
  · have HO : Hid (out = (endV wd u m, 16)) := by show _ = _; rw [HO.out, if_pos (.inr (by omega))]
    go_wp2_with fail
    refine (end_c wd u m _).mono ?_
    rintro e w8 ⟨rfl, hb8⟩
    go_wp2_with fail
    go_ret2
    exact retP_mk (by rw [HO.out]) (by rw [HO.out]) (by repeat (first | (with_reducible first | exact Below.refl _ _ | assumption | exact Nat.le_refl _ | refine Below.drew ?_ | refine Below.alloc ?_ ?_ _ | refine Below.setCell ?_ ?_ _ | refine le_alloc ?_ | refine le_set ?_ | refine le_drew ?_ | refine below_step (by assumption) ?_ ?_ | refine le_below (by assumption) ?_) | (dsimp only; omega)))
  have HO : Hid (out = (numV wd m r1, if r2 then 1 else 0)) := by show _ = _; rw [HO.out, if_neg (by simp; omega)]
  cases r2
  all_goals
    go_wp2_with fail
    refine (number_c wd u m r1 HB.out _).mono ?_
    rintro e w8 ⟨rfl, hb8⟩
    go_wp2_with fail
    go_ret2
    exact retP_mk (by rw [HO.out]) (by rw [HO.out] <;> rfl) (by repeat (first | (with_reducible first | exact Below.refl _ _ | assumption | exact Nat.le_refl _ | refine Below.drew ?_ | refine Below.alloc ?_ ?_ _ | refine Below.setCell ?_ ?_ _ | refine le_alloc ?_ | refine le_set ?_ | refine le_drew ?_ | refine below_step (by assumption) ?_ ?_ | refine le_below (by assumption) ?_) | (dsimp only; omega)))
end Go.Proofs.Yteinjalnkhfecaa
