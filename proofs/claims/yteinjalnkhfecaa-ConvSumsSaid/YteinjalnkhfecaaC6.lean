/- The contract of rounding a number of 64 bits to a float. -/
import Derived.Test.YteinjalnkhfecaaC5
namespace Go.Proofs.Yteinjalnkhfecaa
open Go.ChangeShapes Go.WideShapes Go.ChangeAt Go.RowKit
set_option linter.unusedVariables false
set_option linter.unusedSimpArgs false
def RetP (r : Nat × Int) (W : World) (e : Ending) (w' : World) : Prop := e = .returned (.tuple #[.int .u64 r.1, .int .i64 r.2]) ∧ Below W.heap.size W w'
theorem retP_mk {r : Nat × Int} {a b : Int} {W w' : World} (ha : a = r.1) (hb : b = r.2) (h : Below W.heap.size W w') : RetP r W (.returned (.tuple #[.int .u64 a, .int .i64 b])) w' := ⟨by rw [ha, hb], h⟩
theorem round_0 (d : Bool) (E F : Int) (hd : Lay d E F) (rm : Int) (m : Bool) (x : Int) (w : World) :
    Calls Try.prog 55 #[.agg #[.int .i64 E, .int .i64 F], .int .i64 rm, .agg #[.bool m, .int .i64 x, .int .u64 0]] w (RetP (roundV d rm m x 0) w) := by
  have HR : Hid (roundV d rm m x 0 = (noughtV d m, 0)) := rfl
  go_enter Try.func55, Try.ntmps55
  go_wp2_with fail
  refine (nought_c d E F hd m _).mono ?_
  rintro e w1 ⟨rfl, hb1⟩
  go_wp2_with fail
  go_ret2
  exact retP_mk (by rw [HR.out]) (by rw [HR.out]) (by repeat (first | (with_reducible first | exact Below.refl _ _ | assumption | exact Nat.le_refl _ | refine Below.drew ?_ | refine Below.alloc ?_ ?_ _ | refine Below.setCell ?_ ?_ _ | refine le_alloc ?_ | refine le_set ?_ | refine le_drew ?_ | refine below_step (by assumption) ?_ ?_ | refine le_below (by assumption) ?_) | (dsimp only; omega)))
theorem val0_f (k : Nat) : (-126 + (127 - 1) : Int).toNat * 8388608 + k = k := by rw [show (-126 + (127 - 1) : Int).toNat = 0 from rfl]; omega
theorem hid0_f (k : Nat) (h : k ≤ 2 * 8388608) : Hid ((-126 + (127 - 1) : Int).toNat * 8388608 + k < 2147483648) := by show _ < _; rw [val0_f]; omega
theorem val0_t (k : Nat) : (-1022 + (1023 - 1) : Int).toNat * 4503599627370496 + k = k := by rw [show (-1022 + (1023 - 1) : Int).toNat = 0 from rfl]; omega
theorem hid0_t (k : Nat) (h : k ≤ 2 * 4503599627370496) : Hid ((-1022 + (1023 - 1) : Int).toNat * 4503599627370496 + k < 9223372036854775808) := by show _ < _; rw [val0_t]; omega
set_option maxRecDepth 100000 in
set_option maxHeartbeats 4000000 in
theorem round_f (rm : Int) (m : Bool) (x : Int) (g s mg : Nat) (hs : s ≤ 63) (L : Hid (∀ v, Calls Try.prog 94 #[.int .u64 g] v (fun q v' => q = .returned (.int .i64 (s : Nat)) ∧ v' = v))) (U : Hid (IntKind.u64.wrap ((g : Int) * 2 ^ s) = (mg : Int))) (HRF : Hid (roundV false rm m x g = roundY false rm m (x - s + 63) mg (cutK rm m mg 40) (diffV mg 40))) (RM : Hid (2 ^ 63 ≤ mg ∧ mg < 2 ^ 64)) (h0 : ((g : Int) == 0) = false) (a1 : -10000 ≤ x) (a2 : x ≤ 10000) (w : World) :
    Calls Try.prog 55 #[.agg #[.int .i64 8, .int .i64 23], .int .i64 rm, .agg #[.bool m, .int .i64 x, .int .u64 g]] w (RetP (roundV false rm m x g) w) := by
  go_enter Try.func55, Try.ntmps55
  go_wp2_with fail
  refine (L.out _).mono ?_
  rintro e w1 ⟨rfl, rfl⟩
  go_wp2_with fail
  rw [U.out]
  go_region
  go_wp2_with fail
  refine (cut_i rm m x mg _ (by have := RM.out; show _ < _; omega) (by have := RM.out; show _ ≠ _; omega) (by decide) (by decide) _).mono ?_
  rintro e w2 ⟨rfl, hb2⟩
  obtain ⟨hc2, hf2⟩ := bcell hb2; have hz2 := hb2.size; (try simp only [sz_alloc, sz_drew, sz_set] at hz2 hc2 hf2); have l2_0 : w.heap.size < w2.heap.size := (by omega); have n2_0 : ¬ w.heap.size = w2.heap.size := (by omega); have m2_0 : ¬ w2.heap.size = w.heap.size := (by omega); have k2_0 := fun o => hc2 (w.heap.size) o (by omega); have f2_0 := fun o => hf2 (w.heap.size) o (by omega); (try simp (disch := (first | rfl | omega | (simp only [sz_alloc, sz_drew, sz_set]; omega))) only [sz_alloc, sz_drew, sz_set, World.cell?_drew, World.frozen?_drew, World.cell?_alloc_at, World.cell?_alloc_past, World.frozen?_alloc_at, World.frozen?_alloc_past] at k2_0 f2_0); have l2_1 : w.heap.size + 1 < w2.heap.size := (by omega); have n2_1 : ¬ w.heap.size + 1 = w2.heap.size := (by omega); have m2_1 : ¬ w2.heap.size = w.heap.size + 1 := (by omega); have k2_1 := fun o => hc2 (w.heap.size + 1) o (by omega); have f2_1 := fun o => hf2 (w.heap.size + 1) o (by omega); (try simp (disch := (first | rfl | omega | (simp only [sz_alloc, sz_drew, sz_set]; omega))) only [sz_alloc, sz_drew, sz_set, World.cell?_drew, World.frozen?_drew, World.cell?_alloc_at, World.cell?_alloc_past, World.frozen?_alloc_at, World.frozen?_alloc_past] at k2_1 f2_1)
  clear hc2 hf2
  have HKL : Hid (cutK rm m mg 40 ≤ 16777216) := cutK_le rm m mg 40 64 RM.out.2 (by decide)
  rw [show (40 : Int).toNat = 40 from rfl]
  have o1 : -11000 ≤ x - (s : Int) + 63 := by omega
  have o2 : x - (s : Int) + 63 ≤ 11000 := by omega
  generalize cutK rm m mg 40 = k at *
  generalize diffV mg 40 = df at *
  have HBB : Hid (bias false = 127) := rfl
  have HDV : Hid ((k : Int) / 16777216 = ((k / 16777216 : Nat) : Int)) := by show _ = _; omega
  have HCV : Hid (k / 16777216 ≤ 1) := by have := HKL.out; show _ ≤ _; omega
  have HXX : Hid (roundY false rm m (x - s + 63) mg k df =
    if (127 : Int) < (x - s + 63) + ((k / 16777216 : Nat) : Int) then (beyondV false rm m, 5)
    else if (x - s + 63) < 1 - 127 then
      (noughtV false m + cutK rm m mg (40 + (1 - 127 - (x - s + 63)).toNat), if restV mg (40 + (1 - 127 - (x - s + 63)).toNat) = 0 then 0 else (if (x - s + 63) + ((k / 16777216 : Nat) : Int) < 1 - 127 then 3 else 1))
    else (noughtV false m + (((x - s + 63) + (127 - 1)).toNat * 8388608 + k), if df then 1 else 0)) := rfl
  go_wp2_with fail
  rw [HDV.out]
  generalize x - (s : Int) + 63 = T at *
  revert HCV HXX
  generalize hcv : k / 16777216 = cv
  intro HCV HXX
  have HV := Lib.hid hcv; clear hcv HDV
  have hcv1 : cv ≤ 1 := HCV.out
  rw [wrap64_nat cv (by omega)]
  (try rw [IntWalk.wrap64_in (T + (cv : Int)) ⟨by omega, by omega⟩])
  refine (most_c false _ _ (.inl ⟨rfl, rfl, rfl⟩) _).mono ?_
  rintro e w3 ⟨rfl, hb3⟩
  obtain ⟨hc3, hf3⟩ := bcell hb3; have hz3 := hb3.size; (try simp only [sz_alloc, sz_drew, sz_set] at hz3 hc3 hf3); have l3_0 : w.heap.size < w3.heap.size := (by omega); have n3_0 : ¬ w.heap.size = w3.heap.size := (by omega); have m3_0 : ¬ w3.heap.size = w.heap.size := (by omega); have k3_0 := fun o => hc3 (w.heap.size) o (by omega); have f3_0 := fun o => hf3 (w.heap.size) o (by omega); (try simp (disch := (first | rfl | omega | (simp only [sz_alloc, sz_drew, sz_set]; omega))) only [sz_alloc, sz_drew, sz_set, World.cell?_drew, World.frozen?_drew, World.cell?_alloc_at, World.cell?_alloc_past, World.frozen?_alloc_at, World.frozen?_alloc_past, hc2, hf2] at k3_0 f3_0); have l3_1 : w.heap.size + 1 < w3.heap.size := (by omega); have n3_1 : ¬ w.heap.size + 1 = w3.heap.size := (by omega); have m3_1 : ¬ w3.heap.size = w.heap.size + 1 := (by omega); have k3_1 := fun o => hc3 (w.heap.size + 1) o (by omega); have f3_1 := fun o => hf3 (w.heap.size + 1) o (by omega); (try simp (disch := (first | rfl | omega | (simp only [sz_alloc, sz_drew, sz_set]; omega))) only [sz_alloc, sz_drew, sz_set, World.cell?_drew, World.frozen?_drew, World.cell?_alloc_at, World.cell?_alloc_past, World.frozen?_alloc_at, World.frozen?_alloc_past, hc2, hf2] at k3_1 f3_1)
  clear hc3 hf3
  rw [HBB.out]
  by_cases t1 : (127 : Int) < T + cv
  · have HR : Hid (roundY false rm m T mg k df = (beyondV false rm m, 5)) := by show _ = _; rw [HXX.out, if_pos t1]
    go_wp2_with fail
    refine (beyond_c false _ _ (.inl ⟨rfl, rfl, rfl⟩) rm m _).mono ?_
    rintro e w4 ⟨rfl, hb4⟩
    go_wp2_with fail
    go_ret2
    exact retP_mk (by rw [HRF.out, HR.out]) (by rw [HRF.out, HR.out]) (by repeat (first | (with_reducible first | exact Below.refl _ _ | assumption | exact Nat.le_refl _ | refine Below.drew ?_ | refine Below.alloc ?_ ?_ _ | refine Below.setCell ?_ ?_ _ | refine le_alloc ?_ | refine le_set ?_ | refine le_drew ?_ | refine below_step (by assumption) ?_ ?_ | refine le_below (by assumption) ?_) | (dsimp only; omega)))
  · go_wp2_with fail
    refine (least_c false _ _ (.inl ⟨rfl, rfl, rfl⟩) _).mono ?_
    rintro e w4 ⟨rfl, hb4⟩
    obtain ⟨hc4, hf4⟩ := bcell hb4; have hz4 := hb4.size; (try simp only [sz_alloc, sz_drew, sz_set] at hz4 hc4 hf4); have l4_0 : w.heap.size < w4.heap.size := (by omega); have n4_0 : ¬ w.heap.size = w4.heap.size := (by omega); have m4_0 : ¬ w4.heap.size = w.heap.size := (by omega); have k4_0 := fun o => hc4 (w.heap.size) o (by omega); have f4_0 := fun o => hf4 (w.heap.size) o (by omega); (try simp (disch := (first | rfl | omega | (simp only [sz_alloc, sz_drew, sz_set]; omega))) only [sz_alloc, sz_drew, sz_set, World.cell?_drew, World.frozen?_drew, World.cell?_alloc_at, World.cell?_alloc_past, World.frozen?_alloc_at, World.frozen?_alloc_past, hc3, hc2, hf3, hf2] at k4_0 f4_0); have l4_1 : w.heap.size + 1 < w4.heap.size := (by omega); have n4_1 : ¬ w.heap.size + 1 = w4.heap.size := (by omega); have m4_1 : ¬ w4.heap.size = w.heap.size + 1 := (by omega); have k4_1 := fun o => hc4 (w.heap.size + 1) o (by omega); have f4_1 := fun o => hf4 (w.heap.size + 1) o (by omega); (try simp (disch := (first | rfl | omega | (simp only [sz_alloc, sz_drew, sz_set]; omega))) only [sz_alloc, sz_drew, sz_set, World.cell?_drew, World.frozen?_drew, World.cell?_alloc_at, World.cell?_alloc_past, World.frozen?_alloc_at, World.frozen?_alloc_past, hc3, hc2, hf3, hf2] at k4_1 f4_1)
    clear hc4 hf4
    rw [HBB.out]
    have hkl := HKL.out
    by_cases t2 : T < 1 - 127
    · have HNN : Hid ((-86 - T).toNat = 40 + (1 - 127 - T).toNat) := by show _ = _; omega
      have HK2 : Hid (cutK rm m mg (-86 - T).toNat ≤ 16777216) := by
        have h1 := cutK_le rm m mg (-86 - T).toNat (64 + (1 - 127 - T).toNat) (Nat.lt_of_lt_of_le RM.out.2 (Nat.pow_le_pow_right (by decide) (by omega))) (by omega)
        rw [show 64 + (1 - 127 - T).toNat - (-86 - T).toNat = 24 by omega] at h1
        exact h1
      have HZ : Hid (mg ≠ 0) := by have := RM.out; show _ ≠ _; omega
      have HL : Hid (mg < 18446744073709551616) := RM.out.2
      have HR0 := HXX.out
      rw [if_neg (by omega), if_pos (by omega), ← HNN.out] at HR0
      have ew1 : IntKind.i64.wrap (-86) = -86 := IntWalk.i64_in _ (by omega)
      have ew2 : IntKind.i64.wrap (-86 - T) = -86 - T := IntWalk.i64_in _ (by omega)
      have HR := Lib.hid HR0; clear HR0 hkl
      go_wp2_with fail
      refine (least_c false _ _ (.inl ⟨rfl, rfl, rfl⟩) _).mono ?_
      rintro e w5 ⟨rfl, hb5⟩
      obtain ⟨hc5, hf5⟩ := bcell hb5; have hz5 := hb5.size; (try simp only [sz_alloc, sz_drew, sz_set] at hz5 hc5 hf5); have l5_0 : w.heap.size < w5.heap.size := (by omega); have n5_0 : ¬ w.heap.size = w5.heap.size := (by omega); have m5_0 : ¬ w5.heap.size = w.heap.size := (by omega); have k5_0 := fun o => hc5 (w.heap.size) o (by omega); have f5_0 := fun o => hf5 (w.heap.size) o (by omega); (try simp (disch := (first | rfl | omega | (simp only [sz_alloc, sz_drew, sz_set]; omega))) only [sz_alloc, sz_drew, sz_set, World.cell?_drew, World.frozen?_drew, World.cell?_alloc_at, World.cell?_alloc_past, World.frozen?_alloc_at, World.frozen?_alloc_past, hc4, hc3, hc2, hf4, hf3, hf2] at k5_0 f5_0); have l5_1 : w.heap.size + 1 < w5.heap.size := (by omega); have n5_1 : ¬ w.heap.size + 1 = w5.heap.size := (by omega); have m5_1 : ¬ w5.heap.size = w.heap.size + 1 := (by omega); have k5_1 := fun o => hc5 (w.heap.size + 1) o (by omega); have f5_1 := fun o => hf5 (w.heap.size + 1) o (by omega); (try simp (disch := (first | rfl | omega | (simp only [sz_alloc, sz_drew, sz_set]; omega))) only [sz_alloc, sz_drew, sz_set, World.cell?_drew, World.frozen?_drew, World.cell?_alloc_at, World.cell?_alloc_past, World.frozen?_alloc_at, World.frozen?_alloc_past, hc4, hc3, hc2, hf4, hf3, hf2] at k5_1 f5_1)
      clear hc5 hf5
      rw [HBB.out]
      by_cases t3 : T + (cv : Int) < 1 - 127
      all_goals
        have HT3 := Lib.hid t3
        go_wp2_with fail
        go_region_held3 (fun w' => w'.cell? ⟨w.heap.size, 0, none⟩ = some (.int .i64 8) ∧ w'.cell? ⟨w.heap.size, 1, none⟩ = some (.int .i64 23) ∧ w'.cell? ⟨w.heap.size + 1, 0, none⟩ = some (.bool m) ∧ w'.cell? ⟨w.heap.size + 1, 1, none⟩ = some (.int .i64 x) ∧ w'.cell? ⟨w.heap.size + 1, 2, none⟩ = some (.int .u64 mg)) (all_goals (first | (go_keep; done) | (simp (disch := omega) only [cell_set_far]; simp [*])))
          (first
            | (go_at_call 85; refine (least_c false _ _ (.inl ⟨rfl, rfl, rfl⟩) _).mono ?_; rintro e w6 ⟨rfl, hb6⟩; obtain ⟨hc6, hf6⟩ := bcell hb6; have hz6 := hb6.size; (try simp only [sz_alloc, sz_drew, sz_set] at hz6 hc6 hf6); have l6_0 : w.heap.size < w6.heap.size := (by omega); have n6_0 : ¬ w.heap.size = w6.heap.size := (by omega); have m6_0 : ¬ w6.heap.size = w.heap.size := (by omega); have k6_0 := fun o => hc6 (w.heap.size) o (by omega); have f6_0 := fun o => hf6 (w.heap.size) o (by omega); (try simp (disch := (first | rfl | omega | (simp only [sz_alloc, sz_drew, sz_set]; omega))) only [sz_alloc, sz_drew, sz_set, World.cell?_drew, World.frozen?_drew, World.cell?_alloc_at, World.cell?_alloc_past, World.frozen?_alloc_at, World.frozen?_alloc_past, hc5, hc4, hc3, hc2, hf5, hf4, hf3, hf2] at k6_0 f6_0); have l6_1 : w.heap.size + 1 < w6.heap.size := (by omega); have n6_1 : ¬ w.heap.size + 1 = w6.heap.size := (by omega); have m6_1 : ¬ w6.heap.size = w.heap.size + 1 := (by omega); have k6_1 := fun o => hc6 (w.heap.size + 1) o (by omega); have f6_1 := fun o => hf6 (w.heap.size + 1) o (by omega); (try simp (disch := (first | rfl | omega | (simp only [sz_alloc, sz_drew, sz_set]; omega))) only [sz_alloc, sz_drew, sz_set, World.cell?_drew, World.frozen?_drew, World.cell?_alloc_at, World.cell?_alloc_past, World.frozen?_alloc_at, World.frozen?_alloc_past, hc5, hc4, hc3, hc2, hf5, hf4, hf3, hf2] at k6_1 f6_1); clear hc6 hf6; rw [HBB.out])
            | (go_at_call 84; refine (cut_i rm m x mg _ HL HZ (by omega) (by omega) _).mono ?_; rintro e w7 ⟨rfl, hb7⟩; obtain ⟨hc7, hf7⟩ := bcell hb7; have hz7 := hb7.size; (try simp only [sz_alloc, sz_drew, sz_set] at hz7 hc7 hf7); have l7_0 : w.heap.size < w7.heap.size := (by omega); have n7_0 : ¬ w.heap.size = w7.heap.size := (by omega); have m7_0 : ¬ w7.heap.size = w.heap.size := (by omega); have k7_0 := fun o => hc7 (w.heap.size) o (by omega); have f7_0 := fun o => hf7 (w.heap.size) o (by omega); (try simp (disch := (first | rfl | omega | (simp only [sz_alloc, sz_drew, sz_set]; omega))) only [sz_alloc, sz_drew, sz_set, World.cell?_drew, World.frozen?_drew, World.cell?_alloc_at, World.cell?_alloc_past, World.frozen?_alloc_at, World.frozen?_alloc_past, hc6, hc5, hc4, hc3, hc2, hf6, hf5, hf4, hf3, hf2] at k7_0 f7_0); have l7_1 : w.heap.size + 1 < w7.heap.size := (by omega); have n7_1 : ¬ w.heap.size + 1 = w7.heap.size := (by omega); have m7_1 : ¬ w7.heap.size = w.heap.size + 1 := (by omega); have k7_1 := fun o => hc7 (w.heap.size + 1) o (by omega); have f7_1 := fun o => hf7 (w.heap.size + 1) o (by omega); (try simp (disch := (first | rfl | omega | (simp only [sz_alloc, sz_drew, sz_set]; omega))) only [sz_alloc, sz_drew, sz_set, World.cell?_drew, World.frozen?_drew, World.cell?_alloc_at, World.cell?_alloc_past, World.frozen?_alloc_at, World.frozen?_alloc_past, hc6, hc5, hc4, hc3, hc2, hf6, hf5, hf4, hf3, hf2] at k7_1 f7_1); clear hc7 hf7))
        have HR2 : Hid (roundY false rm m T mg k df = (noughtV false m + cutK rm m mg (-86 - T).toNat, if diffV mg (-86 - T).toNat then (if T + (cv : Int) < 1 - 127 then 3 else 1) else 0)) := by
          show _ = _
          rw [HR.out]; congr 1
          by_cases hz : restV mg (-86 - T).toNat = 0
          · rw [if_pos hz, show diffV mg _ = false from decide_eq_false (by simpa using hz)]; rfl
          · rw [if_neg hz, show diffV mg _ = true from decide_eq_true hz]; rfl
        (first | rw [if_pos HT3.out] at HR2 | rw [if_neg (show ¬ (T + (cv : Int) < 1 - 127) by have := HT3.out; omega)] at HR2)
        clear ew1 ew2
        revert HK2 HR2
        clear HR
        generalize cutK rm m mg (-86 - T).toNat = k2
        generalize diffV mg (-86 - T).toNat = df2
        intro HK2 HR2
        go_wp2_with fail
        refine (least_c false _ _ (.inl ⟨rfl, rfl, rfl⟩) _).mono ?_
        rintro e w8 ⟨rfl, hb8⟩
        obtain ⟨hc8, hf8⟩ := bcell hb8; have hz8 := hb8.size; (try simp only [sz_alloc, sz_drew, sz_set] at hz8 hc8 hf8); have l8_0 : w.heap.size < w8.heap.size := (by omega); have n8_0 : ¬ w.heap.size = w8.heap.size := (by omega); have m8_0 : ¬ w8.heap.size = w.heap.size := (by omega); have k8_0 := fun o => hc8 (w.heap.size) o (by omega); have f8_0 := fun o => hf8 (w.heap.size) o (by omega); (try simp (disch := (first | rfl | omega | (simp only [sz_alloc, sz_drew, sz_set]; omega))) only [sz_alloc, sz_drew, sz_set, World.cell?_drew, World.frozen?_drew, World.cell?_alloc_at, World.cell?_alloc_past, World.frozen?_alloc_at, World.frozen?_alloc_past, hc7, hc6, hc5, hc4, hc3, hc2, hf7, hf6, hf5, hf4, hf3, hf2] at k8_0 f8_0); have l8_1 : w.heap.size + 1 < w8.heap.size := (by omega); have n8_1 : ¬ w.heap.size + 1 = w8.heap.size := (by omega); have m8_1 : ¬ w8.heap.size = w.heap.size + 1 := (by omega); have k8_1 := fun o => hc8 (w.heap.size + 1) o (by omega); have f8_1 := fun o => hf8 (w.heap.size + 1) o (by omega); (try simp (disch := (first | rfl | omega | (simp only [sz_alloc, sz_drew, sz_set]; omega))) only [sz_alloc, sz_drew, sz_set, World.cell?_drew, World.frozen?_drew, World.cell?_alloc_at, World.cell?_alloc_past, World.frozen?_alloc_at, World.frozen?_alloc_past, hc7, hc6, hc5, hc4, hc3, hc2, hf7, hf6, hf5, hf4, hf3, hf2] at k8_1 f8_1)
        clear hc8 hf8
        rw [HBB.out]
        have hk2l := HK2.out
        have hkl2 : k2 ≤ 2 * 8388608 := hk2l
        clear hk2l
        cases df2
        all_goals
          go_wp2_with fail
          refine (join_f m (-126) k2 (by decide) (by decide) hkl2 (hid0_f k2 hkl2) _).mono ?_
          rintro e w9 ⟨rfl, hb9⟩
          rw [val0_f k2]
          revert HR2
          generalize noughtV false m + k2 = v9
          intro HR2
          go_wp2_with fail
          go_ret2
          exact retP_mk (by rw [HRF.out, HR2.out] <;> rfl) (by rw [HRF.out, HR2.out] <;> (first | rfl | decide)) (by repeat (first | (with_reducible first | exact Below.refl _ _ | assumption | exact Nat.le_refl _ | refine Below.drew ?_ | refine Below.alloc ?_ ?_ _ | refine Below.setCell ?_ ?_ _ | refine le_alloc ?_ | refine le_set ?_ | refine le_drew ?_ | refine below_step (by assumption) ?_ ?_ | refine le_below (by assumption) ?_) | (dsimp only; omega)))
    · have HR0 := HXX.out
      rw [if_neg (by omega), if_neg (by omega)] at HR0
      have HJ : Hid ((T + (127 - 1)).toNat * 8388608 + k < 2147483648) := by have := HV.out; show _ < _; omega
      have hkl2 : k ≤ 2 * 8388608 := hkl
      have HR := Lib.hid HR0; clear HR0 hkl
      cases df
      all_goals
        go_wp2_with fail
        refine (join_f m T k (by omega) (by omega) hkl2 HJ _).mono ?_
        rintro e w5 ⟨rfl, hb5⟩
        revert HR
        generalize noughtV false m + ((T + (127 - 1)).toNat * 8388608 + k) = v5
        intro HR
        go_wp2_with fail
        go_ret2
        exact retP_mk (by rw [HRF.out, HR.out] <;> rfl) (by rw [HRF.out, HR.out] <;> rfl) (by repeat (first | (with_reducible first | exact Below.refl _ _ | assumption | exact Nat.le_refl _ | refine Below.drew ?_ | refine Below.alloc ?_ ?_ _ | refine Below.setCell ?_ ?_ _ | refine le_alloc ?_ | refine le_set ?_ | refine le_drew ?_ | refine below_step (by assumption) ?_ ?_ | refine le_below (by assumption) ?_) | (dsimp only; omega)))
set_option maxRecDepth 100000 in
set_option maxHeartbeats 4000000 in
theorem round_t (rm : Int) (m : Bool) (x : Int) (g s mg : Nat) (hs : s ≤ 63) (L : Hid (∀ v, Calls Try.prog 94 #[.int .u64 g] v (fun q v' => q = .returned (.int .i64 (s : Nat)) ∧ v' = v))) (U : Hid (IntKind.u64.wrap ((g : Int) * 2 ^ s) = (mg : Int))) (HRF : Hid (roundV true rm m x g = roundY true rm m (x - s + 63) mg (cutK rm m mg 11) (diffV mg 11))) (RM : Hid (2 ^ 63 ≤ mg ∧ mg < 2 ^ 64)) (h0 : ((g : Int) == 0) = false) (a1 : -10000 ≤ x) (a2 : x ≤ 10000) (w : World) :
    Calls Try.prog 55 #[.agg #[.int .i64 11, .int .i64 52], .int .i64 rm, .agg #[.bool m, .int .i64 x, .int .u64 g]] w (RetP (roundV true rm m x g) w) := by
  go_enter Try.func55, Try.ntmps55
  go_wp2_with fail
  refine (L.out _).mono ?_
  rintro e w1 ⟨rfl, rfl⟩
  go_wp2_with fail
  rw [U.out]
  go_region
  go_wp2_with fail
  refine (cut_i rm m x mg _ (by have := RM.out; show _ < _; omega) (by have := RM.out; show _ ≠ _; omega) (by decide) (by decide) _).mono ?_
  rintro e w2 ⟨rfl, hb2⟩
  obtain ⟨hc2, hf2⟩ := bcell hb2; have hz2 := hb2.size; (try simp only [sz_alloc, sz_drew, sz_set] at hz2 hc2 hf2); have l2_0 : w.heap.size < w2.heap.size := (by omega); have n2_0 : ¬ w.heap.size = w2.heap.size := (by omega); have m2_0 : ¬ w2.heap.size = w.heap.size := (by omega); have k2_0 := fun o => hc2 (w.heap.size) o (by omega); have f2_0 := fun o => hf2 (w.heap.size) o (by omega); (try simp (disch := (first | rfl | omega | (simp only [sz_alloc, sz_drew, sz_set]; omega))) only [sz_alloc, sz_drew, sz_set, World.cell?_drew, World.frozen?_drew, World.cell?_alloc_at, World.cell?_alloc_past, World.frozen?_alloc_at, World.frozen?_alloc_past] at k2_0 f2_0); have l2_1 : w.heap.size + 1 < w2.heap.size := (by omega); have n2_1 : ¬ w.heap.size + 1 = w2.heap.size := (by omega); have m2_1 : ¬ w2.heap.size = w.heap.size + 1 := (by omega); have k2_1 := fun o => hc2 (w.heap.size + 1) o (by omega); have f2_1 := fun o => hf2 (w.heap.size + 1) o (by omega); (try simp (disch := (first | rfl | omega | (simp only [sz_alloc, sz_drew, sz_set]; omega))) only [sz_alloc, sz_drew, sz_set, World.cell?_drew, World.frozen?_drew, World.cell?_alloc_at, World.cell?_alloc_past, World.frozen?_alloc_at, World.frozen?_alloc_past] at k2_1 f2_1)
  clear hc2 hf2
  have HKL : Hid (cutK rm m mg 11 ≤ 9007199254740992) := cutK_le rm m mg 11 64 RM.out.2 (by decide)
  rw [show (11 : Int).toNat = 11 from rfl]
  have o1 : -11000 ≤ x - (s : Int) + 63 := by omega
  have o2 : x - (s : Int) + 63 ≤ 11000 := by omega
  generalize cutK rm m mg 11 = k at *
  generalize diffV mg 11 = df at *
  have HBB : Hid (bias true = 1023) := rfl
  have HDV : Hid ((k : Int) / 9007199254740992 = ((k / 9007199254740992 : Nat) : Int)) := by show _ = _; omega
  have HCV : Hid (k / 9007199254740992 ≤ 1) := by have := HKL.out; show _ ≤ _; omega
  have HXX : Hid (roundY true rm m (x - s + 63) mg k df =
    if (1023 : Int) < (x - s + 63) + ((k / 9007199254740992 : Nat) : Int) then (beyondV true rm m, 5)
    else if (x - s + 63) < 1 - 1023 then
      (noughtV true m + cutK rm m mg (11 + (1 - 1023 - (x - s + 63)).toNat), if restV mg (11 + (1 - 1023 - (x - s + 63)).toNat) = 0 then 0 else (if (x - s + 63) + ((k / 9007199254740992 : Nat) : Int) < 1 - 1023 then 3 else 1))
    else (noughtV true m + (((x - s + 63) + (1023 - 1)).toNat * 4503599627370496 + k), if df then 1 else 0)) := rfl
  go_wp2_with fail
  rw [HDV.out]
  generalize x - (s : Int) + 63 = T at *
  revert HCV HXX
  generalize hcv : k / 9007199254740992 = cv
  intro HCV HXX
  have HV := Lib.hid hcv; clear hcv HDV
  have hcv1 : cv ≤ 1 := HCV.out
  rw [wrap64_nat cv (by omega)]
  (try rw [IntWalk.wrap64_in (T + (cv : Int)) ⟨by omega, by omega⟩])
  refine (most_c true _ _ (.inr ⟨rfl, rfl, rfl⟩) _).mono ?_
  rintro e w3 ⟨rfl, hb3⟩
  obtain ⟨hc3, hf3⟩ := bcell hb3; have hz3 := hb3.size; (try simp only [sz_alloc, sz_drew, sz_set] at hz3 hc3 hf3); have l3_0 : w.heap.size < w3.heap.size := (by omega); have n3_0 : ¬ w.heap.size = w3.heap.size := (by omega); have m3_0 : ¬ w3.heap.size = w.heap.size := (by omega); have k3_0 := fun o => hc3 (w.heap.size) o (by omega); have f3_0 := fun o => hf3 (w.heap.size) o (by omega); (try simp (disch := (first | rfl | omega | (simp only [sz_alloc, sz_drew, sz_set]; omega))) only [sz_alloc, sz_drew, sz_set, World.cell?_drew, World.frozen?_drew, World.cell?_alloc_at, World.cell?_alloc_past, World.frozen?_alloc_at, World.frozen?_alloc_past, hc2, hf2] at k3_0 f3_0); have l3_1 : w.heap.size + 1 < w3.heap.size := (by omega); have n3_1 : ¬ w.heap.size + 1 = w3.heap.size := (by omega); have m3_1 : ¬ w3.heap.size = w.heap.size + 1 := (by omega); have k3_1 := fun o => hc3 (w.heap.size + 1) o (by omega); have f3_1 := fun o => hf3 (w.heap.size + 1) o (by omega); (try simp (disch := (first | rfl | omega | (simp only [sz_alloc, sz_drew, sz_set]; omega))) only [sz_alloc, sz_drew, sz_set, World.cell?_drew, World.frozen?_drew, World.cell?_alloc_at, World.cell?_alloc_past, World.frozen?_alloc_at, World.frozen?_alloc_past, hc2, hf2] at k3_1 f3_1)
  clear hc3 hf3
  rw [HBB.out]
  by_cases t1 : (1023 : Int) < T + cv
  · have HR : Hid (roundY true rm m T mg k df = (beyondV true rm m, 5)) := by show _ = _; rw [HXX.out, if_pos t1]
    go_wp2_with fail
    refine (beyond_c true _ _ (.inr ⟨rfl, rfl, rfl⟩) rm m _).mono ?_
    rintro e w4 ⟨rfl, hb4⟩
    go_wp2_with fail
    go_ret2
    exact retP_mk (by rw [HRF.out, HR.out]) (by rw [HRF.out, HR.out]) (by repeat (first | (with_reducible first | exact Below.refl _ _ | assumption | exact Nat.le_refl _ | refine Below.drew ?_ | refine Below.alloc ?_ ?_ _ | refine Below.setCell ?_ ?_ _ | refine le_alloc ?_ | refine le_set ?_ | refine le_drew ?_ | refine below_step (by assumption) ?_ ?_ | refine le_below (by assumption) ?_) | (dsimp only; omega)))
  · go_wp2_with fail
    refine (least_c true _ _ (.inr ⟨rfl, rfl, rfl⟩) _).mono ?_
    rintro e w4 ⟨rfl, hb4⟩
    obtain ⟨hc4, hf4⟩ := bcell hb4; have hz4 := hb4.size; (try simp only [sz_alloc, sz_drew, sz_set] at hz4 hc4 hf4); have l4_0 : w.heap.size < w4.heap.size := (by omega); have n4_0 : ¬ w.heap.size = w4.heap.size := (by omega); have m4_0 : ¬ w4.heap.size = w.heap.size := (by omega); have k4_0 := fun o => hc4 (w.heap.size) o (by omega); have f4_0 := fun o => hf4 (w.heap.size) o (by omega); (try simp (disch := (first | rfl | omega | (simp only [sz_alloc, sz_drew, sz_set]; omega))) only [sz_alloc, sz_drew, sz_set, World.cell?_drew, World.frozen?_drew, World.cell?_alloc_at, World.cell?_alloc_past, World.frozen?_alloc_at, World.frozen?_alloc_past, hc3, hc2, hf3, hf2] at k4_0 f4_0); have l4_1 : w.heap.size + 1 < w4.heap.size := (by omega); have n4_1 : ¬ w.heap.size + 1 = w4.heap.size := (by omega); have m4_1 : ¬ w4.heap.size = w.heap.size + 1 := (by omega); have k4_1 := fun o => hc4 (w.heap.size + 1) o (by omega); have f4_1 := fun o => hf4 (w.heap.size + 1) o (by omega); (try simp (disch := (first | rfl | omega | (simp only [sz_alloc, sz_drew, sz_set]; omega))) only [sz_alloc, sz_drew, sz_set, World.cell?_drew, World.frozen?_drew, World.cell?_alloc_at, World.cell?_alloc_past, World.frozen?_alloc_at, World.frozen?_alloc_past, hc3, hc2, hf3, hf2] at k4_1 f4_1)
    clear hc4 hf4
    rw [HBB.out]
    have hkl := HKL.out
    by_cases t2 : T < 1 - 1023
    · have HNN : Hid ((-1011 - T).toNat = 11 + (1 - 1023 - T).toNat) := by show _ = _; omega
      have HK2 : Hid (cutK rm m mg (-1011 - T).toNat ≤ 9007199254740992) := by
        have h1 := cutK_le rm m mg (-1011 - T).toNat (64 + (1 - 1023 - T).toNat) (Nat.lt_of_lt_of_le RM.out.2 (Nat.pow_le_pow_right (by decide) (by omega))) (by omega)
        rw [show 64 + (1 - 1023 - T).toNat - (-1011 - T).toNat = 53 by omega] at h1
        exact h1
      have HZ : Hid (mg ≠ 0) := by have := RM.out; show _ ≠ _; omega
      have HL : Hid (mg < 18446744073709551616) := RM.out.2
      have HR0 := HXX.out
      rw [if_neg (by omega), if_pos (by omega), ← HNN.out] at HR0
      have ew1 : IntKind.i64.wrap (-1011) = -1011 := IntWalk.i64_in _ (by omega)
      have ew2 : IntKind.i64.wrap (-1011 - T) = -1011 - T := IntWalk.i64_in _ (by omega)
      have HR := Lib.hid HR0; clear HR0 hkl
      go_wp2_with fail
      refine (least_c true _ _ (.inr ⟨rfl, rfl, rfl⟩) _).mono ?_
      rintro e w5 ⟨rfl, hb5⟩
      obtain ⟨hc5, hf5⟩ := bcell hb5; have hz5 := hb5.size; (try simp only [sz_alloc, sz_drew, sz_set] at hz5 hc5 hf5); have l5_0 : w.heap.size < w5.heap.size := (by omega); have n5_0 : ¬ w.heap.size = w5.heap.size := (by omega); have m5_0 : ¬ w5.heap.size = w.heap.size := (by omega); have k5_0 := fun o => hc5 (w.heap.size) o (by omega); have f5_0 := fun o => hf5 (w.heap.size) o (by omega); (try simp (disch := (first | rfl | omega | (simp only [sz_alloc, sz_drew, sz_set]; omega))) only [sz_alloc, sz_drew, sz_set, World.cell?_drew, World.frozen?_drew, World.cell?_alloc_at, World.cell?_alloc_past, World.frozen?_alloc_at, World.frozen?_alloc_past, hc4, hc3, hc2, hf4, hf3, hf2] at k5_0 f5_0); have l5_1 : w.heap.size + 1 < w5.heap.size := (by omega); have n5_1 : ¬ w.heap.size + 1 = w5.heap.size := (by omega); have m5_1 : ¬ w5.heap.size = w.heap.size + 1 := (by omega); have k5_1 := fun o => hc5 (w.heap.size + 1) o (by omega); have f5_1 := fun o => hf5 (w.heap.size + 1) o (by omega); (try simp (disch := (first | rfl | omega | (simp only [sz_alloc, sz_drew, sz_set]; omega))) only [sz_alloc, sz_drew, sz_set, World.cell?_drew, World.frozen?_drew, World.cell?_alloc_at, World.cell?_alloc_past, World.frozen?_alloc_at, World.frozen?_alloc_past, hc4, hc3, hc2, hf4, hf3, hf2] at k5_1 f5_1)
      clear hc5 hf5
      rw [HBB.out]
      by_cases t3 : T + (cv : Int) < 1 - 1023
      all_goals
        have HT3 := Lib.hid t3
        go_wp2_with fail
        go_region_held3 (fun w' => w'.cell? ⟨w.heap.size, 0, none⟩ = some (.int .i64 11) ∧ w'.cell? ⟨w.heap.size, 1, none⟩ = some (.int .i64 52) ∧ w'.cell? ⟨w.heap.size + 1, 0, none⟩ = some (.bool m) ∧ w'.cell? ⟨w.heap.size + 1, 1, none⟩ = some (.int .i64 x) ∧ w'.cell? ⟨w.heap.size + 1, 2, none⟩ = some (.int .u64 mg)) (all_goals (first | (go_keep; done) | (simp (disch := omega) only [cell_set_far]; simp [*])))
          (first
            | (go_at_call 85; refine (least_c true _ _ (.inr ⟨rfl, rfl, rfl⟩) _).mono ?_; rintro e w6 ⟨rfl, hb6⟩; obtain ⟨hc6, hf6⟩ := bcell hb6; have hz6 := hb6.size; (try simp only [sz_alloc, sz_drew, sz_set] at hz6 hc6 hf6); have l6_0 : w.heap.size < w6.heap.size := (by omega); have n6_0 : ¬ w.heap.size = w6.heap.size := (by omega); have m6_0 : ¬ w6.heap.size = w.heap.size := (by omega); have k6_0 := fun o => hc6 (w.heap.size) o (by omega); have f6_0 := fun o => hf6 (w.heap.size) o (by omega); (try simp (disch := (first | rfl | omega | (simp only [sz_alloc, sz_drew, sz_set]; omega))) only [sz_alloc, sz_drew, sz_set, World.cell?_drew, World.frozen?_drew, World.cell?_alloc_at, World.cell?_alloc_past, World.frozen?_alloc_at, World.frozen?_alloc_past, hc5, hc4, hc3, hc2, hf5, hf4, hf3, hf2] at k6_0 f6_0); have l6_1 : w.heap.size + 1 < w6.heap.size := (by omega); have n6_1 : ¬ w.heap.size + 1 = w6.heap.size := (by omega); have m6_1 : ¬ w6.heap.size = w.heap.size + 1 := (by omega); have k6_1 := fun o => hc6 (w.heap.size + 1) o (by omega); have f6_1 := fun o => hf6 (w.heap.size + 1) o (by omega); (try simp (disch := (first | rfl | omega | (simp only [sz_alloc, sz_drew, sz_set]; omega))) only [sz_alloc, sz_drew, sz_set, World.cell?_drew, World.frozen?_drew, World.cell?_alloc_at, World.cell?_alloc_past, World.frozen?_alloc_at, World.frozen?_alloc_past, hc5, hc4, hc3, hc2, hf5, hf4, hf3, hf2] at k6_1 f6_1); clear hc6 hf6; rw [HBB.out])
            | (go_at_call 84; refine (cut_i rm m x mg _ HL HZ (by omega) (by omega) _).mono ?_; rintro e w7 ⟨rfl, hb7⟩; obtain ⟨hc7, hf7⟩ := bcell hb7; have hz7 := hb7.size; (try simp only [sz_alloc, sz_drew, sz_set] at hz7 hc7 hf7); have l7_0 : w.heap.size < w7.heap.size := (by omega); have n7_0 : ¬ w.heap.size = w7.heap.size := (by omega); have m7_0 : ¬ w7.heap.size = w.heap.size := (by omega); have k7_0 := fun o => hc7 (w.heap.size) o (by omega); have f7_0 := fun o => hf7 (w.heap.size) o (by omega); (try simp (disch := (first | rfl | omega | (simp only [sz_alloc, sz_drew, sz_set]; omega))) only [sz_alloc, sz_drew, sz_set, World.cell?_drew, World.frozen?_drew, World.cell?_alloc_at, World.cell?_alloc_past, World.frozen?_alloc_at, World.frozen?_alloc_past, hc6, hc5, hc4, hc3, hc2, hf6, hf5, hf4, hf3, hf2] at k7_0 f7_0); have l7_1 : w.heap.size + 1 < w7.heap.size := (by omega); have n7_1 : ¬ w.heap.size + 1 = w7.heap.size := (by omega); have m7_1 : ¬ w7.heap.size = w.heap.size + 1 := (by omega); have k7_1 := fun o => hc7 (w.heap.size + 1) o (by omega); have f7_1 := fun o => hf7 (w.heap.size + 1) o (by omega); (try simp (disch := (first | rfl | omega | (simp only [sz_alloc, sz_drew, sz_set]; omega))) only [sz_alloc, sz_drew, sz_set, World.cell?_drew, World.frozen?_drew, World.cell?_alloc_at, World.cell?_alloc_past, World.frozen?_alloc_at, World.frozen?_alloc_past, hc6, hc5, hc4, hc3, hc2, hf6, hf5, hf4, hf3, hf2] at k7_1 f7_1); clear hc7 hf7))
        have HR2 : Hid (roundY true rm m T mg k df = (noughtV true m + cutK rm m mg (-1011 - T).toNat, if diffV mg (-1011 - T).toNat then (if T + (cv : Int) < 1 - 1023 then 3 else 1) else 0)) := by
          show _ = _
          rw [HR.out]; congr 1
          by_cases hz : restV mg (-1011 - T).toNat = 0
          · rw [if_pos hz, show diffV mg _ = false from decide_eq_false (by simpa using hz)]; rfl
          · rw [if_neg hz, show diffV mg _ = true from decide_eq_true hz]; rfl
        (first | rw [if_pos HT3.out] at HR2 | rw [if_neg (show ¬ (T + (cv : Int) < 1 - 1023) by have := HT3.out; omega)] at HR2)
        clear ew1 ew2
        revert HK2 HR2
        clear HR
        generalize cutK rm m mg (-1011 - T).toNat = k2
        generalize diffV mg (-1011 - T).toNat = df2
        intro HK2 HR2
        go_wp2_with fail
        refine (least_c true _ _ (.inr ⟨rfl, rfl, rfl⟩) _).mono ?_
        rintro e w8 ⟨rfl, hb8⟩
        obtain ⟨hc8, hf8⟩ := bcell hb8; have hz8 := hb8.size; (try simp only [sz_alloc, sz_drew, sz_set] at hz8 hc8 hf8); have l8_0 : w.heap.size < w8.heap.size := (by omega); have n8_0 : ¬ w.heap.size = w8.heap.size := (by omega); have m8_0 : ¬ w8.heap.size = w.heap.size := (by omega); have k8_0 := fun o => hc8 (w.heap.size) o (by omega); have f8_0 := fun o => hf8 (w.heap.size) o (by omega); (try simp (disch := (first | rfl | omega | (simp only [sz_alloc, sz_drew, sz_set]; omega))) only [sz_alloc, sz_drew, sz_set, World.cell?_drew, World.frozen?_drew, World.cell?_alloc_at, World.cell?_alloc_past, World.frozen?_alloc_at, World.frozen?_alloc_past, hc7, hc6, hc5, hc4, hc3, hc2, hf7, hf6, hf5, hf4, hf3, hf2] at k8_0 f8_0); have l8_1 : w.heap.size + 1 < w8.heap.size := (by omega); have n8_1 : ¬ w.heap.size + 1 = w8.heap.size := (by omega); have m8_1 : ¬ w8.heap.size = w.heap.size + 1 := (by omega); have k8_1 := fun o => hc8 (w.heap.size + 1) o (by omega); have f8_1 := fun o => hf8 (w.heap.size + 1) o (by omega); (try simp (disch := (first | rfl | omega | (simp only [sz_alloc, sz_drew, sz_set]; omega))) only [sz_alloc, sz_drew, sz_set, World.cell?_drew, World.frozen?_drew, World.cell?_alloc_at, World.cell?_alloc_past, World.frozen?_alloc_at, World.frozen?_alloc_past, hc7, hc6, hc5, hc4, hc3, hc2, hf7, hf6, hf5, hf4, hf3, hf2] at k8_1 f8_1)
        clear hc8 hf8
        rw [HBB.out]
        have hk2l := HK2.out
        have hkl2 : k2 ≤ 2 * 4503599627370496 := hk2l
        clear hk2l
        cases df2
        all_goals
          go_wp2_with fail
          refine (join_t m (-1022) k2 (by decide) (by decide) hkl2 (hid0_t k2 hkl2) _).mono ?_
          rintro e w9 ⟨rfl, hb9⟩
          rw [val0_t k2]
          revert HR2
          generalize noughtV true m + k2 = v9
          intro HR2
          go_wp2_with fail
          go_ret2
          exact retP_mk (by rw [HRF.out, HR2.out] <;> rfl) (by rw [HRF.out, HR2.out] <;> (first | rfl | decide)) (by repeat (first | (with_reducible first | exact Below.refl _ _ | assumption | exact Nat.le_refl _ | refine Below.drew ?_ | refine Below.alloc ?_ ?_ _ | refine Below.setCell ?_ ?_ _ | refine le_alloc ?_ | refine le_set ?_ | refine le_drew ?_ | refine below_step (by assumption) ?_ ?_ | refine le_below (by assumption) ?_) | (dsimp only; omega)))
    · have HR0 := HXX.out
      rw [if_neg (by omega), if_neg (by omega)] at HR0
      have HJ : Hid ((T + (1023 - 1)).toNat * 4503599627370496 + k < 9223372036854775808) := by have := HV.out; show _ < _; omega
      have hkl2 : k ≤ 2 * 4503599627370496 := hkl
      have HR := Lib.hid HR0; clear HR0 hkl
      cases df
      all_goals
        go_wp2_with fail
        refine (join_t m T k (by omega) (by omega) hkl2 HJ _).mono ?_
        rintro e w5 ⟨rfl, hb5⟩
        revert HR
        generalize noughtV true m + ((T + (1023 - 1)).toNat * 4503599627370496 + k) = v5
        intro HR
        go_wp2_with fail
        go_ret2
        exact retP_mk (by rw [HRF.out, HR.out] <;> rfl) (by rw [HRF.out, HR.out] <;> rfl) (by repeat (first | (with_reducible first | exact Below.refl _ _ | assumption | exact Nat.le_refl _ | refine Below.drew ?_ | refine Below.alloc ?_ ?_ _ | refine Below.setCell ?_ ?_ _ | refine le_alloc ?_ | refine le_set ?_ | refine le_drew ?_ | refine below_step (by assumption) ?_ ?_ | refine le_below (by assumption) ?_) | (dsimp only; omega)))
end Go.Proofs.Yteinjalnkhfecaa
