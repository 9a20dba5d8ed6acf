/- The contracts of quotients. -/
import Derived.Test.YthjdeopfbjmmeaaD4
import Derived.Test.YthjdeopfbjmmeaaE1
namespace Go.Proofs.Ythjdeopfbjmmeaa
open Go.ChangeShapes Go.WideShapes Go.ChangeAt Go.RowKit
set_option linter.unusedVariables false
set_option linter.unusedSimpArgs false
def stickyN (x : Nat) (b : Bool) : Nat := if b then x / 2 * 2 + 1 else x
/-- The quotient of two numbers, as the code has it. -/
def quotN (M N : Num) : Num :=
  ⟨1, M.minus != N.minus, (raisedN M 126).exp - (raisedN N 63).exp - 1,
    stickyN (shl ((raisedN M 126).mag / (raisedN N 63).mag) 1) ((raisedN M 126).mag % (raisedN N 63).mag != 0)⟩
theorem quot_pre {h1 l1 h2 l2 X Y : Nat} (H1 : IsW h1 l1 X) (H2 : IsW h2 l2 Y) (R1 : 2 ^ 126 ≤ X ∧ X < 2 ^ (126 + 1)) (R2 : 2 ^ 63 ≤ Y ∧ Y < 2 ^ (63 + 1)) :
    (9223372036854775808 ≤ l2 ∧ l2 < 18446744073709551616) ∧ h1 < l2 ∧ l1 < 18446744073709551616 ∧ divQ h1 l1 l2 = X / Y ∧ divR h1 l1 l2 = X % Y := by
  have e : l2 = Y := H2.low R2.2
  obtain ⟨a, b, rfl⟩ := H1
  subst e
  refine ⟨⟨R2.1, R2.2⟩, by omega, b, rfl, rfl⟩
theorem Div64_c (h l y : Nat) (hy : Hid (9223372036854775808 ≤ y ∧ y < 18446744073709551616)) (hh : h < y) (hl : Hid (l < 18446744073709551616)) (w : World) :
    Calls Try.prog 82 #[.int .u64 h, .int .u64 l, .int .u64 y] w (RetD (divQ h l y) (divR h l y) w) := by
  by_cases h0 : h = 0
  · subst h0; exact Div64_0 l y hy hl w
  · exact Div64_1 h l y hy hh hl (by omega) w
set_option maxRecDepth 100000 in
set_option maxHeartbeats 4000000 in
theorem quotient_c (c : Int) (m : Bool) (x : Int) (h l : Nat) (M : Num) (hM : Hid (IsN c m x h l M)) (c' : Int) (m' : Bool) (x' : Int) (h' l' : Nat) (N : Num) (hN : Hid (IsN c' m' x' h' l' N))
    (a1 : -10000 ≤ x) (a2 : x ≤ 10000) (b1 : -10000 ≤ x') (b2 : x' ≤ 10000) (z1 : Hid (M.mag ≠ 0)) (z2 : Hid (N.mag ≠ 0)) (y1 : Hid ((blen M.mag : Int) ≤ 126 + 1)) (y2 : Hid ((blen N.mag : Int) ≤ 63 + 1)) (w : World) :
    Calls Try.prog 54 #[.agg #[.int .i64 c, .bool m, .int .i64 x, .int .u64 h, .int .u64 l], .agg #[.int .i64 c', .bool m', .int .i64 x', .int .u64 h', .int .u64 l']] w (RetN (quotN M N) w) := by
  go_enter Try.func54, Try.ntmps54
  go_upto_region 1 with fail
  go_cut [] (fun wx => ∃ (c1 : Int) (m1 : Bool) (x1 : Int) (h1 l1 : Nat) (c2 : Int) (m2 : Bool) (x2 : Int) (h2 l2 : Nat), Hid (IsN c1 m1 x1 h1 l1 (raisedN M 126)) ∧ Hid (IsN c2 m2 x2 h2 l2 (raisedN N 63)) ∧
    At5 wx w.heap.size c1 m1 x1 h1 l1 ∧ At5 wx (w.heap.size + 1) c2 m2 x2 h2 l2 ∧ At5 wx (w.heap.size + 1 + 1) 0 false 0 0 0 ∧ Below w.heap.size w wx ∧ w.heap.size + 1 + 1 + 1 ≤ wx.heap.size)
  case first =>
    go_region_with (first
        | (go_at_call_of 78 (Value.int .i64 x); refine (raised_c c m x h l M 126 hM (by decide) (by decide) y1.out (by omega) (by omega) _).mono ?_; rintro e w1 ⟨c1, m1, x1, h1, l1, rfl, hI1, hb1⟩; obtain ⟨hc1, hf1⟩ := bcell hb1; have hz1 := hb1.size; (try simp only [sz_alloc, sz_drew, sz_set] at hz1 hc1 hf1); have l1_0 : w.heap.size < w1.heap.size := (by omega); have n1_0 : ¬ w.heap.size = w1.heap.size := (by omega); have m1_0 : ¬ w1.heap.size = w.heap.size := (by omega); have k1_0 := fun o => hc1 (w.heap.size) o (by omega); have f1_0 := fun o => hf1 (w.heap.size) o (by omega); (try simp (disch := (first | rfl | omega | (simp only [sz_alloc, sz_drew, sz_set]; omega))) only [sz_alloc, sz_drew, sz_set, World.cell?_drew, World.frozen?_drew, World.cell?_alloc_at, World.cell?_alloc_past, World.frozen?_alloc_at, World.frozen?_alloc_past] at k1_0 f1_0); have l1_1 : w.heap.size + 1 < w1.heap.size := (by omega); have n1_1 : ¬ w.heap.size + 1 = w1.heap.size := (by omega); have m1_1 : ¬ w1.heap.size = w.heap.size + 1 := (by omega); have k1_1 := fun o => hc1 (w.heap.size + 1) o (by omega); have f1_1 := fun o => hf1 (w.heap.size + 1) o (by omega); (try simp (disch := (first | rfl | omega | (simp only [sz_alloc, sz_drew, sz_set]; omega))) only [sz_alloc, sz_drew, sz_set, World.cell?_drew, World.frozen?_drew, World.cell?_alloc_at, World.cell?_alloc_past, World.frozen?_alloc_at, World.frozen?_alloc_past] at k1_1 f1_1); have l1_2 : w.heap.size + 1 + 1 < w1.heap.size := (by omega); have n1_2 : ¬ w.heap.size + 1 + 1 = w1.heap.size := (by omega); have m1_2 : ¬ w1.heap.size = w.heap.size + 1 + 1 := (by omega); have k1_2 := fun o => hc1 (w.heap.size + 1 + 1) o (by omega); have f1_2 := fun o => hf1 (w.heap.size + 1 + 1) o (by omega); (try simp (disch := (first | rfl | omega | (simp only [sz_alloc, sz_drew, sz_set]; omega))) only [sz_alloc, sz_drew, sz_set, World.cell?_drew, World.frozen?_drew, World.cell?_alloc_at, World.cell?_alloc_past, World.frozen?_alloc_at, World.frozen?_alloc_past] at k1_2 f1_2))
        | (go_at_call_of 78 (Value.int .i64 x'); refine (raised_c c' m' x' h' l' N 63 hN (by decide) (by decide) y2.out (by omega) (by omega) _).mono ?_; rintro e w2 ⟨c2, m2, x2, h2, l2, rfl, hI2, hb2⟩; obtain ⟨hc2, hf2⟩ := bcell hb2; have hz2 := hb2.size; (try simp only [sz_alloc, sz_drew, sz_set] at hz2 hc2 hf2); have l2_0 : w.heap.size < w2.heap.size := (by omega); have n2_0 : ¬ w.heap.size = w2.heap.size := (by omega); have m2_0 : ¬ w2.heap.size = w.heap.size := (by omega); have k2_0 := fun o => hc2 (w.heap.size) o (by omega); have f2_0 := fun o => hf2 (w.heap.size) o (by omega); (try simp (disch := (first | rfl | omega | (simp only [sz_alloc, sz_drew, sz_set]; omega))) only [sz_alloc, sz_drew, sz_set, World.cell?_drew, World.frozen?_drew, World.cell?_alloc_at, World.cell?_alloc_past, World.frozen?_alloc_at, World.frozen?_alloc_past] at k2_0 f2_0); have l2_1 : w.heap.size + 1 < w2.heap.size := (by omega); have n2_1 : ¬ w.heap.size + 1 = w2.heap.size := (by omega); have m2_1 : ¬ w2.heap.size = w.heap.size + 1 := (by omega); have k2_1 := fun o => hc2 (w.heap.size + 1) o (by omega); have f2_1 := fun o => hf2 (w.heap.size + 1) o (by omega); (try simp (disch := (first | rfl | omega | (simp only [sz_alloc, sz_drew, sz_set]; omega))) only [sz_alloc, sz_drew, sz_set, World.cell?_drew, World.frozen?_drew, World.cell?_alloc_at, World.cell?_alloc_past, World.frozen?_alloc_at, World.frozen?_alloc_past] at k2_1 f2_1); have l2_2 : w.heap.size + 1 + 1 < w2.heap.size := (by omega); have n2_2 : ¬ w.heap.size + 1 + 1 = w2.heap.size := (by omega); have m2_2 : ¬ w2.heap.size = w.heap.size + 1 + 1 := (by omega); have k2_2 := fun o => hc2 (w.heap.size + 1 + 1) o (by omega); have f2_2 := fun o => hf2 (w.heap.size + 1 + 1) o (by omega); (try simp (disch := (first | rfl | omega | (simp only [sz_alloc, sz_drew, sz_set]; omega))) only [sz_alloc, sz_drew, sz_set, World.cell?_drew, World.frozen?_drew, World.cell?_alloc_at, World.cell?_alloc_past, World.frozen?_alloc_at, World.frozen?_alloc_past] at k2_2 f2_2)))
    all_goals go_wp2_with fail
    all_goals go_meet
    all_goals refine ⟨c1, m1, x1, h1, l1, c2, m2, x2, h2, l2, hI1, hI2, ⟨?_, ?_, ?_, ?_, ?_, ?_⟩, ⟨?_, ?_, ?_, ?_, ?_, ?_⟩, ⟨?_, ?_, ?_, ?_, ?_, ?_⟩, (by repeat (first | (with_reducible first | exact Below.refl _ _ | assumption | exact Nat.le_refl _ | refine Below.drew ?_ | refine Below.alloc ?_ ?_ _ | refine Below.setCell ?_ ?_ _ | refine le_alloc ?_ | refine le_set ?_ | refine le_drew ?_ | refine below_step (by assumption) ?_ ?_ | refine le_below (by assumption) ?_) | (dsimp only; omega))), ?_⟩
    all_goals (first | (simp only [sz_set, sz_drew]; omega) | (go_simp; done) | (simp (disch := omega) [*, cell_set_far]; done))
  case rest =>
    obtain ⟨c1, m1, x1, h1, l1, c2, m2, x2, h2, l2, hI1, hI2, ⟨p0, p1, p2, p3, p4, p5⟩, ⟨q0, q1, q2, q3, q4, q5⟩, ⟨r0, r1, r2, r3, r4, r5⟩, hbc, hzc⟩ := hcut
    have R1 := Lib.hid (raised_mag z1.out (by decide : 126 ≤ 127) (by have := y1.out; omega))
    have R2 := Lib.hid (raised_mag z2.out (by decide : 63 ≤ 127) (by have := y2.out; omega))
    have Q := quot_pre hI1.out.2.2.2 hI2.out.2.2.2 R1.out.2 R2.out.2
    have B1 : Hid (x1 = (raisedN M 126).exp ∧ (raisedN M 126).exp = x - (127 - (blen M.mag : Int))) := ⟨hI1.out.2.2.1, by rw [hM.out.2.2.1]; rfl⟩
    have B2 : Hid (x2 = (raisedN N 63).exp ∧ (raisedN N 63).exp = x' - (64 - (blen N.mag : Int))) := ⟨hI2.out.2.2.1, by rw [hN.out.2.2.1]; rfl⟩
    have o1 : -11000 ≤ x1 := by have := B1.out; omega
    have o2 : x1 ≤ 11000 := by have := B1.out; have := y1.out; omega
    have o3 : -11000 ≤ x2 := by have := B2.out; omega
    have o4 : x2 ≤ 11000 := by have := B2.out; have := y2.out; omega
    have HM : Hid (m1 = M.minus ∧ m2 = N.minus) := ⟨hI1.out.2.1, hI2.out.2.1⟩
    have HY := Lib.hid Q.1; have HH := Q.2.1; have HH2 := Lib.hid Q.2.1; have HL := Lib.hid Q.2.2.1; have HD := Lib.hid Q.2.2.2.1; have HR := Lib.hid Q.2.2.2.2
    clear Q
    go_wp2_with fail
    refine (Div64_c h1 l1 l2 HY HH HL _).mono ?_
    rintro e w3 ⟨rfl, hb3⟩
    obtain ⟨hc3, hf3⟩ := bcell hb3; have hz3 := hb3.size; (try simp only [sz_alloc, sz_drew, sz_set] at hz3 hc3 hf3); have l3_0 : w.heap.size < w3.heap.size := (by omega); have n3_0 : ¬ w.heap.size = w3.heap.size := (by omega); have m3_0 : ¬ w3.heap.size = w.heap.size := (by omega); have k3_0 := fun o => hc3 (w.heap.size) o (by omega); have f3_0 := fun o => hf3 (w.heap.size) o (by omega); (try simp (disch := (first | rfl | omega | (simp only [sz_alloc, sz_drew, sz_set]; omega))) only [sz_alloc, sz_drew, sz_set, World.cell?_drew, World.frozen?_drew, World.cell?_alloc_at, World.cell?_alloc_past, World.frozen?_alloc_at, World.frozen?_alloc_past] at k3_0 f3_0); have l3_1 : w.heap.size + 1 < w3.heap.size := (by omega); have n3_1 : ¬ w.heap.size + 1 = w3.heap.size := (by omega); have m3_1 : ¬ w3.heap.size = w.heap.size + 1 := (by omega); have k3_1 := fun o => hc3 (w.heap.size + 1) o (by omega); have f3_1 := fun o => hf3 (w.heap.size + 1) o (by omega); (try simp (disch := (first | rfl | omega | (simp only [sz_alloc, sz_drew, sz_set]; omega))) only [sz_alloc, sz_drew, sz_set, World.cell?_drew, World.frozen?_drew, World.cell?_alloc_at, World.cell?_alloc_past, World.frozen?_alloc_at, World.frozen?_alloc_past] at k3_1 f3_1); have l3_2 : w.heap.size + 1 + 1 < w3.heap.size := (by omega); have n3_2 : ¬ w.heap.size + 1 + 1 = w3.heap.size := (by omega); have m3_2 : ¬ w3.heap.size = w.heap.size + 1 + 1 := (by omega); have k3_2 := fun o => hc3 (w.heap.size + 1 + 1) o (by omega); have f3_2 := fun o => hf3 (w.heap.size + 1 + 1) o (by omega); (try simp (disch := (first | rfl | omega | (simp only [sz_alloc, sz_drew, sz_set]; omega))) only [sz_alloc, sz_drew, sz_set, World.cell?_drew, World.frozen?_drew, World.cell?_alloc_at, World.cell?_alloc_past, World.frozen?_alloc_at, World.frozen?_alloc_past] at k3_2 f3_2)
    clear hc3 hf3
    generalize hQ : divQ h1 l1 l2 = q at *
    generalize hR : divR h1 l1 l2 = r at *
    have HQ := Lib.hid hQ; have HRR := Lib.hid hR; clear hQ hR HH
    go_wp2_with fail
    have hW : Hid (IsW 0 q q) := by
      rw [← HQ.out]; refine ⟨by decide, ?_, by omega⟩
      unfold divQ
      rw [Nat.div_lt_iff_lt_mul (by have := HY.out; omega)]
      have g1 := hI1.out.2.2.2; have g2 := HL.out; have g3 := HH2.out
      have := Nat.mul_le_mul_left 18446744073709551616 g3
      omega
    have g1 : IntKind.i64.wrap (x1 - x2) = x1 - x2 := IntWalk.i64_in _ (by omega)
    have g2 : IntKind.i64.wrap (x1 - x2 - 1) = x1 - x2 - 1 := IntWalk.i64_in _ (by omega)
    go_region_held3 (fun w' => w'.cell? ⟨w.heap.size, 1, none⟩ = some (.bool m1) ∧ w'.cell? ⟨w.heap.size, 2, none⟩ = some (.int .i64 x1) ∧ w'.cell? ⟨w.heap.size + 1, 1, none⟩ = some (.bool m2) ∧ w'.cell? ⟨w.heap.size + 1, 2, none⟩ = some (.int .i64 x2)) (all_goals (first | (go_keep; done) | (simp (disch := omega) only [cell_set_far]; simp [*])))
      (first
        | (go_at_call 83; refine (left_c 0 q q 1 hW (by decide) (by decide) _).mono ?_; rintro e w4 ⟨h4, l4, rfl, hI4, hb4⟩; obtain ⟨hc4, hf4⟩ := bcell hb4; have hz4 := hb4.size; (try simp only [sz_alloc, sz_drew, sz_set] at hz4 hc4 hf4); have l4_0 : w.heap.size < w4.heap.size := (by omega); have n4_0 : ¬ w.heap.size = w4.heap.size := (by omega); have m4_0 : ¬ w4.heap.size = w.heap.size := (by omega); have k4_0 := fun o => hc4 (w.heap.size) o (by omega); have f4_0 := fun o => hf4 (w.heap.size) o (by omega); (try simp (disch := (first | rfl | omega | (simp only [sz_alloc, sz_drew, sz_set]; omega))) only [sz_alloc, sz_drew, sz_set, World.cell?_drew, World.frozen?_drew, World.cell?_alloc_at, World.cell?_alloc_past, World.frozen?_alloc_at, World.frozen?_alloc_past, hc3, hf3] at k4_0 f4_0); have l4_1 : w.heap.size + 1 < w4.heap.size := (by omega); have n4_1 : ¬ w.heap.size + 1 = w4.heap.size := (by omega); have m4_1 : ¬ w4.heap.size = w.heap.size + 1 := (by omega); have k4_1 := fun o => hc4 (w.heap.size + 1) o (by omega); have f4_1 := fun o => hf4 (w.heap.size + 1) o (by omega); (try simp (disch := (first | rfl | omega | (simp only [sz_alloc, sz_drew, sz_set]; omega))) only [sz_alloc, sz_drew, sz_set, World.cell?_drew, World.frozen?_drew, World.cell?_alloc_at, World.cell?_alloc_past, World.frozen?_alloc_at, World.frozen?_alloc_past, hc3, hf3] at k4_1 f4_1); have l4_2 : w.heap.size + 1 + 1 < w4.heap.size := (by omega); have n4_2 : ¬ w.heap.size + 1 + 1 = w4.heap.size := (by omega); have m4_2 : ¬ w4.heap.size = w.heap.size + 1 + 1 := (by omega); have k4_2 := fun o => hc4 (w.heap.size + 1 + 1) o (by omega); have f4_2 := fun o => hf4 (w.heap.size + 1 + 1) o (by omega); (try simp (disch := (first | rfl | omega | (simp only [sz_alloc, sz_drew, sz_set]; omega))) only [sz_alloc, sz_drew, sz_set, World.cell?_drew, World.frozen?_drew, World.cell?_alloc_at, World.cell?_alloc_past, World.frozen?_alloc_at, World.frozen?_alloc_past, hc3, hf3] at k4_2 f4_2))
        | (go_at_call 84; refine (sticky_c h4 l4 _ _ hI4 _).mono ?_; rintro e w5 ⟨h5, l5, rfl, hI5, hb5⟩; obtain ⟨hc5, hf5⟩ := bcell hb5; have hz5 := hb5.size; (try simp only [sz_alloc, sz_drew, sz_set] at hz5 hc5 hf5); have l5_0 : w.heap.size < w5.heap.size := (by omega); have n5_0 : ¬ w.heap.size = w5.heap.size := (by omega); have m5_0 : ¬ w5.heap.size = w.heap.size := (by omega); have k5_0 := fun o => hc5 (w.heap.size) o (by omega); have f5_0 := fun o => hf5 (w.heap.size) o (by omega); (try simp (disch := (first | rfl | omega | (simp only [sz_alloc, sz_drew, sz_set]; omega))) only [sz_alloc, sz_drew, sz_set, World.cell?_drew, World.frozen?_drew, World.cell?_alloc_at, World.cell?_alloc_past, World.frozen?_alloc_at, World.frozen?_alloc_past, hc4, hc3, hf4, hf3] at k5_0 f5_0); have l5_1 : w.heap.size + 1 < w5.heap.size := (by omega); have n5_1 : ¬ w.heap.size + 1 = w5.heap.size := (by omega); have m5_1 : ¬ w5.heap.size = w.heap.size + 1 := (by omega); have k5_1 := fun o => hc5 (w.heap.size + 1) o (by omega); have f5_1 := fun o => hf5 (w.heap.size + 1) o (by omega); (try simp (disch := (first | rfl | omega | (simp only [sz_alloc, sz_drew, sz_set]; omega))) only [sz_alloc, sz_drew, sz_set, World.cell?_drew, World.frozen?_drew, World.cell?_alloc_at, World.cell?_alloc_past, World.frozen?_alloc_at, World.frozen?_alloc_past, hc4, hc3, hf4, hf3] at k5_1 f5_1); have l5_2 : w.heap.size + 1 + 1 < w5.heap.size := (by omega); have n5_2 : ¬ w.heap.size + 1 + 1 = w5.heap.size := (by omega); have m5_2 : ¬ w5.heap.size = w.heap.size + 1 + 1 := (by omega); have k5_2 := fun o => hc5 (w.heap.size + 1 + 1) o (by omega); have f5_2 := fun o => hf5 (w.heap.size + 1 + 1) o (by omega); (try simp (disch := (first | rfl | omega | (simp only [sz_alloc, sz_drew, sz_set]; omega))) only [sz_alloc, sz_drew, sz_set, World.cell?_drew, World.frozen?_drew, World.cell?_alloc_at, World.cell?_alloc_past, World.frozen?_alloc_at, World.frozen?_alloc_past, hc4, hc3, hf4, hf3] at k5_2 f5_2)))
    all_goals go_wp2_with fail
    all_goals refine bodyPost_ret (v := .agg #[.int .i64 1, .bool (!(m1 == m2)), .int .i64 (x1 - x2 - 1), .int .u64 h5, .int .u64 l5]) (by simp [results, Try.results54, go_sem, k5_2, k4_2, k3_2, r0, r1, r2, r3, r4, sz_set] <;> (first | rfl | (repeat' (first | rfl | apply And.intro)))) rfl (retN_mk ?_ rfl rfl (by repeat (first | (with_reducible first | exact Below.refl _ _ | assumption | exact Nat.le_refl _ | refine Below.drew ?_ | refine Below.alloc ?_ ?_ _ | refine Below.setCell ?_ ?_ _ | refine le_alloc ?_ | refine le_set ?_ | refine le_drew ?_ | refine below_step (by assumption) ?_ ?_ | refine le_below (by assumption) ?_) | (dsimp only; omega))))
    all_goals
      have hI := hI5.out
      have e1 : ((r : Int) != 0) = ((raisedN M 126).mag % (raisedN N 63).mag != 0) := by
        rw [← HR.out, Bool.eq_iff_iff]; simp only [bne_iff_ne, ne_eq]; omega
      rw [e1, HD.out] at hI
      refine ⟨rfl, ?_, ?_, hI⟩
      · rw [HM.out.1, HM.out.2]; rfl
      · rw [B1.out.1, B2.out.1]; rfl
end Go.Proofs.Ythjdeopfbjmmeaa
