/- The contracts of taking a float apart. -/
import Derived.Test.YteinjalnkhfecaaB4
namespace Go.Proofs.Yteinjalnkhfecaa
open Go.ChangeShapes Go.WideShapes Go.ChangeAt Go.RowKit
set_option linter.unusedVariables false
set_option linter.unusedSimpArgs false
def readE (d : Bool) (a : Nat) : Int := if farN d a / fracT d = 0 then 1 - bias d - fb d else ((farN d a / fracT d : Nat) : Int) - bias d - fb d
def readG (d : Bool) (a : Nat) : Nat := if farN d a / fracT d = 0 then a % fracT d else a % fracT d + fracT d
def RetR (m : Bool) (x : Int) (g : Nat) (W : World) (e : Ending) (w' : World) : Prop := e = .returned (.agg #[.bool m, .int .i64 x, .int .u64 g]) ∧ Below W.heap.size W w'
theorem retR_mk {m m' : Bool} {x x' : Int} {g : Nat} {g' : Int} {W w' : World} (h1 : m' = m) (h2 : x' = x) (h3 : g' = g) (h : Below W.heap.size W w') : RetR m x g W (.returned (.agg #[.bool m', .int .i64 x', .int .u64 g'])) w' := ⟨by rw [h1, h2, h3], h⟩

set_option maxHeartbeats 2000000 in
theorem read_f (a : Nat) (ha : Hid (a < 18446744073709551616)) (w : World) : Calls Try.prog 44 #[.agg #[.int .i64 8, .int .i64 23], .int .u64 a] w (RetR (minusN false a) (readE false a) (readG false a) w) := by
  have HB : Hid (bias false = 127) := rfl
  have e2 : bits .and .u64 (a : Int) 8388607 = ((a % 8388608 : Nat) : Int) := and_mask a 23 ha.out (by decide)
  have HX : Hid (farN false a < 2147483648) := Nat.mod_lt _ (by decide)
  have hE : Hid (readE false a = if farN false a / 8388608 = 0 then 1 - 127 - 23 else ((farN false a / 8388608 : Nat) : Int) - 127 - 23) := rfl
  have hG : Hid (readG false a = if farN false a / 8388608 = 0 then a % 8388608 else a % 8388608 + 8388608) := rfl
  have hrl : Hid (a % 8388608 < 8388608) := Nat.mod_lt _ (by decide)
  have e3 := or_frac (a % 8388608) 23 (by decide) hrl.out
  rw [show ((2 ^ 23 : Nat) : Int) = 8388608 by decide] at e3
  have E3 : Hid (bits .or .u64 ((a % 8388608 : Nat) : Int) 8388608 = ((a % 8388608 + 8388608 : Nat) : Int)) := e3
  have e4 : IntKind.i64.wrap ((farN false a : Int) / 8388608) = ((farN false a / 8388608 : Nat) : Int) := by
    rw [show (farN false a : Int) / 8388608 = ((farN false a / 8388608 : Nat) : Int) by omega]
    exact IntWalk.i64_in _ (by have := HX.out; omega)
  clear e3
  have e5 : IntKind.u64.wrap (IntKind.u64.wrap 8388608 - 1) = 8388607 := by decide
  go_enter Try.func44, Try.ntmps44
  go_wp2_with fail
  go_region_held3 (fun w' => w'.cell? ⟨w.heap.size, 0, none⟩ = some (.int .i64 8) ∧ w'.cell? ⟨w.heap.size, 1, none⟩ = some (.int .i64 23)) (go_keep)
    (first
      | (go_at_call 66; refine (far_f a ha _).mono ?_; rintro e w1 ⟨rfl, hb1⟩; obtain ⟨hc1, hf1⟩ := bcell hb1; have hz1 := hb1.size; (try simp only [sz_alloc, sz_drew, sz_set] at hz1 hc1 hf1); have l1_0 : w.heap.size < w1.heap.size := (by omega); have n1_0 : ¬ w.heap.size = w1.heap.size := (by omega); have m1_0 : ¬ w1.heap.size = w.heap.size := (by omega); have k1_0 := fun o => hc1 (w.heap.size) o (by omega); have f1_0 := fun o => hf1 (w.heap.size) o (by omega); (try simp (disch := (first | rfl | omega | (simp only [sz_alloc, sz_drew, sz_set]; omega))) only [sz_alloc, sz_drew, sz_set, World.cell?_drew, World.frozen?_drew, World.cell?_alloc_at, World.cell?_alloc_past, World.frozen?_alloc_at, World.frozen?_alloc_past] at k1_0 f1_0); have l1_1 : w.heap.size + 1 < w1.heap.size := (by omega); have n1_1 : ¬ w.heap.size + 1 = w1.heap.size := (by omega); have m1_1 : ¬ w1.heap.size = w.heap.size + 1 := (by omega); have k1_1 := fun o => hc1 (w.heap.size + 1) o (by omega); have f1_1 := fun o => hf1 (w.heap.size + 1) o (by omega); (try simp (disch := (first | rfl | omega | (simp only [sz_alloc, sz_drew, sz_set]; omega))) only [sz_alloc, sz_drew, sz_set, World.cell?_drew, World.frozen?_drew, World.cell?_alloc_at, World.cell?_alloc_past, World.frozen?_alloc_at, World.frozen?_alloc_past] at k1_1 f1_1)))
  rw [show ((farN false a : Nat) : Int) / 8388608 = ((farN false a / 8388608 : Nat) : Int) by omega, show (a : Int) % 8388608 = ((a % 8388608 : Nat) : Int) by omega]
  have hfl : farN false a / 8388608 < 256 := by have := HX.out; omega
  clear e4 e2 e5
  revert hfl
  generalize farN false a / 8388608 = fd at *
  generalize a % 8388608 = fr at *
  intro hfl
  by_cases h2 : fd = 0
  · have hb2 : ((fd : Int) == 0) = true := by rw [h2]; rfl
    have HR : Hid (readE false a = 1 - 127 - 23 ∧ readG false a = fr) := by show _ ∧ _; rw [hE.out, hG.out, if_pos h2, if_pos h2]; exact ⟨rfl, rfl⟩
    clear h2
    have hs : IntKind.i64.wrap (1 - 127 - 23) = 1 - 127 - 23 := by decide
    go_wp2_with fail
    go_region_held3 (fun w' => w'.cell? ⟨w.heap.size, 0, none⟩ = some (.int .i64 8) ∧ w'.cell? ⟨w.heap.size, 1, none⟩ = some (.int .i64 23)) (all_goals (first | (go_keep; done) | (simp (disch := omega) only [cell_set_far]; simp [*])))
      (first
        | (go_at_call 85; refine (least_c false _ _ (.inl ⟨rfl, rfl, rfl⟩) _).mono ?_; rintro e w2 ⟨rfl, hb2'⟩; obtain ⟨hc2, hf2⟩ := bcell hb2'; have hz2 := hb2'.size; (try simp only [sz_alloc, sz_drew, sz_set] at hz2 hc2 hf2); have l2_0 : w.heap.size < w2.heap.size := (by omega); have n2_0 : ¬ w.heap.size = w2.heap.size := (by omega); have m2_0 : ¬ w2.heap.size = w.heap.size := (by omega); have k2_0 := fun o => hc2 (w.heap.size) o (by omega); have f2_0 := fun o => hf2 (w.heap.size) o (by omega); (try simp (disch := (first | rfl | omega | (simp only [sz_alloc, sz_drew, sz_set]; omega))) only [sz_alloc, sz_drew, sz_set, World.cell?_drew, World.frozen?_drew, World.cell?_alloc_at, World.cell?_alloc_past, World.frozen?_alloc_at, World.frozen?_alloc_past, hc1, hf1] at k2_0 f2_0); have l2_1 : w.heap.size + 1 < w2.heap.size := (by omega); have n2_1 : ¬ w.heap.size + 1 = w2.heap.size := (by omega); have m2_1 : ¬ w2.heap.size = w.heap.size + 1 := (by omega); have k2_1 := fun o => hc2 (w.heap.size + 1) o (by omega); have f2_1 := fun o => hf2 (w.heap.size + 1) o (by omega); (try simp (disch := (first | rfl | omega | (simp only [sz_alloc, sz_drew, sz_set]; omega))) only [sz_alloc, sz_drew, sz_set, World.cell?_drew, World.frozen?_drew, World.cell?_alloc_at, World.cell?_alloc_past, World.frozen?_alloc_at, World.frozen?_alloc_past, hc1, hf1] at k2_1 f2_1); rw [HB.out])
        | (go_at_call 40; refine (isMinus_f a ha _).mono ?_; rintro e w3 ⟨rfl, hb3⟩; obtain ⟨hc3, hf3⟩ := bcell hb3; have hz3 := hb3.size; (try simp only [sz_alloc, sz_drew, sz_set] at hz3 hc3 hf3); have l3_0 : w.heap.size < w3.heap.size := (by omega); have n3_0 : ¬ w.heap.size = w3.heap.size := (by omega); have m3_0 : ¬ w3.heap.size = w.heap.size := (by omega); have k3_0 := fun o => hc3 (w.heap.size) o (by omega); have f3_0 := fun o => hf3 (w.heap.size) o (by omega); (try simp (disch := (first | rfl | omega | (simp only [sz_alloc, sz_drew, sz_set]; omega))) only [sz_alloc, sz_drew, sz_set, World.cell?_drew, World.frozen?_drew, World.cell?_alloc_at, World.cell?_alloc_past, World.frozen?_alloc_at, World.frozen?_alloc_past, hc1, hf1] at k3_0 f3_0); have l3_1 : w.heap.size + 1 < w3.heap.size := (by omega); have n3_1 : ¬ w.heap.size + 1 = w3.heap.size := (by omega); have m3_1 : ¬ w3.heap.size = w.heap.size + 1 := (by omega); have k3_1 := fun o => hc3 (w.heap.size + 1) o (by omega); have f3_1 := fun o => hf3 (w.heap.size + 1) o (by omega); (try simp (disch := (first | rfl | omega | (simp only [sz_alloc, sz_drew, sz_set]; omega))) only [sz_alloc, sz_drew, sz_set, World.cell?_drew, World.frozen?_drew, World.cell?_alloc_at, World.cell?_alloc_past, World.frozen?_alloc_at, World.frozen?_alloc_past, hc1, hf1] at k3_1 f3_1)))
    all_goals go_wp2_with fail
    all_goals refine bodyPost_ret (v := .agg #[.bool (minusN false a), .int .i64 (1 - 127 - 23), .int .u64 fr]) (by simp [results, Try.results44, go_sem, k2_1, k3_1, k1_1, sz_set] <;> (first | rfl | (repeat' (first | rfl | apply And.intro)))) rfl (retR_mk rfl HR.out.1.symm (by rw [HR.out.2]) (by repeat (first | (with_reducible first | exact Below.refl _ _ | assumption | exact Nat.le_refl _ | refine Below.drew ?_ | refine Below.alloc ?_ ?_ _ | refine Below.setCell ?_ ?_ _ | refine le_alloc ?_ | refine le_set ?_ | refine le_drew ?_ | refine below_step (by assumption) ?_ ?_ | refine le_below (by assumption) ?_) | (dsimp only; omega))))
  · have hb2 : ((fd : Int) == 0) = false := by rw [beq_eq_false_iff_ne]; omega
    have HR : Hid (readE false a = (fd : Int) - 127 - 23 ∧ readG false a = fr + 8388608) := by show _ ∧ _; rw [hE.out, hG.out, if_neg h2, if_neg h2]; exact ⟨rfl, rfl⟩
    clear h2
    have hs : IntKind.i64.wrap ((fd : Int) - 127) = (fd : Int) - 127 := IntWalk.i64_in _ (by omega)
    have hs2 : IntKind.i64.wrap ((fd : Int) - 127 - 23) = (fd : Int) - 127 - 23 := IntWalk.i64_in _ (by omega)
    have hs3 := E3.out
    have hs4 : IntKind.u64.wrap 8388608 = 8388608 := by decide
    go_wp2_with fail
    go_region_held3 (fun w' => w'.cell? ⟨w.heap.size, 0, none⟩ = some (.int .i64 8) ∧ w'.cell? ⟨w.heap.size, 1, none⟩ = some (.int .i64 23)) (all_goals (first | (go_keep; done) | (simp (disch := omega) only [cell_set_far]; simp [*])))
      (first
        | (go_at_call 86; refine (most_c false _ _ (.inl ⟨rfl, rfl, rfl⟩) _).mono ?_; rintro e w2 ⟨rfl, hb2'⟩; obtain ⟨hc2, hf2⟩ := bcell hb2'; have hz2 := hb2'.size; (try simp only [sz_alloc, sz_drew, sz_set] at hz2 hc2 hf2); have l2_0 : w.heap.size < w2.heap.size := (by omega); have n2_0 : ¬ w.heap.size = w2.heap.size := (by omega); have m2_0 : ¬ w2.heap.size = w.heap.size := (by omega); have k2_0 := fun o => hc2 (w.heap.size) o (by omega); have f2_0 := fun o => hf2 (w.heap.size) o (by omega); (try simp (disch := (first | rfl | omega | (simp only [sz_alloc, sz_drew, sz_set]; omega))) only [sz_alloc, sz_drew, sz_set, World.cell?_drew, World.frozen?_drew, World.cell?_alloc_at, World.cell?_alloc_past, World.frozen?_alloc_at, World.frozen?_alloc_past, hc1, hf1] at k2_0 f2_0); have l2_1 : w.heap.size + 1 < w2.heap.size := (by omega); have n2_1 : ¬ w.heap.size + 1 = w2.heap.size := (by omega); have m2_1 : ¬ w2.heap.size = w.heap.size + 1 := (by omega); have k2_1 := fun o => hc2 (w.heap.size + 1) o (by omega); have f2_1 := fun o => hf2 (w.heap.size + 1) o (by omega); (try simp (disch := (first | rfl | omega | (simp only [sz_alloc, sz_drew, sz_set]; omega))) only [sz_alloc, sz_drew, sz_set, World.cell?_drew, World.frozen?_drew, World.cell?_alloc_at, World.cell?_alloc_past, World.frozen?_alloc_at, World.frozen?_alloc_past, hc1, hf1] at k2_1 f2_1); rw [HB.out])
        | (go_at_call 40; refine (isMinus_f a ha _).mono ?_; rintro e w3 ⟨rfl, hb3⟩; obtain ⟨hc3, hf3⟩ := bcell hb3; have hz3 := hb3.size; (try simp only [sz_alloc, sz_drew, sz_set] at hz3 hc3 hf3); have l3_0 : w.heap.size < w3.heap.size := (by omega); have n3_0 : ¬ w.heap.size = w3.heap.size := (by omega); have m3_0 : ¬ w3.heap.size = w.heap.size := (by omega); have k3_0 := fun o => hc3 (w.heap.size) o (by omega); have f3_0 := fun o => hf3 (w.heap.size) o (by omega); (try simp (disch := (first | rfl | omega | (simp only [sz_alloc, sz_drew, sz_set]; omega))) only [sz_alloc, sz_drew, sz_set, World.cell?_drew, World.frozen?_drew, World.cell?_alloc_at, World.cell?_alloc_past, World.frozen?_alloc_at, World.frozen?_alloc_past, hc1, hf1] at k3_0 f3_0); have l3_1 : w.heap.size + 1 < w3.heap.size := (by omega); have n3_1 : ¬ w.heap.size + 1 = w3.heap.size := (by omega); have m3_1 : ¬ w3.heap.size = w.heap.size + 1 := (by omega); have k3_1 := fun o => hc3 (w.heap.size + 1) o (by omega); have f3_1 := fun o => hf3 (w.heap.size + 1) o (by omega); (try simp (disch := (first | rfl | omega | (simp only [sz_alloc, sz_drew, sz_set]; omega))) only [sz_alloc, sz_drew, sz_set, World.cell?_drew, World.frozen?_drew, World.cell?_alloc_at, World.cell?_alloc_past, World.frozen?_alloc_at, World.frozen?_alloc_past, hc1, hf1] at k3_1 f3_1)))
    all_goals go_wp2_with fail
    all_goals go_outline
    all_goals refine bodyPost_ret (v := .agg #[.bool (minusN false a), .int .i64 ((fd : Int) - 127 - 23), .int .u64 ((fr + 8388608 : Nat) : Int)]) (by simp [results, Try.results44, go_sem, k2_1, k3_1, k1_1, sz_set, hs, hs2, hs3, hs4] <;> (first | rfl | (repeat' (first | rfl | apply And.intro)))) rfl (retR_mk rfl HR.out.1.symm (by rw [HR.out.2]) (by repeat (first | (with_reducible first | exact Below.refl _ _ | assumption | exact Nat.le_refl _ | refine Below.drew ?_ | refine Below.alloc ?_ ?_ _ | refine Below.setCell ?_ ?_ _ | refine le_alloc ?_ | refine le_set ?_ | refine le_drew ?_ | refine below_step (by assumption) ?_ ?_ | refine le_below (by assumption) ?_) | (dsimp only; omega))))

set_option maxHeartbeats 2000000 in
theorem read_t (a : Nat) (ha : Hid (a < 18446744073709551616)) (w : World) : Calls Try.prog 44 #[.agg #[.int .i64 11, .int .i64 52], .int .u64 a] w (RetR (minusN true a) (readE true a) (readG true a) w) := by
  have HB : Hid (bias true = 1023) := rfl
  have e2 : bits .and .u64 (a : Int) 4503599627370495 = ((a % 4503599627370496 : Nat) : Int) := and_mask a 52 ha.out (by decide)
  have HX : Hid (farN true a < 9223372036854775808) := Nat.mod_lt _ (by decide)
  have hE : Hid (readE true a = if farN true a / 4503599627370496 = 0 then 1 - 1023 - 52 else ((farN true a / 4503599627370496 : Nat) : Int) - 1023 - 52) := rfl
  have hG : Hid (readG true a = if farN true a / 4503599627370496 = 0 then a % 4503599627370496 else a % 4503599627370496 + 4503599627370496) := rfl
  have hrl : Hid (a % 4503599627370496 < 4503599627370496) := Nat.mod_lt _ (by decide)
  have e3 := or_frac (a % 4503599627370496) 52 (by decide) hrl.out
  rw [show ((2 ^ 52 : Nat) : Int) = 4503599627370496 by decide] at e3
  have E3 : Hid (bits .or .u64 ((a % 4503599627370496 : Nat) : Int) 4503599627370496 = ((a % 4503599627370496 + 4503599627370496 : Nat) : Int)) := e3
  have e4 : IntKind.i64.wrap ((farN true a : Int) / 4503599627370496) = ((farN true a / 4503599627370496 : Nat) : Int) := by
    rw [show (farN true a : Int) / 4503599627370496 = ((farN true a / 4503599627370496 : Nat) : Int) by omega]
    exact IntWalk.i64_in _ (by have := HX.out; omega)
  clear e3
  have e5 : IntKind.u64.wrap (IntKind.u64.wrap 4503599627370496 - 1) = 4503599627370495 := by decide
  go_enter Try.func44, Try.ntmps44
  go_wp2_with fail
  go_region_held3 (fun w' => w'.cell? ⟨w.heap.size, 0, none⟩ = some (.int .i64 11) ∧ w'.cell? ⟨w.heap.size, 1, none⟩ = some (.int .i64 52)) (go_keep)
    (first
      | (go_at_call 66; refine (far_t a ha _).mono ?_; rintro e w1 ⟨rfl, hb1⟩; obtain ⟨hc1, hf1⟩ := bcell hb1; have hz1 := hb1.size; (try simp only [sz_alloc, sz_drew, sz_set] at hz1 hc1 hf1); have l1_0 : w.heap.size < w1.heap.size := (by omega); have n1_0 : ¬ w.heap.size = w1.heap.size := (by omega); have m1_0 : ¬ w1.heap.size = w.heap.size := (by omega); have k1_0 := fun o => hc1 (w.heap.size) o (by omega); have f1_0 := fun o => hf1 (w.heap.size) o (by omega); (try simp (disch := (first | rfl | omega | (simp only [sz_alloc, sz_drew, sz_set]; omega))) only [sz_alloc, sz_drew, sz_set, World.cell?_drew, World.frozen?_drew, World.cell?_alloc_at, World.cell?_alloc_past, World.frozen?_alloc_at, World.frozen?_alloc_past] at k1_0 f1_0); have l1_1 : w.heap.size + 1 < w1.heap.size := (by omega); have n1_1 : ¬ w.heap.size + 1 = w1.heap.size := (by omega); have m1_1 : ¬ w1.heap.size = w.heap.size + 1 := (by omega); have k1_1 := fun o => hc1 (w.heap.size + 1) o (by omega); have f1_1 := fun o => hf1 (w.heap.size + 1) o (by omega); (try simp (disch := (first | rfl | omega | (simp only [sz_alloc, sz_drew, sz_set]; omega))) only [sz_alloc, sz_drew, sz_set, World.cell?_drew, World.frozen?_drew, World.cell?_alloc_at, World.cell?_alloc_past, World.frozen?_alloc_at, World.frozen?_alloc_past] at k1_1 f1_1)))
  rw [show ((farN true a : Nat) : Int) / 4503599627370496 = ((farN true a / 4503599627370496 : Nat) : Int) by omega, show (a : Int) % 4503599627370496 = ((a % 4503599627370496 : Nat) : Int) by omega]
  have hfl : farN true a / 4503599627370496 < 2048 := by have := HX.out; omega
  clear e4 e2 e5
  revert hfl
  generalize farN true a / 4503599627370496 = fd at *
  generalize a % 4503599627370496 = fr at *
  intro hfl
  by_cases h2 : fd = 0
  · have hb2 : ((fd : Int) == 0) = true := by rw [h2]; rfl
    have HR : Hid (readE true a = 1 - 1023 - 52 ∧ readG true a = fr) := by show _ ∧ _; rw [hE.out, hG.out, if_pos h2, if_pos h2]; exact ⟨rfl, rfl⟩
    clear h2
    have hs : IntKind.i64.wrap (1 - 1023 - 52) = 1 - 1023 - 52 := by decide
    go_wp2_with fail
    go_region_held3 (fun w' => w'.cell? ⟨w.heap.size, 0, none⟩ = some (.int .i64 11) ∧ w'.cell? ⟨w.heap.size, 1, none⟩ = some (.int .i64 52)) (all_goals (first | (go_keep; done) | (simp (disch := omega) only [cell_set_far]; simp [*])))
      (first
        | (go_at_call 85; refine (least_c true _ _ (.inr ⟨rfl, rfl, rfl⟩) _).mono ?_; rintro e w2 ⟨rfl, hb2'⟩; obtain ⟨hc2, hf2⟩ := bcell hb2'; have hz2 := hb2'.size; (try simp only [sz_alloc, sz_drew, sz_set] at hz2 hc2 hf2); have l2_0 : w.heap.size < w2.heap.size := (by omega); have n2_0 : ¬ w.heap.size = w2.heap.size := (by omega); have m2_0 : ¬ w2.heap.size = w.heap.size := (by omega); have k2_0 := fun o => hc2 (w.heap.size) o (by omega); have f2_0 := fun o => hf2 (w.heap.size) o (by omega); (try simp (disch := (first | rfl | omega | (simp only [sz_alloc, sz_drew, sz_set]; omega))) only [sz_alloc, sz_drew, sz_set, World.cell?_drew, World.frozen?_drew, World.cell?_alloc_at, World.cell?_alloc_past, World.frozen?_alloc_at, World.frozen?_alloc_past, hc1, hf1] at k2_0 f2_0); have l2_1 : w.heap.size + 1 < w2.heap.size := (by omega); have n2_1 : ¬ w.heap.size + 1 = w2.heap.size := (by omega); have m2_1 : ¬ w2.heap.size = w.heap.size + 1 := (by omega); have k2_1 := fun o => hc2 (w.heap.size + 1) o (by omega); have f2_1 := fun o => hf2 (w.heap.size + 1) o (by omega); (try simp (disch := (first | rfl | omega | (simp only [sz_alloc, sz_drew, sz_set]; omega))) only [sz_alloc, sz_drew, sz_set, World.cell?_drew, World.frozen?_drew, World.cell?_alloc_at, World.cell?_alloc_past, World.frozen?_alloc_at, World.frozen?_alloc_past, hc1, hf1] at k2_1 f2_1); rw [HB.out])
        | (go_at_call 40; refine (isMinus_t a ha _).mono ?_; rintro e w3 ⟨rfl, hb3⟩; obtain ⟨hc3, hf3⟩ := bcell hb3; have hz3 := hb3.size; (try simp only [sz_alloc, sz_drew, sz_set] at hz3 hc3 hf3); have l3_0 : w.heap.size < w3.heap.size := (by omega); have n3_0 : ¬ w.heap.size = w3.heap.size := (by omega); have m3_0 : ¬ w3.heap.size = w.heap.size := (by omega); have k3_0 := fun o => hc3 (w.heap.size) o (by omega); have f3_0 := fun o => hf3 (w.heap.size) o (by omega); (try simp (disch := (first | rfl | omega | (simp only [sz_alloc, sz_drew, sz_set]; omega))) only [sz_alloc, sz_drew, sz_set, World.cell?_drew, World.frozen?_drew, World.cell?_alloc_at, World.cell?_alloc_past, World.frozen?_alloc_at, World.frozen?_alloc_past, hc1, hf1] at k3_0 f3_0); have l3_1 : w.heap.size + 1 < w3.heap.size := (by omega); have n3_1 : ¬ w.heap.size + 1 = w3.heap.size := (by omega); have m3_1 : ¬ w3.heap.size = w.heap.size + 1 := (by omega); have k3_1 := fun o => hc3 (w.heap.size + 1) o (by omega); have f3_1 := fun o => hf3 (w.heap.size + 1) o (by omega); (try simp (disch := (first | rfl | omega | (simp only [sz_alloc, sz_drew, sz_set]; omega))) only [sz_alloc, sz_drew, sz_set, World.cell?_drew, World.frozen?_drew, World.cell?_alloc_at, World.cell?_alloc_past, World.frozen?_alloc_at, World.frozen?_alloc_past, hc1, hf1] at k3_1 f3_1)))
    all_goals go_wp2_with fail
    all_goals refine bodyPost_ret (v := .agg #[.bool (minusN true a), .int .i64 (1 - 1023 - 52), .int .u64 fr]) (by simp [results, Try.results44, go_sem, k2_1, k3_1, k1_1, sz_set] <;> (first | rfl | (repeat' (first | rfl | apply And.intro)))) rfl (retR_mk rfl HR.out.1.symm (by rw [HR.out.2]) (by repeat (first | (with_reducible first | exact Below.refl _ _ | assumption | exact Nat.le_refl _ | refine Below.drew ?_ | refine Below.alloc ?_ ?_ _ | refine Below.setCell ?_ ?_ _ | refine le_alloc ?_ | refine le_set ?_ | refine le_drew ?_ | refine below_step (by assumption) ?_ ?_ | refine le_below (by assumption) ?_) | (dsimp only; omega))))
  · have hb2 : ((fd : Int) == 0) = false := by rw [beq_eq_false_iff_ne]; omega
    have HR : Hid (readE true a = (fd : Int) - 1023 - 52 ∧ readG true a = fr + 4503599627370496) := by show _ ∧ _; rw [hE.out, hG.out, if_neg h2, if_neg h2]; exact ⟨rfl, rfl⟩
    clear h2
    have hs : IntKind.i64.wrap ((fd : Int) - 1023) = (fd : Int) - 1023 := IntWalk.i64_in _ (by omega)
    have hs2 : IntKind.i64.wrap ((fd : Int) - 1023 - 52) = (fd : Int) - 1023 - 52 := IntWalk.i64_in _ (by omega)
    have hs3 := E3.out
    have hs4 : IntKind.u64.wrap 4503599627370496 = 4503599627370496 := by decide
    go_wp2_with fail
    go_region_held3 (fun w' => w'.cell? ⟨w.heap.size, 0, none⟩ = some (.int .i64 11) ∧ w'.cell? ⟨w.heap.size, 1, none⟩ = some (.int .i64 52)) (all_goals (first | (go_keep; done) | (simp (disch := omega) only [cell_set_far]; simp [*])))
      (first
        | (go_at_call 86; refine (most_c true _ _ (.inr ⟨rfl, rfl, rfl⟩) _).mono ?_; rintro e w2 ⟨rfl, hb2'⟩; obtain ⟨hc2, hf2⟩ := bcell hb2'; have hz2 := hb2'.size; (try simp only [sz_alloc, sz_drew, sz_set] at hz2 hc2 hf2); have l2_0 : w.heap.size < w2.heap.size := (by omega); have n2_0 : ¬ w.heap.size = w2.heap.size := (by omega); have m2_0 : ¬ w2.heap.size = w.heap.size := (by omega); have k2_0 := fun o => hc2 (w.heap.size) o (by omega); have f2_0 := fun o => hf2 (w.heap.size) o (by omega); (try simp (disch := (first | rfl | omega | (simp only [sz_alloc, sz_drew, sz_set]; omega))) only [sz_alloc, sz_drew, sz_set, World.cell?_drew, World.frozen?_drew, World.cell?_alloc_at, World.cell?_alloc_past, World.frozen?_alloc_at, World.frozen?_alloc_past, hc1, hf1] at k2_0 f2_0); have l2_1 : w.heap.size + 1 < w2.heap.size := (by omega); have n2_1 : ¬ w.heap.size + 1 = w2.heap.size := (by omega); have m2_1 : ¬ w2.heap.size = w.heap.size + 1 := (by omega); have k2_1 := fun o => hc2 (w.heap.size + 1) o (by omega); have f2_1 := fun o => hf2 (w.heap.size + 1) o (by omega); (try simp (disch := (first | rfl | omega | (simp only [sz_alloc, sz_drew, sz_set]; omega))) only [sz_alloc, sz_drew, sz_set, World.cell?_drew, World.frozen?_drew, World.cell?_alloc_at, World.cell?_alloc_past, World.frozen?_alloc_at, World.frozen?_alloc_past, hc1, hf1] at k2_1 f2_1); rw [HB.out])
        | (go_at_call 40; refine (isMinus_t a ha _).mono ?_; rintro e w3 ⟨rfl, hb3⟩; obtain ⟨hc3, hf3⟩ := bcell hb3; have hz3 := hb3.size; (try simp only [sz_alloc, sz_drew, sz_set] at hz3 hc3 hf3); have l3_0 : w.heap.size < w3.heap.size := (by omega); have n3_0 : ¬ w.heap.size = w3.heap.size := (by omega); have m3_0 : ¬ w3.heap.size = w.heap.size := (by omega); have k3_0 := fun o => hc3 (w.heap.size) o (by omega); have f3_0 := fun o => hf3 (w.heap.size) o (by omega); (try simp (disch := (first | rfl | omega | (simp only [sz_alloc, sz_drew, sz_set]; omega))) only [sz_alloc, sz_drew, sz_set, World.cell?_drew, World.frozen?_drew, World.cell?_alloc_at, World.cell?_alloc_past, World.frozen?_alloc_at, World.frozen?_alloc_past, hc1, hf1] at k3_0 f3_0); have l3_1 : w.heap.size + 1 < w3.heap.size := (by omega); have n3_1 : ¬ w.heap.size + 1 = w3.heap.size := (by omega); have m3_1 : ¬ w3.heap.size = w.heap.size + 1 := (by omega); have k3_1 := fun o => hc3 (w.heap.size + 1) o (by omega); have f3_1 := fun o => hf3 (w.heap.size + 1) o (by omega); (try simp (disch := (first | rfl | omega | (simp only [sz_alloc, sz_drew, sz_set]; omega))) only [sz_alloc, sz_drew, sz_set, World.cell?_drew, World.frozen?_drew, World.cell?_alloc_at, World.cell?_alloc_past, World.frozen?_alloc_at, World.frozen?_alloc_past, hc1, hf1] at k3_1 f3_1)))
    all_goals go_wp2_with fail
    all_goals go_outline
    all_goals refine bodyPost_ret (v := .agg #[.bool (minusN true a), .int .i64 ((fd : Int) - 1023 - 52), .int .u64 ((fr + 4503599627370496 : Nat) : Int)]) (by simp [results, Try.results44, go_sem, k2_1, k3_1, k1_1, sz_set, hs, hs2, hs3, hs4] <;> (first | rfl | (repeat' (first | rfl | apply And.intro)))) rfl (retR_mk rfl HR.out.1.symm (by rw [HR.out.2]) (by repeat (first | (with_reducible first | exact Below.refl _ _ | assumption | exact Nat.le_refl _ | refine Below.drew ?_ | refine Below.alloc ?_ ?_ _ | refine Below.setCell ?_ ?_ _ | refine le_alloc ?_ | refine le_set ?_ | refine le_drew ?_ | refine below_step (by assumption) ?_ ?_ | refine le_below (by assumption) ?_) | (dsimp only; omega))))
theorem join_num (s t k f K : Nat) (hK : K < 64) (hs : s = 0 ∨ s = 2 ^ K) (h : t * f + k < 2 ^ K) :
    bits .or .u64 (s : Int) (IntKind.u64.wrap (IntKind.u64.wrap ((t : Int) * (f : Int)) + (k : Int))) = ((s + (t * f + k) : Nat) : Int) := by
  have h64 : 2 ^ K < 18446744073709551616 := by rw [pow64]; exact Nat.pow_lt_pow_right (by decide) hK
  rw [← Int.natCast_mul, wrapN, Nat.mod_eq_of_lt (by omega), ← Int.natCast_add, wrapN, Nat.mod_eq_of_lt (by omega)]
  exact or_sign _ _ K hK hs h

theorem join_f (m : Bool) (top : Int) (k : Nat) (h0 : 1 - 127 ≤ top) (h1 : top ≤ 127) (hk : k ≤ 16777216) (hs : Hid ((top + (127 - 1)).toNat * 8388608 + k < 2147483648)) (w : World) :
    Calls Try.prog 96 #[.agg #[.int .i64 8, .int .i64 23], .bool m, .int .i64 top, .int .u64 k] w (RetU (noughtV false m + ((top + (127 - 1)).toNat * 8388608 + k)) w) := by
  have hB : bias false = 127 := rfl
  have HK := Lib.hid hk; have HB := Lib.hid hB; clear hk hB
  go_enter Try.func96, Try.ntmps96
  go_wp2_with fail
  refine (most_c false _ _ (.inl ⟨rfl, rfl, rfl⟩) _).mono ?_; rintro e w1 ⟨rfl, hb1⟩; obtain ⟨hc1, hf1⟩ := bcell hb1; have hz1 := hb1.size; (try simp only [sz_alloc, sz_drew, sz_set] at hz1 hc1 hf1); have l1_0 : w.heap.size < w1.heap.size := (by omega); have n1_0 : ¬ w.heap.size = w1.heap.size := (by omega); have m1_0 : ¬ w1.heap.size = w.heap.size := (by omega); have k1_0 := fun o => hc1 (w.heap.size) o (by omega); have f1_0 := fun o => hf1 (w.heap.size) o (by omega); (try simp (disch := (first | rfl | omega | (simp only [sz_alloc, sz_drew, sz_set]; omega))) only [sz_alloc, sz_drew, sz_set, World.cell?_drew, World.frozen?_drew, World.cell?_alloc_at, World.cell?_alloc_past, World.frozen?_alloc_at, World.frozen?_alloc_past] at k1_0 f1_0)
  rw [HB.out]
  go_wp2_with fail
  go_region_held3 (fun w' => w'.cell? ⟨w.heap.size, 0, none⟩ = some (.int .i64 8) ∧ w'.cell? ⟨w.heap.size, 1, none⟩ = some (.int .i64 23)) (go_keep)
    (first
      | (go_at_call 93; refine (nought_c false _ _ (.inl ⟨rfl, rfl, rfl⟩) _ _).mono ?_; rintro e w2 ⟨rfl, hb2⟩; obtain ⟨hc2, hf2⟩ := bcell hb2; have hz2 := hb2.size; (try simp only [sz_alloc, sz_drew, sz_set] at hz2 hc2 hf2); have l2_0 : w.heap.size < w2.heap.size := (by omega); have n2_0 : ¬ w.heap.size = w2.heap.size := (by omega); have m2_0 : ¬ w2.heap.size = w.heap.size := (by omega); have k2_0 := fun o => hc2 (w.heap.size) o (by omega); have f2_0 := fun o => hf2 (w.heap.size) o (by omega); (try simp (disch := (first | rfl | omega | (simp only [sz_alloc, sz_drew, sz_set]; omega))) only [sz_alloc, sz_drew, sz_set, World.cell?_drew, World.frozen?_drew, World.cell?_alloc_at, World.cell?_alloc_past, World.frozen?_alloc_at, World.frozen?_alloc_past] at k2_0 f2_0)))
  all_goals go_wp2
  all_goals go_ret
  all_goals refine retU_mk ?_ (by repeat (first | (with_reducible first | exact Below.refl _ _ | assumption | exact Nat.le_refl _ | refine Below.drew ?_ | refine Below.alloc ?_ ?_ _ | refine Below.setCell ?_ ?_ _ | refine le_alloc ?_ | refine le_set ?_ | refine le_drew ?_ | refine below_step (by assumption) ?_ ?_ | refine le_below (by assumption) ?_) | (dsimp only; omega)))
  all_goals
    have HS := hs.out
    have hk := HK.out
    obtain ⟨t, ht⟩ : ∃ t : Nat, top + 127 - 1 = t := ⟨(top + 127 - 1).toNat, by omega⟩
    have e1 : (top + (127 - 1)).toNat = t := by omega
    rw [e1] at HS ⊢
    rw [ht]
    exact join_num _ t k 8388608 31 (by decide) (by cases m; exact .inl rfl; exact .inr rfl) HS

theorem join_t (m : Bool) (top : Int) (k : Nat) (h0 : 1 - 1023 ≤ top) (h1 : top ≤ 1023) (hk : k ≤ 9007199254740992) (hs : Hid ((top + (1023 - 1)).toNat * 4503599627370496 + k < 9223372036854775808)) (w : World) :
    Calls Try.prog 96 #[.agg #[.int .i64 11, .int .i64 52], .bool m, .int .i64 top, .int .u64 k] w (RetU (noughtV true m + ((top + (1023 - 1)).toNat * 4503599627370496 + k)) w) := by
  have hB : bias true = 1023 := rfl
  have HK := Lib.hid hk; have HB := Lib.hid hB; clear hk hB
  go_enter Try.func96, Try.ntmps96
  go_wp2_with fail
  refine (most_c true _ _ (.inr ⟨rfl, rfl, rfl⟩) _).mono ?_; rintro e w1 ⟨rfl, hb1⟩; obtain ⟨hc1, hf1⟩ := bcell hb1; have hz1 := hb1.size; (try simp only [sz_alloc, sz_drew, sz_set] at hz1 hc1 hf1); have l1_0 : w.heap.size < w1.heap.size := (by omega); have n1_0 : ¬ w.heap.size = w1.heap.size := (by omega); have m1_0 : ¬ w1.heap.size = w.heap.size := (by omega); have k1_0 := fun o => hc1 (w.heap.size) o (by omega); have f1_0 := fun o => hf1 (w.heap.size) o (by omega); (try simp (disch := (first | rfl | omega | (simp only [sz_alloc, sz_drew, sz_set]; omega))) only [sz_alloc, sz_drew, sz_set, World.cell?_drew, World.frozen?_drew, World.cell?_alloc_at, World.cell?_alloc_past, World.frozen?_alloc_at, World.frozen?_alloc_past] at k1_0 f1_0)
  rw [HB.out]
  go_wp2_with fail
  go_region_held3 (fun w' => w'.cell? ⟨w.heap.size, 0, none⟩ = some (.int .i64 11) ∧ w'.cell? ⟨w.heap.size, 1, none⟩ = some (.int .i64 52)) (go_keep)
    (first
      | (go_at_call 93; refine (nought_c true _ _ (.inr ⟨rfl, rfl, rfl⟩) _ _).mono ?_; rintro e w2 ⟨rfl, hb2⟩; obtain ⟨hc2, hf2⟩ := bcell hb2; have hz2 := hb2.size; (try simp only [sz_alloc, sz_drew, sz_set] at hz2 hc2 hf2); have l2_0 : w.heap.size < w2.heap.size := (by omega); have n2_0 : ¬ w.heap.size = w2.heap.size := (by omega); have m2_0 : ¬ w2.heap.size = w.heap.size := (by omega); have k2_0 := fun o => hc2 (w.heap.size) o (by omega); have f2_0 := fun o => hf2 (w.heap.size) o (by omega); (try simp (disch := (first | rfl | omega | (simp only [sz_alloc, sz_drew, sz_set]; omega))) only [sz_alloc, sz_drew, sz_set, World.cell?_drew, World.frozen?_drew, World.cell?_alloc_at, World.cell?_alloc_past, World.frozen?_alloc_at, World.frozen?_alloc_past] at k2_0 f2_0)))
  all_goals go_wp2
  all_goals go_ret
  all_goals refine retU_mk ?_ (by repeat (first | (with_reducible first | exact Below.refl _ _ | assumption | exact Nat.le_refl _ | refine Below.drew ?_ | refine Below.alloc ?_ ?_ _ | refine Below.setCell ?_ ?_ _ | refine le_alloc ?_ | refine le_set ?_ | refine le_drew ?_ | refine below_step (by assumption) ?_ ?_ | refine le_below (by assumption) ?_) | (dsimp only; omega)))
  all_goals
    have HS := hs.out
    have hk := HK.out
    obtain ⟨t, ht⟩ : ∃ t : Nat, top + 1023 - 1 = t := ⟨(top + 1023 - 1).toNat, by omega⟩
    have e1 : (top + (1023 - 1)).toNat = t := by omega
    rw [e1] at HS ⊢
    rw [ht]
    exact join_num _ t k 4503599627370496 63 (by decide) (by cases m; exact .inl rfl; exact .inr rfl) HS

end Go.Proofs.Yteinjalnkhfecaa
