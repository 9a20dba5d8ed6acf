/- The contracts of Pick and Compare. -/
import Derived.Test.YteinjalnkhfecaaB4
namespace Go.Proofs.Yteinjalnkhfecaa
open Go.ChangeShapes Go.WideShapes Go.ChangeAt Go.RowKit
set_option linter.unusedVariables false
set_option linter.unusedSimpArgs false
def RetL (a b : Int) (W : World) (e : Ending) (w' : World) : Prop := e = .returned (.tuple #[.int .u64 a, .int .i64 b]) ∧ Below W.heap.size W w'
theorem retL_mk {a b x y : Int} {W w' : World} (h1 : x = a) (h2 : y = b) (h : Below W.heap.size W w') : RetL a b W (.returned (.tuple #[.int .u64 x, .int .i64 y])) w' := ⟨by rw [h1, h2], h⟩
def PickOk (k : Int) : Prop := k = 67 ∨ k = 68
/-- The float that is picked. -/
def pickV (k : Int) (d : Bool) (a b : Nat) : Nat :=
  if noneV d a = true ∧ noneV d b = true then quietB d else if noneV d a = true then maskN d b else if noneV d b = true then maskN d a
  else if (k = 67 ↔ rankV d a < rankV d b) then maskN d a else maskN d b
set_option maxRecDepth 100000 in
set_option maxHeartbeats 4000000 in
theorem Pick_67 (sz : Int) (d : Bool) (hsz : Hid (SzOk sz d)) (a b : Nat) (ha : Hid (a < 18446744073709551616)) (hb : Hid (b < 18446744073709551616)) (w : World) :
    Calls Try.prog 26 #[.int .i64 67, .int .i64 sz, .int .u64 a, .int .u64 b] w (RetL (pickV 67 d a b) (flagS (clsV d a) (clsV d b)) w) := by
  go_enter Try.func26, Try.ntmps26
  go_wp2_with fail
  refine (layoutOf_s sz d hsz _).mono ?_; rintro e w1 ⟨E, F, rfl, hd, hb1⟩; obtain ⟨hc1, hf1⟩ := bcell hb1; have hz1 := hb1.size; (try simp only [sz_alloc, sz_drew, sz_set] at hz1 hc1 hf1)
  clear hc1 hf1
  go_wp2_with fail
  refine (ofSig2_c d E F hd a b ha hb _ (w1.heap.size + 1) (by simp only [sz_alloc]; omega) (fun o => World.cell?_alloc_at _ _ _ _ (by simp only [sz_alloc]))).mono ?_
  rintro e w2 ⟨rfl, hb2⟩; obtain ⟨hc2, hf2⟩ := bcell hb2; have hz2 := hb2.size; (try simp only [sz_alloc, sz_drew, sz_set] at hz2 hc2 hf2); have l2_0 : w1.heap.size < w2.heap.size := (by omega); have n2_0 : ¬ w1.heap.size = w2.heap.size := (by omega); have m2_0 : ¬ w2.heap.size = w1.heap.size := (by omega); have k2_0 := fun o => hc2 (w1.heap.size) o (by omega); have f2_0 := fun o => hf2 (w1.heap.size) o (by omega); (try simp (disch := (first | rfl | omega | (simp only [sz_alloc, sz_drew, sz_set]; omega))) only [sz_alloc, sz_drew, sz_set, World.cell?_drew, World.frozen?_drew, World.cell?_alloc_at, World.cell?_alloc_past, World.frozen?_alloc_at, World.frozen?_alloc_past] at k2_0 f2_0)
  clear hc2 hf2
  generalize hfl : flagS (clsV d a) (clsV d b) = fl
  have HF := Lib.hid hfl; clear hfl
  go_wp2_with fail
  refine (isNone_c d E F hd a ha _).mono ?_; rintro e w3 ⟨rfl, hb3⟩; obtain ⟨hc3, hf3⟩ := bcell hb3; have hz3 := hb3.size; (try simp only [sz_alloc, sz_drew, sz_set] at hz3 hc3 hf3); have l3_0 : w1.heap.size < w3.heap.size := (by omega); have n3_0 : ¬ w1.heap.size = w3.heap.size := (by omega); have m3_0 : ¬ w3.heap.size = w1.heap.size := (by omega); have k3_0 := fun o => hc3 (w1.heap.size) o (by omega); have f3_0 := fun o => hf3 (w1.heap.size) o (by omega); (try simp (disch := (first | rfl | omega | (simp only [sz_alloc, sz_drew, sz_set]; omega))) only [sz_alloc, sz_drew, sz_set, World.cell?_drew, World.frozen?_drew, World.cell?_alloc_at, World.cell?_alloc_past, World.frozen?_alloc_at, World.frozen?_alloc_past, hc2, hf2] at k3_0 f3_0)
  clear hc3 hf3
  cases hna : noneV d a
  · have HA := Lib.hid hna; clear hna
    go_wp2_with fail
    refine (isNone_c d E F hd a ha _).mono ?_; rintro e w4 ⟨rfl, hb4⟩; obtain ⟨hc4, hf4⟩ := bcell hb4; have hz4 := hb4.size; (try simp only [sz_alloc, sz_drew, sz_set] at hz4 hc4 hf4); have l4_0 : w1.heap.size < w4.heap.size := (by omega); have n4_0 : ¬ w1.heap.size = w4.heap.size := (by omega); have m4_0 : ¬ w4.heap.size = w1.heap.size := (by omega); have k4_0 := fun o => hc4 (w1.heap.size) o (by omega); have f4_0 := fun o => hf4 (w1.heap.size) o (by omega); (try simp (disch := (first | rfl | omega | (simp only [sz_alloc, sz_drew, sz_set]; omega))) only [sz_alloc, sz_drew, sz_set, World.cell?_drew, World.frozen?_drew, World.cell?_alloc_at, World.cell?_alloc_past, World.frozen?_alloc_at, World.frozen?_alloc_past, hc3, hc2, hf3, hf2] at k4_0 f4_0)
    clear hc4 hf4
    rw [HA.out]
    go_wp2_with fail
    refine (isNone_c d E F hd b hb _).mono ?_; rintro e w5 ⟨rfl, hb5⟩; obtain ⟨hc5, hf5⟩ := bcell hb5; have hz5 := hb5.size; (try simp only [sz_alloc, sz_drew, sz_set] at hz5 hc5 hf5); have l5_0 : w1.heap.size < w5.heap.size := (by omega); have n5_0 : ¬ w1.heap.size = w5.heap.size := (by omega); have m5_0 : ¬ w5.heap.size = w1.heap.size := (by omega); have k5_0 := fun o => hc5 (w1.heap.size) o (by omega); have f5_0 := fun o => hf5 (w1.heap.size) o (by omega); (try simp (disch := (first | rfl | omega | (simp only [sz_alloc, sz_drew, sz_set]; omega))) only [sz_alloc, sz_drew, sz_set, World.cell?_drew, World.frozen?_drew, World.cell?_alloc_at, World.cell?_alloc_past, World.frozen?_alloc_at, World.frozen?_alloc_past, hc4, hc3, hc2, hf4, hf3, hf2] at k5_0 f5_0)
    clear hc5 hf5
    cases hnb : noneV d b
    · have HB := Lib.hid hnb; clear hnb
      have HP : Hid (pickV 67 d a b = if (67 = (67 : Int) ↔ rankV d a < rankV d b) then maskN d a else maskN d b) := by
        show pickV _ d a b = _; unfold pickV; rw [HA.out, HB.out, if_neg (by simp), if_neg (by simp), if_neg (by simp)]
      go_wp2_with fail
      by_cases hr : rankV d a < rankV d b
      · have HQ : Hid (pickV 67 d a b = maskN d a) := by show _ = _; rw [HP.out, if_pos (by simp [hr])]
        have hr1 := decide_eq_true hr
        clear hr
        generalize hra : rankV d a = ra at hr1
        generalize hrb : rankV d b = rb at hr1
        have HRA := Lib.hid hra; have HRB := Lib.hid hrb; clear hra hrb
        go_region_held3 (fun w' => w'.cell? ⟨w1.heap.size, 0, none⟩ = some (.int .i64 E) ∧ w'.cell? ⟨w1.heap.size, 1, none⟩ = some (.int .i64 F)) (all_goals (first | (go_keep; done) | (simp (disch := omega) only [cell_set_far]; simp [*])))
          (first
            | (go_at_call_of 70 (Value.int .u64 (a : Int)); refine (rank_c d E F hd a ha _).mono ?_; rintro e w6 ⟨rfl, hb6⟩; obtain ⟨hc6, hf6⟩ := bcell hb6; have hz6 := hb6.size; (try simp only [sz_alloc, sz_drew, sz_set] at hz6 hc6 hf6); have l6_0 : w1.heap.size < w6.heap.size := (by omega); have n6_0 : ¬ w1.heap.size = w6.heap.size := (by omega); have m6_0 : ¬ w6.heap.size = w1.heap.size := (by omega); have k6_0 := fun o => hc6 (w1.heap.size) o (by omega); have f6_0 := fun o => hf6 (w1.heap.size) o (by omega); (try simp (disch := (first | rfl | omega | (simp only [sz_alloc, sz_drew, sz_set]; omega))) only [sz_alloc, sz_drew, sz_set, World.cell?_drew, World.frozen?_drew, World.cell?_alloc_at, World.cell?_alloc_past, World.frozen?_alloc_at, World.frozen?_alloc_past] at k6_0 f6_0); rw [HRA.out])
            | (go_at_call_of 70 (Value.int .u64 (b : Int)); refine (rank_c d E F hd b hb _).mono ?_; rintro e w7 ⟨rfl, hb7⟩; obtain ⟨hc7, hf7⟩ := bcell hb7; have hz7 := hb7.size; (try simp only [sz_alloc, sz_drew, sz_set] at hz7 hc7 hf7); have l7_0 : w1.heap.size < w7.heap.size := (by omega); have n7_0 : ¬ w1.heap.size = w7.heap.size := (by omega); have m7_0 : ¬ w7.heap.size = w1.heap.size := (by omega); have k7_0 := fun o => hc7 (w1.heap.size) o (by omega); have f7_0 := fun o => hf7 (w1.heap.size) o (by omega); (try simp (disch := (first | rfl | omega | (simp only [sz_alloc, sz_drew, sz_set]; omega))) only [sz_alloc, sz_drew, sz_set, World.cell?_drew, World.frozen?_drew, World.cell?_alloc_at, World.cell?_alloc_past, World.frozen?_alloc_at, World.frozen?_alloc_past] at k7_0 f7_0); rw [HRB.out]))
        all_goals go_wp2_with fail
        all_goals go_outline
        all_goals (refine (bits_c d E F hd a ha _).mono ?_; rintro e w8 ⟨rfl, hb8⟩)
        all_goals go_wp2_with fail
        all_goals go_ret2
        all_goals exact retL_mk (by rw [HQ.out]) (by rw [HF.out]) (by repeat (first | (with_reducible first | exact Below.refl _ _ | assumption | exact Nat.le_refl _ | refine Below.drew ?_ | refine Below.alloc ?_ ?_ _ | refine Below.setCell ?_ ?_ _ | refine le_alloc ?_ | refine le_set ?_ | refine le_drew ?_ | refine below_step (by assumption) ?_ ?_ | refine le_below (by assumption) ?_) | (dsimp only; omega)))
      · have HQ : Hid (pickV 67 d a b = maskN d b) := by show _ = _; rw [HP.out, if_neg (by simp [hr])]
        have hr1 := decide_eq_false hr
        clear hr
        generalize hra : rankV d a = ra at hr1
        generalize hrb : rankV d b = rb at hr1
        have HRA := Lib.hid hra; have HRB := Lib.hid hrb; clear hra hrb
        go_region_held3 (fun w' => w'.cell? ⟨w1.heap.size, 0, none⟩ = some (.int .i64 E) ∧ w'.cell? ⟨w1.heap.size, 1, none⟩ = some (.int .i64 F)) (all_goals (first | (go_keep; done) | (simp (disch := omega) only [cell_set_far]; simp [*])))
          (first
            | (go_at_call_of 70 (Value.int .u64 (a : Int)); refine (rank_c d E F hd a ha _).mono ?_; rintro e w6 ⟨rfl, hb6⟩; obtain ⟨hc6, hf6⟩ := bcell hb6; have hz6 := hb6.size; (try simp only [sz_alloc, sz_drew, sz_set] at hz6 hc6 hf6); have l6_0 : w1.heap.size < w6.heap.size := (by omega); have n6_0 : ¬ w1.heap.size = w6.heap.size := (by omega); have m6_0 : ¬ w6.heap.size = w1.heap.size := (by omega); have k6_0 := fun o => hc6 (w1.heap.size) o (by omega); have f6_0 := fun o => hf6 (w1.heap.size) o (by omega); (try simp (disch := (first | rfl | omega | (simp only [sz_alloc, sz_drew, sz_set]; omega))) only [sz_alloc, sz_drew, sz_set, World.cell?_drew, World.frozen?_drew, World.cell?_alloc_at, World.cell?_alloc_past, World.frozen?_alloc_at, World.frozen?_alloc_past] at k6_0 f6_0); rw [HRA.out])
            | (go_at_call_of 70 (Value.int .u64 (b : Int)); refine (rank_c d E F hd b hb _).mono ?_; rintro e w7 ⟨rfl, hb7⟩; obtain ⟨hc7, hf7⟩ := bcell hb7; have hz7 := hb7.size; (try simp only [sz_alloc, sz_drew, sz_set] at hz7 hc7 hf7); have l7_0 : w1.heap.size < w7.heap.size := (by omega); have n7_0 : ¬ w1.heap.size = w7.heap.size := (by omega); have m7_0 : ¬ w7.heap.size = w1.heap.size := (by omega); have k7_0 := fun o => hc7 (w1.heap.size) o (by omega); have f7_0 := fun o => hf7 (w1.heap.size) o (by omega); (try simp (disch := (first | rfl | omega | (simp only [sz_alloc, sz_drew, sz_set]; omega))) only [sz_alloc, sz_drew, sz_set, World.cell?_drew, World.frozen?_drew, World.cell?_alloc_at, World.cell?_alloc_past, World.frozen?_alloc_at, World.frozen?_alloc_past] at k7_0 f7_0); rw [HRB.out]))
        all_goals go_wp2_with fail
        all_goals (refine (bits_c d E F hd b hb _).mono ?_; rintro e w8 ⟨rfl, hb8⟩)
        all_goals go_wp2_with fail
        all_goals go_ret2
        all_goals exact retL_mk (by rw [HQ.out]) (by rw [HF.out]) (by repeat (first | (with_reducible first | exact Below.refl _ _ | assumption | exact Nat.le_refl _ | refine Below.drew ?_ | refine Below.alloc ?_ ?_ _ | refine Below.setCell ?_ ?_ _ | refine le_alloc ?_ | refine le_set ?_ | refine le_drew ?_ | refine below_step (by assumption) ?_ ?_ | refine le_below (by assumption) ?_) | (dsimp only; omega)))
    · have HB := Lib.hid hnb; clear hnb
      have HQ : Hid (pickV 67 d a b = maskN d a) := by show pickV _ d a b = _; unfold pickV; rw [HA.out, HB.out, if_neg (by simp), if_neg (by simp), if_pos rfl]
      go_wp2_with fail
      refine (bits_c d E F hd a ha _).mono ?_; rintro e w8 ⟨rfl, hb8⟩
      go_wp2_with fail
      go_ret2
      exact retL_mk (by rw [HQ.out]) (by rw [HF.out]) (by repeat (first | (with_reducible first | exact Below.refl _ _ | assumption | exact Nat.le_refl _ | refine Below.drew ?_ | refine Below.alloc ?_ ?_ _ | refine Below.setCell ?_ ?_ _ | refine le_alloc ?_ | refine le_set ?_ | refine le_drew ?_ | refine below_step (by assumption) ?_ ?_ | refine le_below (by assumption) ?_) | (dsimp only; omega)))
  · have HA := Lib.hid hna; clear hna
    go_wp2_with fail
    refine (isNone_c d E F hd b hb _).mono ?_; rintro e w5 ⟨rfl, hb5⟩; obtain ⟨hc5, hf5⟩ := bcell hb5; have hz5 := hb5.size; (try simp only [sz_alloc, sz_drew, sz_set] at hz5 hc5 hf5); have l5_0 : w1.heap.size < w5.heap.size := (by omega); have n5_0 : ¬ w1.heap.size = w5.heap.size := (by omega); have m5_0 : ¬ w5.heap.size = w1.heap.size := (by omega); have k5_0 := fun o => hc5 (w1.heap.size) o (by omega); have f5_0 := fun o => hf5 (w1.heap.size) o (by omega); (try simp (disch := (first | rfl | omega | (simp only [sz_alloc, sz_drew, sz_set]; omega))) only [sz_alloc, sz_drew, sz_set, World.cell?_drew, World.frozen?_drew, World.cell?_alloc_at, World.cell?_alloc_past, World.frozen?_alloc_at, World.frozen?_alloc_past, hc3, hc2, hf3, hf2] at k5_0 f5_0)
    clear hc5 hf5
    cases hnb : noneV d b
    · have HB := Lib.hid hnb; clear hnb
      have HQ : Hid (pickV 67 d a b = maskN d b) := by show pickV _ d a b = _; unfold pickV; rw [HA.out, HB.out, if_neg (by simp), if_pos rfl]
      go_wp2_with fail
      refine (isNone_c d E F hd a ha _).mono ?_; rintro e w4 ⟨rfl, hb4⟩; obtain ⟨hc4, hf4⟩ := bcell hb4; have hz4 := hb4.size; (try simp only [sz_alloc, sz_drew, sz_set] at hz4 hc4 hf4); have l4_0 : w1.heap.size < w4.heap.size := (by omega); have n4_0 : ¬ w1.heap.size = w4.heap.size := (by omega); have m4_0 : ¬ w4.heap.size = w1.heap.size := (by omega); have k4_0 := fun o => hc4 (w1.heap.size) o (by omega); have f4_0 := fun o => hf4 (w1.heap.size) o (by omega); (try simp (disch := (first | rfl | omega | (simp only [sz_alloc, sz_drew, sz_set]; omega))) only [sz_alloc, sz_drew, sz_set, World.cell?_drew, World.frozen?_drew, World.cell?_alloc_at, World.cell?_alloc_past, World.frozen?_alloc_at, World.frozen?_alloc_past, hc5, hc3, hc2, hf5, hf3, hf2] at k4_0 f4_0)
      clear hc4 hf4
      rw [HA.out]
      go_wp2_with fail
      refine (bits_c d E F hd b hb _).mono ?_; rintro e w8 ⟨rfl, hb8⟩
      go_wp2_with fail
      go_ret2
      exact retL_mk (by rw [HQ.out]) (by rw [HF.out]) (by repeat (first | (with_reducible first | exact Below.refl _ _ | assumption | exact Nat.le_refl _ | refine Below.drew ?_ | refine Below.alloc ?_ ?_ _ | refine Below.setCell ?_ ?_ _ | refine le_alloc ?_ | refine le_set ?_ | refine le_drew ?_ | refine below_step (by assumption) ?_ ?_ | refine le_below (by assumption) ?_) | (dsimp only; omega)))
    · have HB := Lib.hid hnb; clear hnb
      have HQ : Hid (pickV 67 d a b = quietB d) := by show pickV _ d a b = _; unfold pickV; rw [HA.out, HB.out, if_pos ⟨rfl, rfl⟩]
      go_wp2_with fail
      refine (quiet_c d E F hd.out _).mono ?_; rintro e w8 ⟨rfl, hb8⟩
      go_wp2_with fail
      go_ret2
      exact retL_mk (by rw [HQ.out]) (by rw [HF.out]) (by repeat (first | (with_reducible first | exact Below.refl _ _ | assumption | exact Nat.le_refl _ | refine Below.drew ?_ | refine Below.alloc ?_ ?_ _ | refine Below.setCell ?_ ?_ _ | refine le_alloc ?_ | refine le_set ?_ | refine le_drew ?_ | refine below_step (by assumption) ?_ ?_ | refine le_below (by assumption) ?_) | (dsimp only; omega)))
set_option maxRecDepth 100000 in
set_option maxHeartbeats 4000000 in
theorem Pick_68 (sz : Int) (d : Bool) (hsz : Hid (SzOk sz d)) (a b : Nat) (ha : Hid (a < 18446744073709551616)) (hb : Hid (b < 18446744073709551616)) (w : World) :
    Calls Try.prog 26 #[.int .i64 68, .int .i64 sz, .int .u64 a, .int .u64 b] w (RetL (pickV 68 d a b) (flagS (clsV d a) (clsV d b)) w) := by
  go_enter Try.func26, Try.ntmps26
  go_wp2_with fail
  refine (layoutOf_s sz d hsz _).mono ?_; rintro e w1 ⟨E, F, rfl, hd, hb1⟩; obtain ⟨hc1, hf1⟩ := bcell hb1; have hz1 := hb1.size; (try simp only [sz_alloc, sz_drew, sz_set] at hz1 hc1 hf1)
  clear hc1 hf1
  go_wp2_with fail
  refine (ofSig2_c d E F hd a b ha hb _ (w1.heap.size + 1) (by simp only [sz_alloc]; omega) (fun o => World.cell?_alloc_at _ _ _ _ (by simp only [sz_alloc]))).mono ?_
  rintro e w2 ⟨rfl, hb2⟩; obtain ⟨hc2, hf2⟩ := bcell hb2; have hz2 := hb2.size; (try simp only [sz_alloc, sz_drew, sz_set] at hz2 hc2 hf2); have l2_0 : w1.heap.size < w2.heap.size := (by omega); have n2_0 : ¬ w1.heap.size = w2.heap.size := (by omega); have m2_0 : ¬ w2.heap.size = w1.heap.size := (by omega); have k2_0 := fun o => hc2 (w1.heap.size) o (by omega); have f2_0 := fun o => hf2 (w1.heap.size) o (by omega); (try simp (disch := (first | rfl | omega | (simp only [sz_alloc, sz_drew, sz_set]; omega))) only [sz_alloc, sz_drew, sz_set, World.cell?_drew, World.frozen?_drew, World.cell?_alloc_at, World.cell?_alloc_past, World.frozen?_alloc_at, World.frozen?_alloc_past] at k2_0 f2_0)
  clear hc2 hf2
  generalize hfl : flagS (clsV d a) (clsV d b) = fl
  have HF := Lib.hid hfl; clear hfl
  go_wp2_with fail
  refine (isNone_c d E F hd a ha _).mono ?_; rintro e w3 ⟨rfl, hb3⟩; obtain ⟨hc3, hf3⟩ := bcell hb3; have hz3 := hb3.size; (try simp only [sz_alloc, sz_drew, sz_set] at hz3 hc3 hf3); have l3_0 : w1.heap.size < w3.heap.size := (by omega); have n3_0 : ¬ w1.heap.size = w3.heap.size := (by omega); have m3_0 : ¬ w3.heap.size = w1.heap.size := (by omega); have k3_0 := fun o => hc3 (w1.heap.size) o (by omega); have f3_0 := fun o => hf3 (w1.heap.size) o (by omega); (try simp (disch := (first | rfl | omega | (simp only [sz_alloc, sz_drew, sz_set]; omega))) only [sz_alloc, sz_drew, sz_set, World.cell?_drew, World.frozen?_drew, World.cell?_alloc_at, World.cell?_alloc_past, World.frozen?_alloc_at, World.frozen?_alloc_past, hc2, hf2] at k3_0 f3_0)
  clear hc3 hf3
  cases hna : noneV d a
  · have HA := Lib.hid hna; clear hna
    go_wp2_with fail
    refine (isNone_c d E F hd a ha _).mono ?_; rintro e w4 ⟨rfl, hb4⟩; obtain ⟨hc4, hf4⟩ := bcell hb4; have hz4 := hb4.size; (try simp only [sz_alloc, sz_drew, sz_set] at hz4 hc4 hf4); have l4_0 : w1.heap.size < w4.heap.size := (by omega); have n4_0 : ¬ w1.heap.size = w4.heap.size := (by omega); have m4_0 : ¬ w4.heap.size = w1.heap.size := (by omega); have k4_0 := fun o => hc4 (w1.heap.size) o (by omega); have f4_0 := fun o => hf4 (w1.heap.size) o (by omega); (try simp (disch := (first | rfl | omega | (simp only [sz_alloc, sz_drew, sz_set]; omega))) only [sz_alloc, sz_drew, sz_set, World.cell?_drew, World.frozen?_drew, World.cell?_alloc_at, World.cell?_alloc_past, World.frozen?_alloc_at, World.frozen?_alloc_past, hc3, hc2, hf3, hf2] at k4_0 f4_0)
    clear hc4 hf4
    rw [HA.out]
    go_wp2_with fail
    refine (isNone_c d E F hd b hb _).mono ?_; rintro e w5 ⟨rfl, hb5⟩; obtain ⟨hc5, hf5⟩ := bcell hb5; have hz5 := hb5.size; (try simp only [sz_alloc, sz_drew, sz_set] at hz5 hc5 hf5); have l5_0 : w1.heap.size < w5.heap.size := (by omega); have n5_0 : ¬ w1.heap.size = w5.heap.size := (by omega); have m5_0 : ¬ w5.heap.size = w1.heap.size := (by omega); have k5_0 := fun o => hc5 (w1.heap.size) o (by omega); have f5_0 := fun o => hf5 (w1.heap.size) o (by omega); (try simp (disch := (first | rfl | omega | (simp only [sz_alloc, sz_drew, sz_set]; omega))) only [sz_alloc, sz_drew, sz_set, World.cell?_drew, World.frozen?_drew, World.cell?_alloc_at, World.cell?_alloc_past, World.frozen?_alloc_at, World.frozen?_alloc_past, hc4, hc3, hc2, hf4, hf3, hf2] at k5_0 f5_0)
    clear hc5 hf5
    cases hnb : noneV d b
    · have HB := Lib.hid hnb; clear hnb
      have HP : Hid (pickV 68 d a b = if (68 = (67 : Int) ↔ rankV d a < rankV d b) then maskN d a else maskN d b) := by
        show pickV _ d a b = _; unfold pickV; rw [HA.out, HB.out, if_neg (by simp), if_neg (by simp), if_neg (by simp)]
      go_wp2_with fail
      by_cases hr : rankV d a < rankV d b
      · have HQ : Hid (pickV 68 d a b = maskN d b) := by show _ = _; rw [HP.out, if_neg (by simp [hr])]
        have hr1 := decide_eq_true hr
        clear hr
        generalize hra : rankV d a = ra at hr1
        generalize hrb : rankV d b = rb at hr1
        have HRA := Lib.hid hra; have HRB := Lib.hid hrb; clear hra hrb
        go_region_held3 (fun w' => w'.cell? ⟨w1.heap.size, 0, none⟩ = some (.int .i64 E) ∧ w'.cell? ⟨w1.heap.size, 1, none⟩ = some (.int .i64 F)) (all_goals (first | (go_keep; done) | (simp (disch := omega) only [cell_set_far]; simp [*])))
          (first
            | (go_at_call_of 70 (Value.int .u64 (a : Int)); refine (rank_c d E F hd a ha _).mono ?_; rintro e w6 ⟨rfl, hb6⟩; obtain ⟨hc6, hf6⟩ := bcell hb6; have hz6 := hb6.size; (try simp only [sz_alloc, sz_drew, sz_set] at hz6 hc6 hf6); have l6_0 : w1.heap.size < w6.heap.size := (by omega); have n6_0 : ¬ w1.heap.size = w6.heap.size := (by omega); have m6_0 : ¬ w6.heap.size = w1.heap.size := (by omega); have k6_0 := fun o => hc6 (w1.heap.size) o (by omega); have f6_0 := fun o => hf6 (w1.heap.size) o (by omega); (try simp (disch := (first | rfl | omega | (simp only [sz_alloc, sz_drew, sz_set]; omega))) only [sz_alloc, sz_drew, sz_set, World.cell?_drew, World.frozen?_drew, World.cell?_alloc_at, World.cell?_alloc_past, World.frozen?_alloc_at, World.frozen?_alloc_past] at k6_0 f6_0); rw [HRA.out])
            | (go_at_call_of 70 (Value.int .u64 (b : Int)); refine (rank_c d E F hd b hb _).mono ?_; rintro e w7 ⟨rfl, hb7⟩; obtain ⟨hc7, hf7⟩ := bcell hb7; have hz7 := hb7.size; (try simp only [sz_alloc, sz_drew, sz_set] at hz7 hc7 hf7); have l7_0 : w1.heap.size < w7.heap.size := (by omega); have n7_0 : ¬ w1.heap.size = w7.heap.size := (by omega); have m7_0 : ¬ w7.heap.size = w1.heap.size := (by omega); have k7_0 := fun o => hc7 (w1.heap.size) o (by omega); have f7_0 := fun o => hf7 (w1.heap.size) o (by omega); (try simp (disch := (first | rfl | omega | (simp only [sz_alloc, sz_drew, sz_set]; omega))) only [sz_alloc, sz_drew, sz_set, World.cell?_drew, World.frozen?_drew, World.cell?_alloc_at, World.cell?_alloc_past, World.frozen?_alloc_at, World.frozen?_alloc_past] at k7_0 f7_0); rw [HRB.out]))
        all_goals go_wp2_with fail
        all_goals go_outline
        all_goals (refine (bits_c d E F hd b hb _).mono ?_; rintro e w8 ⟨rfl, hb8⟩)
        all_goals go_wp2_with fail
        all_goals go_ret2
        all_goals exact retL_mk (by rw [HQ.out]) (by rw [HF.out]) (by repeat (first | (with_reducible first | exact Below.refl _ _ | assumption | exact Nat.le_refl _ | refine Below.drew ?_ | refine Below.alloc ?_ ?_ _ | refine Below.setCell ?_ ?_ _ | refine le_alloc ?_ | refine le_set ?_ | refine le_drew ?_ | refine below_step (by assumption) ?_ ?_ | refine le_below (by assumption) ?_) | (dsimp only; omega)))
      · have HQ : Hid (pickV 68 d a b = maskN d a) := by show _ = _; rw [HP.out, if_pos (by simp [hr])]
        have hr1 := decide_eq_false hr
        clear hr
        generalize hra : rankV d a = ra at hr1
        generalize hrb : rankV d b = rb at hr1
        have HRA := Lib.hid hra; have HRB := Lib.hid hrb; clear hra hrb
        go_region_held3 (fun w' => w'.cell? ⟨w1.heap.size, 0, none⟩ = some (.int .i64 E) ∧ w'.cell? ⟨w1.heap.size, 1, none⟩ = some (.int .i64 F)) (all_goals (first | (go_keep; done) | (simp (disch := omega) only [cell_set_far]; simp [*])))
          (first
            | (go_at_call_of 70 (Value.int .u64 (a : Int)); refine (rank_c d E F hd a ha _).mono ?_; rintro e w6 ⟨rfl, hb6⟩; obtain ⟨hc6, hf6⟩ := bcell hb6; have hz6 := hb6.size; (try simp only [sz_alloc, sz_drew, sz_set] at hz6 hc6 hf6); have l6_0 : w1.heap.size < w6.heap.size := (by omega); have n6_0 : ¬ w1.heap.size = w6.heap.size := (by omega); have m6_0 : ¬ w6.heap.size = w1.heap.size := (by omega); have k6_0 := fun o => hc6 (w1.heap.size) o (by omega); have f6_0 := fun o => hf6 (w1.heap.size) o (by omega); (try simp (disch := (first | rfl | omega | (simp only [sz_alloc, sz_drew, sz_set]; omega))) only [sz_alloc, sz_drew, sz_set, World.cell?_drew, World.frozen?_drew, World.cell?_alloc_at, World.cell?_alloc_past, World.frozen?_alloc_at, World.frozen?_alloc_past] at k6_0 f6_0); rw [HRA.out])
            | (go_at_call_of 70 (Value.int .u64 (b : Int)); refine (rank_c d E F hd b hb _).mono ?_; rintro e w7 ⟨rfl, hb7⟩; obtain ⟨hc7, hf7⟩ := bcell hb7; have hz7 := hb7.size; (try simp only [sz_alloc, sz_drew, sz_set] at hz7 hc7 hf7); have l7_0 : w1.heap.size < w7.heap.size := (by omega); have n7_0 : ¬ w1.heap.size = w7.heap.size := (by omega); have m7_0 : ¬ w7.heap.size = w1.heap.size := (by omega); have k7_0 := fun o => hc7 (w1.heap.size) o (by omega); have f7_0 := fun o => hf7 (w1.heap.size) o (by omega); (try simp (disch := (first | rfl | omega | (simp only [sz_alloc, sz_drew, sz_set]; omega))) only [sz_alloc, sz_drew, sz_set, World.cell?_drew, World.frozen?_drew, World.cell?_alloc_at, World.cell?_alloc_past, World.frozen?_alloc_at, World.frozen?_alloc_past] at k7_0 f7_0); rw [HRB.out]))
        all_goals go_wp2_with fail
        all_goals (refine (bits_c d E F hd a ha _).mono ?_; rintro e w8 ⟨rfl, hb8⟩)
        all_goals go_wp2_with fail
        all_goals go_ret2
        all_goals exact retL_mk (by rw [HQ.out]) (by rw [HF.out]) (by repeat (first | (with_reducible first | exact Below.refl _ _ | assumption | exact Nat.le_refl _ | refine Below.drew ?_ | refine Below.alloc ?_ ?_ _ | refine Below.setCell ?_ ?_ _ | refine le_alloc ?_ | refine le_set ?_ | refine le_drew ?_ | refine below_step (by assumption) ?_ ?_ | refine le_below (by assumption) ?_) | (dsimp only; omega)))
    · have HB := Lib.hid hnb; clear hnb
      have HQ : Hid (pickV 68 d a b = maskN d a) := by show pickV _ d a b = _; unfold pickV; rw [HA.out, HB.out, if_neg (by simp), if_neg (by simp), if_pos rfl]
      go_wp2_with fail
      refine (bits_c d E F hd a ha _).mono ?_; rintro e w8 ⟨rfl, hb8⟩
      go_wp2_with fail
      go_ret2
      exact retL_mk (by rw [HQ.out]) (by rw [HF.out]) (by repeat (first | (with_reducible first | exact Below.refl _ _ | assumption | exact Nat.le_refl _ | refine Below.drew ?_ | refine Below.alloc ?_ ?_ _ | refine Below.setCell ?_ ?_ _ | refine le_alloc ?_ | refine le_set ?_ | refine le_drew ?_ | refine below_step (by assumption) ?_ ?_ | refine le_below (by assumption) ?_) | (dsimp only; omega)))
  · have HA := Lib.hid hna; clear hna
    go_wp2_with fail
    refine (isNone_c d E F hd b hb _).mono ?_; rintro e w5 ⟨rfl, hb5⟩; obtain ⟨hc5, hf5⟩ := bcell hb5; have hz5 := hb5.size; (try simp only [sz_alloc, sz_drew, sz_set] at hz5 hc5 hf5); have l5_0 : w1.heap.size < w5.heap.size := (by omega); have n5_0 : ¬ w1.heap.size = w5.heap.size := (by omega); have m5_0 : ¬ w5.heap.size = w1.heap.size := (by omega); have k5_0 := fun o => hc5 (w1.heap.size) o (by omega); have f5_0 := fun o => hf5 (w1.heap.size) o (by omega); (try simp (disch := (first | rfl | omega | (simp only [sz_alloc, sz_drew, sz_set]; omega))) only [sz_alloc, sz_drew, sz_set, World.cell?_drew, World.frozen?_drew, World.cell?_alloc_at, World.cell?_alloc_past, World.frozen?_alloc_at, World.frozen?_alloc_past, hc3, hc2, hf3, hf2] at k5_0 f5_0)
    clear hc5 hf5
    cases hnb : noneV d b
    · have HB := Lib.hid hnb; clear hnb
      have HQ : Hid (pickV 68 d a b = maskN d b) := by show pickV _ d a b = _; unfold pickV; rw [HA.out, HB.out, if_neg (by simp), if_pos rfl]
      go_wp2_with fail
      refine (isNone_c d E F hd a ha _).mono ?_; rintro e w4 ⟨rfl, hb4⟩; obtain ⟨hc4, hf4⟩ := bcell hb4; have hz4 := hb4.size; (try simp only [sz_alloc, sz_drew, sz_set] at hz4 hc4 hf4); have l4_0 : w1.heap.size < w4.heap.size := (by omega); have n4_0 : ¬ w1.heap.size = w4.heap.size := (by omega); have m4_0 : ¬ w4.heap.size = w1.heap.size := (by omega); have k4_0 := fun o => hc4 (w1.heap.size) o (by omega); have f4_0 := fun o => hf4 (w1.heap.size) o (by omega); (try simp (disch := (first | rfl | omega | (simp only [sz_alloc, sz_drew, sz_set]; omega))) only [sz_alloc, sz_drew, sz_set, World.cell?_drew, World.frozen?_drew, World.cell?_alloc_at, World.cell?_alloc_past, World.frozen?_alloc_at, World.frozen?_alloc_past, hc5, hc3, hc2, hf5, hf3, hf2] at k4_0 f4_0)
      clear hc4 hf4
      rw [HA.out]
      go_wp2_with fail
      refine (bits_c d E F hd b hb _).mono ?_; rintro e w8 ⟨rfl, hb8⟩
      go_wp2_with fail
      go_ret2
      exact retL_mk (by rw [HQ.out]) (by rw [HF.out]) (by repeat (first | (with_reducible first | exact Below.refl _ _ | assumption | exact Nat.le_refl _ | refine Below.drew ?_ | refine Below.alloc ?_ ?_ _ | refine Below.setCell ?_ ?_ _ | refine le_alloc ?_ | refine le_set ?_ | refine le_drew ?_ | refine below_step (by assumption) ?_ ?_ | refine le_below (by assumption) ?_) | (dsimp only; omega)))
    · have HB := Lib.hid hnb; clear hnb
      have HQ : Hid (pickV 68 d a b = quietB d) := by show pickV _ d a b = _; unfold pickV; rw [HA.out, HB.out, if_pos ⟨rfl, rfl⟩]
      go_wp2_with fail
      refine (quiet_c d E F hd.out _).mono ?_; rintro e w8 ⟨rfl, hb8⟩
      go_wp2_with fail
      go_ret2
      exact retL_mk (by rw [HQ.out]) (by rw [HF.out]) (by repeat (first | (with_reducible first | exact Below.refl _ _ | assumption | exact Nat.le_refl _ | refine Below.drew ?_ | refine Below.alloc ?_ ?_ _ | refine Below.setCell ?_ ?_ _ | refine le_alloc ?_ | refine le_set ?_ | refine le_drew ?_ | refine below_step (by assumption) ?_ ?_ | refine le_below (by assumption) ?_) | (dsimp only; omega)))
end Go.Proofs.Yteinjalnkhfecaa
