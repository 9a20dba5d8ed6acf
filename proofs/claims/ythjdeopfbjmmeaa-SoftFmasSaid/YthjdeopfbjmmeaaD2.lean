/- The contracts of Add, Sub, Mul and Fma. -/
import Derived.Test.YthjdeopfbjmmeaaD1
namespace Go.Proofs.Ythjdeopfbjmmeaa
open Go.ChangeShapes Go.WideShapes Go.ChangeAt Go.RowKit
set_option linter.unusedVariables false
set_option linter.unusedSimpArgs false
theorem layoutOf_s (sz : Int) (d : Bool) (hsz : Hid (sz = if d then 8 else 4)) (rm : Int) (h5 : 0 ≤ rm) (h3 : rm < 5) (w : World) :
    Calls Try.prog 33 #[.int .i64 sz, .int .i64 rm] w (fun e w' => ∃ E F : Int, e = .returned (.tuple #[.agg #[.int .i64 E, .int .i64 F], .bool true]) ∧ Hid (Lay d E F) ∧ Below w.heap.size w w') := by
  rw [hsz.out]; exact layoutOf_c d rm h5 h3 w
theorem read_c (d : Bool) (E F : Int) (hd : Hid (Lay d E F)) (a : Nat) (ha : Hid (a < 18446744073709551616)) (w : World) :
    Calls Try.prog 35 #[.agg #[.int .i64 E, .int .i64 F], .int .u64 a] w (RetN (readN d a) w) := by
  rcases hd.out with ⟨rfl, rfl, rfl⟩ | ⟨rfl, rfl, rfl⟩
  · exact read_f a ha w
  · exact read_t a ha w
theorem readN_cls (d : Bool) (a : Nat) : (readN d a).cls ≤ 4 := by
  unfold readN
  simp only
  split
  · simp only; unfold classV; (repeat' split) <;> decide
  · (repeat' split) <;> simp
theorem fracT_pos (d : Bool) : 0 < fracT d := by cases d <;> decide
theorem readN_fin (d : Bool) (a : Nat) (h : (readN d a).cls = 1) : (readN d a).mag ≠ 0 ∧ (readN d a).mag < 2 * fracT d ∧ -1074 ≤ (readN d a).exp ∧ (readN d a).exp ≤ 971 := by
  have hfr : a % fracT d < fracT d := Nat.mod_lt _ (fracT_pos d)
  have hfd : a / fracT d % expT d < expT d := Nat.mod_lt _ (by cases d <;> decide)
  unfold readN at h ⊢
  generalize a % fracT d = fr at *
  generalize a / fracT d % expT d = fd at *
  simp only at h ⊢
  by_cases h1 : fd = expT d - 1
  · rw [if_pos h1] at h
    exfalso; revert h; simp only; unfold classV; (repeat' split) <;> decide
  · rw [if_neg h1] at h ⊢
    by_cases h2 : fd ≠ 0
    · rw [if_pos h2]; simp only
      cases d
      · simp only [expT, bias, fb, fracT, Bool.false_eq_true, if_false] at *; omega
      · simp only [expT, bias, fb, fracT, if_true] at *; omega
    · rw [if_neg h2] at h ⊢
      by_cases h3 : fr ≠ 0
      · rw [if_pos h3]; simp only
        cases d
        · simp only [expT, bias, fb, fracT, Bool.false_eq_true, if_false] at *; omega
        · simp only [expT, bias, fb, fracT, if_true] at *; omega
      · rw [if_neg h3] at h; simp at h
theorem readN_finB (d : Bool) (a : Nat) (h : (readN d a).cls = 1) : FinB (readN d a) := by
  obtain ⟨h1, h2, h3, h4⟩ := readN_fin d a h
  have : 2 * fracT d ≤ 2 ^ 64 := by cases d <;> decide
  exact ⟨h1, by omega, by omega, by omega⟩
set_option maxHeartbeats 2000000 in
theorem Add_c (sz : Int) (d : Bool) (hsz : Hid (sz = if d then 8 else 4)) (rm : Int) (h5 : 0 ≤ rm) (h3 : rm < 5) (a b : Nat) (ha : Hid (a < 18446744073709551616)) (hb : Hid (b < 18446744073709551616)) (w : World) :
    Calls Try.prog 13 #[.int .i64 sz, .int .i64 rm, .int .u64 a, .int .u64 b] w (RetP (sumF d rm (readN d a) (readN d b)) w) := by
  have hcl : Hid ((readN d a).cls ≤ 4 ∧ (readN d b).cls ≤ 4) := ⟨readN_cls d a, readN_cls d b⟩
  go_enter Try.func13, Try.ntmps13
  go_wp2_with fail
  refine (layoutOf_s sz d hsz rm h5 h3 _).mono ?_
  rintro e w1 ⟨E, F, rfl, hd, hb1⟩
  obtain ⟨hc1, hf1⟩ := bcell hb1; have hz1 := hb1.size; (try simp only [sz_alloc, sz_drew, sz_set] at hz1 hc1 hf1)
  go_wp2_with fail
  go_region_held3 (fun w' => w'.cell? ⟨w1.heap.size, 0, none⟩ = some (.int .i64 E) ∧ w'.cell? ⟨w1.heap.size, 1, none⟩ = some (.int .i64 F)) (all_goals (first | (go_keep; done) | (simp (disch := omega) only [cell_set_far]; simp [*])))
    (first
      | (go_at_call_of 35 (Value.int .u64 (a : Int)); refine (read_c d E F hd a ha _).mono ?_; rintro e w2 ⟨ca, ma, xa, h1, l1, rfl, hIa, hb2⟩; obtain ⟨hc2, hf2⟩ := bcell hb2; have hz2 := hb2.size; (try simp only [sz_alloc, sz_drew, sz_set] at hz2 hc2 hf2); have l2_0 : w1.heap.size < w2.heap.size := (by omega); have n2_0 : ¬ w1.heap.size = w2.heap.size := (by omega); have m2_0 : ¬ w2.heap.size = w1.heap.size := (by omega); have k2_0 := fun o => hc2 (w1.heap.size) o (by omega); have f2_0 := fun o => hf2 (w1.heap.size) o (by omega); (try simp (disch := (first | rfl | omega | (simp only [sz_alloc, sz_drew, sz_set]; omega))) only [sz_alloc, sz_drew, sz_set, World.cell?_drew, World.frozen?_drew, World.cell?_alloc_at, World.cell?_alloc_past, World.frozen?_alloc_at, World.frozen?_alloc_past] at k2_0 f2_0))
      | (go_at_call_of 35 (Value.int .u64 (b : Int)); refine (read_c d E F hd b hb _).mono ?_; rintro e w3 ⟨cb, mb, xb, h2, l2, rfl, hIb, hb3⟩; obtain ⟨hc3, hf3⟩ := bcell hb3; have hz3 := hb3.size; (try simp only [sz_alloc, sz_drew, sz_set] at hz3 hc3 hf3); have l3_0 : w1.heap.size < w3.heap.size := (by omega); have n3_0 : ¬ w1.heap.size = w3.heap.size := (by omega); have m3_0 : ¬ w3.heap.size = w1.heap.size := (by omega); have k3_0 := fun o => hc3 (w1.heap.size) o (by omega); have f3_0 := fun o => hf3 (w1.heap.size) o (by omega); (try simp (disch := (first | rfl | omega | (simp only [sz_alloc, sz_drew, sz_set]; omega))) only [sz_alloc, sz_drew, sz_set, World.cell?_drew, World.frozen?_drew, World.cell?_alloc_at, World.cell?_alloc_past, World.frozen?_alloc_at, World.frozen?_alloc_past] at k3_0 f3_0))
      | (go_at_call 34; refine (sum_c d E F hd.out rm _ _ _ _ _ _ hIa _ _ _ _ _ _ hIb hcl (readN_finB d a) (readN_finB d b) _).mono ?_; rintro e w4 ⟨rfl, hb4⟩; obtain ⟨hc4, hf4⟩ := bcell hb4; have hz4 := hb4.size; (try simp only [sz_alloc, sz_drew, sz_set] at hz4 hc4 hf4); have l4_0 : w1.heap.size < w4.heap.size := (by omega); have n4_0 : ¬ w1.heap.size = w4.heap.size := (by omega); have m4_0 : ¬ w4.heap.size = w1.heap.size := (by omega); have k4_0 := fun o => hc4 (w1.heap.size) o (by omega); have f4_0 := fun o => hf4 (w1.heap.size) o (by omega); (try simp (disch := (first | rfl | omega | (simp only [sz_alloc, sz_drew, sz_set]; omega))) only [sz_alloc, sz_drew, sz_set, World.cell?_drew, World.frozen?_drew, World.cell?_alloc_at, World.cell?_alloc_past, World.frozen?_alloc_at, World.frozen?_alloc_past] at k4_0 f4_0)))
  all_goals generalize hr : sumF d rm (readN d a) (readN d b) = r
  all_goals have HR := Lib.hid hr
  all_goals clear hr
  all_goals go_wp2_with fail
  all_goals go_ret2
  all_goals exact retP_mk (by rw [HR.out]) (by rw [HR.out]) (by repeat (first | (with_reducible first | exact Below.refl _ _ | assumption | exact Nat.le_refl _ | refine Below.drew ?_ | refine Below.alloc ?_ ?_ _ | refine Below.setCell ?_ ?_ _ | refine le_alloc ?_ | refine le_set ?_ | refine le_drew ?_ | refine below_step (by assumption) ?_ ?_ | refine le_below (by assumption) ?_) | (dsimp only; omega)))
def xorB (d : Bool) (b : Nat) : Nat := b ^^^ signB d
theorem signB_lt (d : Bool) : signB d < 18446744073709551616 := by cases d <;> decide
theorem xorB_lt {d : Bool} {b : Nat} (h : b < 18446744073709551616) : xorB d b < 18446744073709551616 := by
  unfold xorB; rw [pow64] at *; exact Nat.xor_lt_two_pow h (by rw [← pow64]; exact signB_lt d)
set_option maxHeartbeats 2000000 in
theorem Sub_c (sz : Int) (d : Bool) (hsz : Hid (sz = if d then 8 else 4)) (rm : Int) (h5 : 0 ≤ rm) (h3 : rm < 5) (a b : Nat) (ha : Hid (a < 18446744073709551616)) (hb : Hid (b < 18446744073709551616)) (w : World) :
    Calls Try.prog 15 #[.int .i64 sz, .int .i64 rm, .int .u64 a, .int .u64 b] w (RetP (sumF d rm (readN d a) (readN d (xorB d b))) w) := by
  have hcl : Hid ((readN d a).cls ≤ 4 ∧ (readN d (xorB d b)).cls ≤ 4) := ⟨readN_cls d a, readN_cls d _⟩
  have hX : bits .xor .u64 (b : Int) (signB d : Int) = (xorB d b : Int) := u64_xor_nat b (signB d) hb.out (signB_lt d)
  have hb2 : Hid (xorB d b < 18446744073709551616) := xorB_lt hb.out
  go_enter Try.func15, Try.ntmps15
  go_wp2_with fail
  refine (layoutOf_s sz d hsz rm h5 h3 _).mono ?_
  rintro e w1 ⟨E, F, rfl, hd, hb1⟩
  obtain ⟨hc1, hf1⟩ := bcell hb1; have hz1 := hb1.size; (try simp only [sz_alloc, sz_drew, sz_set] at hz1 hc1 hf1)
  go_wp2_with fail
  go_region_held3 (fun w' => w'.cell? ⟨w1.heap.size, 0, none⟩ = some (.int .i64 E) ∧ w'.cell? ⟨w1.heap.size, 1, none⟩ = some (.int .i64 F)) (all_goals (first | (go_keep; done) | (simp (disch := omega) only [cell_set_far]; simp [*])))
    (first
      | (go_at_call_of 35 (Value.int .u64 (a : Int)); refine (read_c d E F hd a ha _).mono ?_; rintro e w2 ⟨ca, ma, xa, h1, l1, rfl, hIa, hbb2⟩; obtain ⟨hc2, hf2⟩ := bcell hbb2; have hz2 := hbb2.size; (try simp only [sz_alloc, sz_drew, sz_set] at hz2 hc2 hf2); have l2_0 : w1.heap.size < w2.heap.size := (by omega); have n2_0 : ¬ w1.heap.size = w2.heap.size := (by omega); have m2_0 : ¬ w2.heap.size = w1.heap.size := (by omega); have k2_0 := fun o => hc2 (w1.heap.size) o (by omega); have f2_0 := fun o => hf2 (w1.heap.size) o (by omega); (try simp (disch := (first | rfl | omega | (simp only [sz_alloc, sz_drew, sz_set]; omega))) only [sz_alloc, sz_drew, sz_set, World.cell?_drew, World.frozen?_drew, World.cell?_alloc_at, World.cell?_alloc_past, World.frozen?_alloc_at, World.frozen?_alloc_past] at k2_0 f2_0))
      | (go_at_call_of 35 (Value.int .u64 (xorB d b : Int)); refine (read_c d E F hd (xorB d b) hb2 _).mono ?_; rintro e w3 ⟨cb, mb, xb, h2, l2, rfl, hIb, hb3⟩; obtain ⟨hc3, hf3⟩ := bcell hb3; have hz3 := hb3.size; (try simp only [sz_alloc, sz_drew, sz_set] at hz3 hc3 hf3); have l3_0 : w1.heap.size < w3.heap.size := (by omega); have n3_0 : ¬ w1.heap.size = w3.heap.size := (by omega); have m3_0 : ¬ w3.heap.size = w1.heap.size := (by omega); have k3_0 := fun o => hc3 (w1.heap.size) o (by omega); have f3_0 := fun o => hf3 (w1.heap.size) o (by omega); (try simp (disch := (first | rfl | omega | (simp only [sz_alloc, sz_drew, sz_set]; omega))) only [sz_alloc, sz_drew, sz_set, World.cell?_drew, World.frozen?_drew, World.cell?_alloc_at, World.cell?_alloc_past, World.frozen?_alloc_at, World.frozen?_alloc_past] at k3_0 f3_0))
      | (go_at_call 41; refine (sign_c d E F hd.out _).mono ?_; rintro e w5 ⟨rfl, hb5⟩; obtain ⟨hc5, hf5⟩ := bcell hb5; have hz5 := hb5.size; (try simp only [sz_alloc, sz_drew, sz_set] at hz5 hc5 hf5); have l5_0 : w1.heap.size < w5.heap.size := (by omega); have n5_0 : ¬ w1.heap.size = w5.heap.size := (by omega); have m5_0 : ¬ w5.heap.size = w1.heap.size := (by omega); have k5_0 := fun o => hc5 (w1.heap.size) o (by omega); have f5_0 := fun o => hf5 (w1.heap.size) o (by omega); (try simp (disch := (first | rfl | omega | (simp only [sz_alloc, sz_drew, sz_set]; omega))) only [sz_alloc, sz_drew, sz_set, World.cell?_drew, World.frozen?_drew, World.cell?_alloc_at, World.cell?_alloc_past, World.frozen?_alloc_at, World.frozen?_alloc_past] at k5_0 f5_0))
      | (go_at_call 34; refine (sum_c d E F hd.out rm _ _ _ _ _ _ hIa _ _ _ _ _ _ hIb hcl (readN_finB d a) (readN_finB d _) _).mono ?_; rintro e w4 ⟨rfl, hb4⟩; obtain ⟨hc4, hf4⟩ := bcell hb4; have hz4 := hb4.size; (try simp only [sz_alloc, sz_drew, sz_set] at hz4 hc4 hf4); have l4_0 : w1.heap.size < w4.heap.size := (by omega); have n4_0 : ¬ w1.heap.size = w4.heap.size := (by omega); have m4_0 : ¬ w4.heap.size = w1.heap.size := (by omega); have k4_0 := fun o => hc4 (w1.heap.size) o (by omega); have f4_0 := fun o => hf4 (w1.heap.size) o (by omega); (try simp (disch := (first | rfl | omega | (simp only [sz_alloc, sz_drew, sz_set]; omega))) only [sz_alloc, sz_drew, sz_set, World.cell?_drew, World.frozen?_drew, World.cell?_alloc_at, World.cell?_alloc_past, World.frozen?_alloc_at, World.frozen?_alloc_past] at k4_0 f4_0)))
  all_goals generalize hr : sumF d rm (readN d a) (readN d (xorB d b)) = r
  all_goals have HR := Lib.hid hr
  all_goals clear hr
  all_goals go_wp2_with fail
  all_goals go_ret2
  all_goals exact retP_mk (by rw [HR.out]) (by rw [HR.out]) (by repeat (first | (with_reducible first | exact Below.refl _ _ | assumption | exact Nat.le_refl _ | refine Below.drew ?_ | refine Below.alloc ?_ ?_ _ | refine Below.setCell ?_ ?_ _ | refine le_alloc ?_ | refine le_set ?_ | refine le_drew ?_ | refine below_step (by assumption) ?_ ?_ | refine le_below (by assumption) ?_) | (dsimp only; omega)))
end Go.Proofs.Ythjdeopfbjmmeaa
