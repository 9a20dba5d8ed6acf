/- The contract of Sqrt. -/
import Derived.Test.YthjdeopfbjmmeaaE4
namespace Go.Proofs.Ythjdeopfbjmmeaa
open Go.ChangeShapes Go.WideShapes Go.ChangeAt Go.RowKit
set_option linter.unusedVariables false
set_option linter.unusedSimpArgs false
/-- The float of a square root, as the code has it. -/
def sqrtF (d : Bool) (rm : Int) (M : Num) : Nat × Int :=
  if someV M.cls 0 then (quietB d, flagV M.cls 0)
  else if M.cls = 0 then (noughtV d M.minus, 0)
  else if M.minus = true then (quietB d, 16)
  else if M.cls = 2 then (infV d false, 0)
  else roundF d rm (rootN M)
theorem rootX_bd {M : Num} (h : FinR M) : rootX M ≠ 0 ∧ rootX M < 2 ^ 128 ∧ -10000 ≤ rootE M ∧ rootE M ≤ 10000 := by
  obtain ⟨a1, a2, a3, a4⟩ := h
  have c1 := blen_le M.mag 64 (by rw [← pow64]; exact a2)
  have R1 := raised_mag a1 (by decide : 127 ≤ 127) (by omega)
  have e1 : (raisedN M 127).exp = M.exp - (128 - (blen M.mag : Int)) := rfl
  unfold rootX rootE
  split <;> omega
theorem rootN_fin {M : Num} (h : FinR M) : FinC (rootN M) := by
  obtain ⟨h1, h2, h3, h4⟩ := rootX_bd h
  have q1 := isq_ne _ h2 h1
  have q2 := isq_lt _ h2
  have s : shl (isq (rootX M)) 1 = isq (rootX M) * 2 := by
    unfold shl; rw [Nat.mod_eq_of_lt (by omega)]
  have t := sticky_bd (shl (isq (rootX M)) 1) (!decide (isq (rootX M) * isq (rootX M) = rootX M))
  refine ⟨?_, ?_, ?_, ?_⟩
  · show stickyN _ _ ≠ 0; omega
  · show stickyN _ _ < _; omega
  · show _ ≤ rootE M / 2 - 1; omega
  · show rootE M / 2 - 1 ≤ _; omega
theorem sqrtF_of {d : Bool} {rm : Int} {M : Num} {ca : Int} {ma : Bool} (h1 : ca = M.cls) (h3 : ma = M.minus) (hs : someV ca 0 = false) :
    sqrtF d rm M = if ca = 0 then (noughtV d ma, 0) else if ma = true then (quietB d, 16) else if ca = 2 then (infV d false, 0) else roundF d rm (rootN M) := by
  unfold sqrtF
  rw [← h1, hs, h3]
  simp only [Bool.false_eq_true, if_false]
  have e2 : M.cls = 0 ↔ ca = 0 := by omega
  have e4 : M.cls = 2 ↔ ca = 2 := by omega
  simp only [e2, e4]
set_option maxRecDepth 100000 in
set_option maxHeartbeats 8000000 in
theorem Sqrt_c (sz : Int) (d : Bool) (hsz : Hid (sz = if d then 8 else 4)) (rm : Int) (h5 : 0 ≤ rm) (h3 : rm < 5) (a : Nat) (ha : Hid (a < 18446744073709551616)) (w : World) :
    Calls Try.prog 21 #[.int .i64 sz, .int .i64 rm, .int .u64 a] w (RetP (sqrtF d rm (readN d a)) w) := by
  go_enter Try.func21, Try.ntmps21
  go_wp2_with fail
  refine (layoutOf_s sz d hsz rm h5 h3 _).mono ?_
  rintro e w1 ⟨E, F, rfl, hd, hb1⟩
  obtain ⟨hc1, hf1⟩ := bcell hb1; have hz1 := hb1.size; (try simp only [sz_alloc, sz_drew, sz_set] at hz1 hc1 hf1)
  clear hc1 hf1
  go_wp2_with fail
  refine (read_c d E F hd a ha _).mono ?_
  rintro e w2 ⟨ca, ma, xa, h1, l1, rfl, hIa, hb2⟩
  obtain ⟨hc2, hf2⟩ := bcell hb2; have hz2 := hb2.size; (try simp only [sz_alloc, sz_drew, sz_set] at hz2 hc2 hf2); have l2_0 : w1.heap.size < w2.heap.size := (by omega); have n2_0 : ¬ w1.heap.size = w2.heap.size := (by omega); have m2_0 : ¬ w2.heap.size = w1.heap.size := (by omega); have k2_0 := fun o => hc2 (w1.heap.size) o (by omega); have f2_0 := fun o => hf2 (w1.heap.size) o (by omega); (try simp (disch := (first | rfl | omega | (simp only [sz_alloc, sz_drew, sz_set]; omega))) only [sz_alloc, sz_drew, sz_set, World.cell?_drew, World.frozen?_drew, World.cell?_alloc_at, World.cell?_alloc_past, World.frozen?_alloc_at, World.frozen?_alloc_past] at k2_0 f2_0)
  clear hc2 hf2
  have A1 := Lib.hid (readN_finR d a)
  have L1 := Lib.hid (readN_cls d a)
  have hca : Hid (ca = (readN d a).cls) := hIa.out.1
  have hma : Hid (ma = (readN d a).minus) := hIa.out.2.1
  generalize readN d a = M at *
  go_wp2_with fail
  refine (noNumbers_1 ca ma xa h1 l1 _ (w2.heap.size + 1) (by simp only [sz_alloc]; omega) (fun o => World.cell?_alloc_at _ _ _ _ (by simp only [sz_alloc]))).mono ?_
  rintro e w4 ⟨rfl, hb4⟩
  obtain ⟨hc4, hf4⟩ := bcell hb4; have hz4 := hb4.size; (try simp only [sz_alloc, sz_drew, sz_set] at hz4 hc4 hf4); have l4_0 : w1.heap.size < w4.heap.size := (by omega); have n4_0 : ¬ w1.heap.size = w4.heap.size := (by omega); have m4_0 : ¬ w4.heap.size = w1.heap.size := (by omega); have k4_0 := fun o => hc4 (w1.heap.size) o (by omega); have f4_0 := fun o => hf4 (w1.heap.size) o (by omega); (try simp (disch := (first | rfl | omega | (simp only [sz_alloc, sz_drew, sz_set]; omega))) only [sz_alloc, sz_drew, sz_set, World.cell?_drew, World.frozen?_drew, World.cell?_alloc_at, World.cell?_alloc_past, World.frozen?_alloc_at, World.frozen?_alloc_past, hc2, hf2] at k4_0 f4_0); have l4_1 : w2.heap.size < w4.heap.size := (by omega); have n4_1 : ¬ w2.heap.size = w4.heap.size := (by omega); have m4_1 : ¬ w4.heap.size = w2.heap.size := (by omega); have k4_1 := fun o => hc4 (w2.heap.size) o (by omega); have f4_1 := fun o => hf4 (w2.heap.size) o (by omega); (try simp (disch := (first | rfl | omega | (simp only [sz_alloc, sz_drew, sz_set]; omega))) only [sz_alloc, sz_drew, sz_set, World.cell?_drew, World.frozen?_drew, World.cell?_alloc_at, World.cell?_alloc_past, World.frozen?_alloc_at, World.frozen?_alloc_past, hc2, hf2] at k4_1 f4_1)
  clear hc4 hf4
  by_cases hsv : someV ca 0 = true
  · have HT : Hid (sqrtF d rm M = (quietB d, flagV ca 0)) := by show _ = _; unfold sqrtF; rw [← hca.out, if_pos hsv]
    rw [hsv]
    generalize flagV ca 0 = fl at *
    clear hsv
    go_wp2_with fail
    refine (quiet_c d E F hd.out _).mono ?_
    rintro e w5 ⟨rfl, hb5⟩
    go_wp2_with fail
    go_ret2
    exact retP_mk (by rw [HT.out]) (by rw [HT.out]) (by repeat (first | (with_reducible first | exact Below.refl _ _ | assumption | exact Nat.le_refl _ | refine Below.drew ?_ | refine Below.alloc ?_ ?_ _ | refine Below.setCell ?_ ?_ _ | refine le_alloc ?_ | refine le_set ?_ | refine le_drew ?_ | refine below_step (by assumption) ?_ ?_ | refine le_below (by assumption) ?_) | (dsimp only; omega)))
  · have hsv2 : someV ca 0 = false := Bool.eq_false_iff.2 hsv
    have hlo : (ca = 0 ∨ ca = 1 ∨ ca = 2) := by
      have h1 := of_decide_eq_false hsv2; have h2 := L1.out; have h4 := hca.out
      omega
    have HT0 : Hid (sqrtF d rm M = if ca = 0 then (noughtV d ma, 0) else if ma = true then (quietB d, 16) else if ca = 2 then (infV d false, 0) else roundF d rm (rootN M)) := by
      show _ = _; exact sqrtF_of hca.out hma.out hsv2
    rw [hsv2]
    generalize flagV ca 0 = fl
    clear hsv hsv2
    rcases hlo with rfl | rfl | rfl <;> cases ma
    all_goals go_wp2_with fail
    · have HT : Hid (sqrtF d rm M = (noughtV d false, 0)) := by show _ = _; rw [HT0.out]; simp
      refine (nought_c d E F hd.out _ _).mono ?_
      rintro e w5 ⟨rfl, hb5⟩
      go_wp2_with fail
      go_ret2
      exact retP_mk (by rw [HT.out]) (by rw [HT.out]) (by repeat (first | (with_reducible first | exact Below.refl _ _ | assumption | exact Nat.le_refl _ | refine Below.drew ?_ | refine Below.alloc ?_ ?_ _ | refine Below.setCell ?_ ?_ _ | refine le_alloc ?_ | refine le_set ?_ | refine le_drew ?_ | refine below_step (by assumption) ?_ ?_ | refine le_below (by assumption) ?_) | (dsimp only; omega)))
    · have HT : Hid (sqrtF d rm M = (noughtV d true, 0)) := by show _ = _; rw [HT0.out]; simp
      refine (nought_c d E F hd.out _ _).mono ?_
      rintro e w5 ⟨rfl, hb5⟩
      go_wp2_with fail
      go_ret2
      exact retP_mk (by rw [HT.out]) (by rw [HT.out]) (by repeat (first | (with_reducible first | exact Below.refl _ _ | assumption | exact Nat.le_refl _ | refine Below.drew ?_ | refine Below.alloc ?_ ?_ _ | refine Below.setCell ?_ ?_ _ | refine le_alloc ?_ | refine le_set ?_ | refine le_drew ?_ | refine below_step (by assumption) ?_ ?_ | refine le_below (by assumption) ?_) | (dsimp only; omega)))
    · have HT : Hid (sqrtF d rm M = roundF d rm (rootN M)) := by show _ = _; rw [HT0.out]; simp
      have f1 := Lib.hid (A1.out (by have := hca.out; omega))
      have x1 : -10000 ≤ xa := by have := f1.out.2.2.1; have := hIa.out.2.2.1; omega
      have x2 : xa ≤ 10000 := by have := f1.out.2.2.2; have := hIa.out.2.2.1; omega
      have z1 : Hid (M.mag ≠ 0) := f1.out.1
      have y1 : Hid ((blen M.mag : Int) ≤ 127 + 1) := by have := blen_int (k := 64) (by rw [← pow64]; exact f1.out.2.1); show _ ≤ _; omega
      have HF : Hid (FinC (rootN M)) := rootN_fin f1.out
      clear A1
      go_region_held3 (fun w' => w'.cell? ⟨w1.heap.size, 0, none⟩ = some (.int .i64 E) ∧ w'.cell? ⟨w1.heap.size, 1, none⟩ = some (.int .i64 F) ∧ w'.cell? ⟨w2.heap.size, 0, none⟩ = some (.int .i64 1) ∧ w'.cell? ⟨w2.heap.size, 1, none⟩ = some (.bool false) ∧ w'.cell? ⟨w2.heap.size, 2, none⟩ = some (.int .i64 xa) ∧ w'.cell? ⟨w2.heap.size, 3, none⟩ = some (.int .u64 h1) ∧ w'.cell? ⟨w2.heap.size, 4, none⟩ = some (.int .u64 l1)) (all_goals (first | (go_keep; done) | (simp (disch := omega) only [cell_set_far]; simp [*])))
        (first
          | (go_at_call 57; refine (root_c 1 false xa h1 l1 M hIa x1 x2 z1 y1 _).mono ?_; rintro e w5 ⟨cp, mp, xp, h5', l5, rfl, hIp, hb5⟩; obtain ⟨hc5, hf5⟩ := bcell hb5; have hz5 := hb5.size; (try simp only [sz_alloc, sz_drew, sz_set] at hz5 hc5 hf5); have l5_0 : w1.heap.size < w5.heap.size := (by omega); have n5_0 : ¬ w1.heap.size = w5.heap.size := (by omega); have m5_0 : ¬ w5.heap.size = w1.heap.size := (by omega); have k5_0 := fun o => hc5 (w1.heap.size) o (by omega); have f5_0 := fun o => hf5 (w1.heap.size) o (by omega); (try simp (disch := (first | rfl | omega | (simp only [sz_alloc, sz_drew, sz_set]; omega))) only [sz_alloc, sz_drew, sz_set, World.cell?_drew, World.frozen?_drew, World.cell?_alloc_at, World.cell?_alloc_past, World.frozen?_alloc_at, World.frozen?_alloc_past] at k5_0 f5_0); have l5_1 : w2.heap.size < w5.heap.size := (by omega); have n5_1 : ¬ w2.heap.size = w5.heap.size := (by omega); have m5_1 : ¬ w5.heap.size = w2.heap.size := (by omega); have k5_1 := fun o => hc5 (w2.heap.size) o (by omega); have f5_1 := fun o => hf5 (w2.heap.size) o (by omega); (try simp (disch := (first | rfl | omega | (simp only [sz_alloc, sz_drew, sz_set]; omega))) only [sz_alloc, sz_drew, sz_set, World.cell?_drew, World.frozen?_drew, World.cell?_alloc_at, World.cell?_alloc_past, World.frozen?_alloc_at, World.frozen?_alloc_past] at k5_1 f5_1))
          | (go_at_call 53; refine (round_c d E F hd.out rm cp mp xp h5' l5 _ hIp HF _).mono ?_; rintro e w6 ⟨rfl, hb6⟩; obtain ⟨hc6, hf6⟩ := bcell hb6; have hz6 := hb6.size; (try simp only [sz_alloc, sz_drew, sz_set] at hz6 hc6 hf6); have l6_0 : w1.heap.size < w6.heap.size := (by omega); have n6_0 : ¬ w1.heap.size = w6.heap.size := (by omega); have m6_0 : ¬ w6.heap.size = w1.heap.size := (by omega); have k6_0 := fun o => hc6 (w1.heap.size) o (by omega); have f6_0 := fun o => hf6 (w1.heap.size) o (by omega); (try simp (disch := (first | rfl | omega | (simp only [sz_alloc, sz_drew, sz_set]; omega))) only [sz_alloc, sz_drew, sz_set, World.cell?_drew, World.frozen?_drew, World.cell?_alloc_at, World.cell?_alloc_past, World.frozen?_alloc_at, World.frozen?_alloc_past] at k6_0 f6_0); have l6_1 : w2.heap.size < w6.heap.size := (by omega); have n6_1 : ¬ w2.heap.size = w6.heap.size := (by omega); have m6_1 : ¬ w6.heap.size = w2.heap.size := (by omega); have k6_1 := fun o => hc6 (w2.heap.size) o (by omega); have f6_1 := fun o => hf6 (w2.heap.size) o (by omega); (try simp (disch := (first | rfl | omega | (simp only [sz_alloc, sz_drew, sz_set]; omega))) only [sz_alloc, sz_drew, sz_set, World.cell?_drew, World.frozen?_drew, World.cell?_alloc_at, World.cell?_alloc_past, World.frozen?_alloc_at, World.frozen?_alloc_past] at k6_1 f6_1)))
      all_goals generalize hr : roundF d rm (rootN M) = r
      all_goals have HR := Lib.hid hr
      all_goals clear hr
      all_goals go_wp2_with fail
      all_goals go_ret2
      all_goals exact retP_mk (by rw [HT.out, HR.out]) (by rw [HT.out, HR.out]) (by repeat (first | (with_reducible first | exact Below.refl _ _ | assumption | exact Nat.le_refl _ | refine Below.drew ?_ | refine Below.alloc ?_ ?_ _ | refine Below.setCell ?_ ?_ _ | refine le_alloc ?_ | refine le_set ?_ | refine le_drew ?_ | refine below_step (by assumption) ?_ ?_ | refine le_below (by assumption) ?_) | (dsimp only; omega)))
    · have HT : Hid (sqrtF d rm M = (quietB d, 16)) := by show _ = _; rw [HT0.out]; simp
      refine (quiet_c d E F hd.out _).mono ?_
      rintro e w5 ⟨rfl, hb5⟩
      go_wp2_with fail
      go_ret2
      exact retP_mk (by rw [HT.out]) (by rw [HT.out]) (by repeat (first | (with_reducible first | exact Below.refl _ _ | assumption | exact Nat.le_refl _ | refine Below.drew ?_ | refine Below.alloc ?_ ?_ _ | refine Below.setCell ?_ ?_ _ | refine le_alloc ?_ | refine le_set ?_ | refine le_drew ?_ | refine below_step (by assumption) ?_ ?_ | refine le_below (by assumption) ?_) | (dsimp only; omega)))
    · have HT : Hid (sqrtF d rm M = (infV d false, 0)) := by show _ = _; rw [HT0.out]; simp
      refine (infinity_c d E F hd.out _ _).mono ?_
      rintro e w5 ⟨rfl, hb5⟩
      go_wp2_with fail
      go_ret2
      exact retP_mk (by rw [HT.out]) (by rw [HT.out]) (by repeat (first | (with_reducible first | exact Below.refl _ _ | assumption | exact Nat.le_refl _ | refine Below.drew ?_ | refine Below.alloc ?_ ?_ _ | refine Below.setCell ?_ ?_ _ | refine le_alloc ?_ | refine le_set ?_ | refine le_drew ?_ | refine below_step (by assumption) ?_ ?_ | refine le_below (by assumption) ?_) | (dsimp only; omega)))
    · have HT : Hid (sqrtF d rm M = (quietB d, 16)) := by show _ = _; rw [HT0.out]; simp
      refine (quiet_c d E F hd.out _).mono ?_
      rintro e w5 ⟨rfl, hb5⟩
      go_wp2_with fail
      go_ret2
      exact retP_mk (by rw [HT.out]) (by rw [HT.out]) (by repeat (first | (with_reducible first | exact Below.refl _ _ | assumption | exact Nat.le_refl _ | refine Below.drew ?_ | refine Below.alloc ?_ ?_ _ | refine Below.setCell ?_ ?_ _ | refine le_alloc ?_ | refine le_set ?_ | refine le_drew ?_ | refine below_step (by assumption) ?_ ?_ | refine le_below (by assumption) ?_) | (dsimp only; omega)))
end Go.Proofs.Ythjdeopfbjmmeaa
