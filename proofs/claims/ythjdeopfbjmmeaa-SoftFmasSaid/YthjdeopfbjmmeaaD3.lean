/- The contracts of Mul and Fma. -/
import Derived.Test.YthjdeopfbjmmeaaD2
namespace Go.Proofs.Ythjdeopfbjmmeaa
open Go.ChangeShapes Go.WideShapes Go.ChangeAt Go.RowKit
set_option linter.unusedVariables false
set_option linter.unusedSimpArgs false
/-- The float of a product, as the code has it. -/
def mulF (d : Bool) (rm : Int) (M N : Num) : Nat × Int :=
  if M.cls = 0 ∧ N.cls = 2 ∨ M.cls = 2 ∧ N.cls = 0 then (quietB d, 16)
  else if someV (productN M N).cls 0 then (quietB d, flagV (productN M N).cls 0)
  else writeF d rm (productN M N)
theorem readN_all (d : Bool) (a : Nat) : (readN d a).mag < 18446744073709551616 ∧ -1074 ≤ (readN d a).exp ∧ (readN d a).exp ≤ 971 := by
  by_cases h : (readN d a).cls = 1
  · obtain ⟨h1, h2, h3, h4⟩ := readN_fin d a h
    have : 2 * fracT d ≤ 18446744073709551616 := by cases d <;> decide
    exact ⟨by omega, h3, h4⟩
  · have : (readN d a).mag = 0 ∧ (readN d a).exp = 0 := by
      unfold readN at h ⊢
      simp only at h ⊢
      (repeat' split) <;> simp_all
    omega
theorem productN_cls {M N : Num} (h1 : M.cls ≤ 4) (h2 : N.cls ≤ 4) : (productN M N).cls ≤ 4 := by
  unfold productN
  split
  · simp only; omega
  · split <;> simp
theorem productN_fin {M N : Num} (h1 : M.cls = 1 → FinB M) (h2 : N.cls = 1 → FinB N) (m1 : M.mag < 18446744073709551616) (m2 : N.mag < 18446744073709551616) (h : (productN M N).cls = 1) : FinC (productN M N) := by
  unfold productN at h ⊢
  by_cases g1 : 2 ≤ M.cls ∨ 2 ≤ N.cls
  · rw [if_pos g1] at h; simp only at h; exfalso; omega
  · rw [if_neg g1] at h ⊢
    by_cases g2 : M.cls = 1 ∧ N.cls = 1
    · rw [if_pos g2]
      obtain ⟨a1, -, a3, a4⟩ := h1 g2.1
      obtain ⟨b1, -, b3, b4⟩ := h2 g2.2
      refine ⟨Nat.mul_ne_zero a1 b1, ?_, by simp only; omega, by simp only; omega⟩
      exact Nat.lt_of_lt_of_le (Nat.mul_lt_mul'' m1 m2) (by decide)
    · rw [if_neg g2] at h; simp at h
set_option maxRecDepth 100000 in
set_option maxHeartbeats 8000000 in
theorem Mul_c (sz : Int) (d : Bool) (hsz : Hid (sz = if d then 8 else 4)) (rm : Int) (h5 : 0 ≤ rm) (h3 : rm < 5) (a b : Nat) (ha : Hid (a < 18446744073709551616)) (hb : Hid (b < 18446744073709551616)) (w : World) :
    Calls Try.prog 17 #[.int .i64 sz, .int .i64 rm, .int .u64 a, .int .u64 b] w (RetP (mulF d rm (readN d a) (readN d b)) w) := by
  go_enter Try.func17, Try.ntmps17
  go_wp2_with fail
  refine (layoutOf_s sz d hsz rm h5 h3 _).mono ?_
  rintro e w1 ⟨E, F, rfl, hd, hb1⟩
  obtain ⟨hc1, hf1⟩ := bcell hb1; have hz1 := hb1.size; (try simp only [sz_alloc, sz_drew, sz_set] at hz1 hc1 hf1)
  clear hc1 hf1
  go_upto_region 4 with fail
  go_cut [12, 13] (fun s12 s13 wx => ∃ (p q : Nat) (ca : Int) (ma : Bool) (xa : Int) (h1 l1 : Nat) (cb : Int) (mb : Bool) (xb : Int) (h2 l2 : Nat), s12 = .pointer (some ⟨p, 0, none⟩) ∧ s13 = .pointer (some ⟨q, 0, none⟩) ∧
    Hid (IsN ca ma xa h1 l1 (readN d a)) ∧ Hid (IsN cb mb xb h2 l2 (readN d b)) ∧ At5 wx p ca ma xa h1 l1 ∧ At5 wx q cb mb xb h2 l2 ∧ At2 wx w1.heap.size E F ∧ Below w.heap.size w wx ∧ p < wx.heap.size ∧ q < wx.heap.size ∧ w1.heap.size < wx.heap.size)
  case first =>
    go_region_held3 (fun w' => w'.cell? ⟨w1.heap.size, 0, none⟩ = some (.int .i64 E) ∧ w'.cell? ⟨w1.heap.size, 1, none⟩ = some (.int .i64 F)) (all_goals (first | (go_keep; done) | (simp (disch := omega) only [cell_set_far]; simp [*])))
      (first
        | (go_at_call_of 35 (Value.int .u64 (a : Int)); refine (read_c d E F hd a ha _).mono ?_; rintro e w2 ⟨ca, ma, xa, h1, l1, rfl, hIa, hb2⟩; obtain ⟨hc2, hf2⟩ := bcell hb2; have hz2 := hb2.size; (try simp only [sz_alloc, sz_drew, sz_set] at hz2 hc2 hf2); have l2_0 : w1.heap.size < w2.heap.size := (by omega); have n2_0 : ¬ w1.heap.size = w2.heap.size := (by omega); have m2_0 : ¬ w2.heap.size = w1.heap.size := (by omega); have k2_0 := fun o => hc2 (w1.heap.size) o (by omega); have f2_0 := fun o => hf2 (w1.heap.size) o (by omega); (try simp (disch := (first | rfl | omega | (simp only [sz_alloc, sz_drew, sz_set]; omega))) only [sz_alloc, sz_drew, sz_set, World.cell?_drew, World.frozen?_drew, World.cell?_alloc_at, World.cell?_alloc_past, World.frozen?_alloc_at, World.frozen?_alloc_past] at k2_0 f2_0); (try (have l2_t0 : w1.heap.size + 1 < w2.heap.size := (by omega); have n2_t0 : ¬ w1.heap.size + 1 = w2.heap.size := (by omega); have m2_t0 : ¬ w2.heap.size = w1.heap.size + 1 := (by omega); have k2_t0 := fun o => hc2 (w1.heap.size + 1) o (by omega); have f2_t0 := fun o => hf2 (w1.heap.size + 1) o (by omega); (try simp (disch := (first | rfl | omega | (simp only [sz_alloc, sz_drew, sz_set]; omega))) only [sz_alloc, sz_drew, sz_set, World.cell?_drew, World.frozen?_drew, World.cell?_alloc_at, World.cell?_alloc_past, World.frozen?_alloc_at, World.frozen?_alloc_past, hc3, hf3] at k2_t0 f2_t0))); (try (have l2_t1 : w1.heap.size + 1 + 1 < w2.heap.size := (by omega); have n2_t1 : ¬ w1.heap.size + 1 + 1 = w2.heap.size := (by omega); have m2_t1 : ¬ w2.heap.size = w1.heap.size + 1 + 1 := (by omega); have k2_t1 := fun o => hc2 (w1.heap.size + 1 + 1) o (by omega); have f2_t1 := fun o => hf2 (w1.heap.size + 1 + 1) o (by omega); (try simp (disch := (first | rfl | omega | (simp only [sz_alloc, sz_drew, sz_set]; omega))) only [sz_alloc, sz_drew, sz_set, World.cell?_drew, World.frozen?_drew, World.cell?_alloc_at, World.cell?_alloc_past, World.frozen?_alloc_at, World.frozen?_alloc_past, hc3, hf3] at k2_t1 f2_t1))); (try (have l2_t2 : w3.heap.size < w2.heap.size := (by omega); have n2_t2 : ¬ w3.heap.size = w2.heap.size := (by omega); have m2_t2 : ¬ w2.heap.size = w3.heap.size := (by omega); have k2_t2 := fun o => hc2 (w3.heap.size) o (by omega); have f2_t2 := fun o => hf2 (w3.heap.size) o (by omega); (try simp (disch := (first | rfl | omega | (simp only [sz_alloc, sz_drew, sz_set]; omega))) only [sz_alloc, sz_drew, sz_set, World.cell?_drew, World.frozen?_drew, World.cell?_alloc_at, World.cell?_alloc_past, World.frozen?_alloc_at, World.frozen?_alloc_past, hc3, hf3] at k2_t2 f2_t2))); (try (have l2_t3 : w3.heap.size + 1 < w2.heap.size := (by omega); have n2_t3 : ¬ w3.heap.size + 1 = w2.heap.size := (by omega); have m2_t3 : ¬ w2.heap.size = w3.heap.size + 1 := (by omega); have k2_t3 := fun o => hc2 (w3.heap.size + 1) o (by omega); have f2_t3 := fun o => hf2 (w3.heap.size + 1) o (by omega); (try simp (disch := (first | rfl | omega | (simp only [sz_alloc, sz_drew, sz_set]; omega))) only [sz_alloc, sz_drew, sz_set, World.cell?_drew, World.frozen?_drew, World.cell?_alloc_at, World.cell?_alloc_past, World.frozen?_alloc_at, World.frozen?_alloc_past, hc3, hf3] at k2_t3 f2_t3))))
        | (go_at_call_of 35 (Value.int .u64 (b : Int)); refine (read_c d E F hd b hb _).mono ?_; rintro e w3 ⟨cb, mb, xb, h2, l2, rfl, hIb, hb3⟩; obtain ⟨hc3, hf3⟩ := bcell hb3; have hz3 := hb3.size; (try simp only [sz_alloc, sz_drew, sz_set] at hz3 hc3 hf3); have l3_0 : w1.heap.size < w3.heap.size := (by omega); have n3_0 : ¬ w1.heap.size = w3.heap.size := (by omega); have m3_0 : ¬ w3.heap.size = w1.heap.size := (by omega); have k3_0 := fun o => hc3 (w1.heap.size) o (by omega); have f3_0 := fun o => hf3 (w1.heap.size) o (by omega); (try simp (disch := (first | rfl | omega | (simp only [sz_alloc, sz_drew, sz_set]; omega))) only [sz_alloc, sz_drew, sz_set, World.cell?_drew, World.frozen?_drew, World.cell?_alloc_at, World.cell?_alloc_past, World.frozen?_alloc_at, World.frozen?_alloc_past] at k3_0 f3_0); (try (have l3_t0 : w1.heap.size + 1 < w3.heap.size := (by omega); have n3_t0 : ¬ w1.heap.size + 1 = w3.heap.size := (by omega); have m3_t0 : ¬ w3.heap.size = w1.heap.size + 1 := (by omega); have k3_t0 := fun o => hc3 (w1.heap.size + 1) o (by omega); have f3_t0 := fun o => hf3 (w1.heap.size + 1) o (by omega); (try simp (disch := (first | rfl | omega | (simp only [sz_alloc, sz_drew, sz_set]; omega))) only [sz_alloc, sz_drew, sz_set, World.cell?_drew, World.frozen?_drew, World.cell?_alloc_at, World.cell?_alloc_past, World.frozen?_alloc_at, World.frozen?_alloc_past, hc2, hf2] at k3_t0 f3_t0))); (try (have l3_t1 : w1.heap.size + 1 + 1 < w3.heap.size := (by omega); have n3_t1 : ¬ w1.heap.size + 1 + 1 = w3.heap.size := (by omega); have m3_t1 : ¬ w3.heap.size = w1.heap.size + 1 + 1 := (by omega); have k3_t1 := fun o => hc3 (w1.heap.size + 1 + 1) o (by omega); have f3_t1 := fun o => hf3 (w1.heap.size + 1 + 1) o (by omega); (try simp (disch := (first | rfl | omega | (simp only [sz_alloc, sz_drew, sz_set]; omega))) only [sz_alloc, sz_drew, sz_set, World.cell?_drew, World.frozen?_drew, World.cell?_alloc_at, World.cell?_alloc_past, World.frozen?_alloc_at, World.frozen?_alloc_past, hc2, hf2] at k3_t1 f3_t1))); (try (have l3_t2 : w2.heap.size < w3.heap.size := (by omega); have n3_t2 : ¬ w2.heap.size = w3.heap.size := (by omega); have m3_t2 : ¬ w3.heap.size = w2.heap.size := (by omega); have k3_t2 := fun o => hc3 (w2.heap.size) o (by omega); have f3_t2 := fun o => hf3 (w2.heap.size) o (by omega); (try simp (disch := (first | rfl | omega | (simp only [sz_alloc, sz_drew, sz_set]; omega))) only [sz_alloc, sz_drew, sz_set, World.cell?_drew, World.frozen?_drew, World.cell?_alloc_at, World.cell?_alloc_past, World.frozen?_alloc_at, World.frozen?_alloc_past, hc2, hf2] at k3_t2 f3_t2))); (try (have l3_t3 : w2.heap.size + 1 < w3.heap.size := (by omega); have n3_t3 : ¬ w2.heap.size + 1 = w3.heap.size := (by omega); have m3_t3 : ¬ w3.heap.size = w2.heap.size + 1 := (by omega); have k3_t3 := fun o => hc3 (w2.heap.size + 1) o (by omega); have f3_t3 := fun o => hf3 (w2.heap.size + 1) o (by omega); (try simp (disch := (first | rfl | omega | (simp only [sz_alloc, sz_drew, sz_set]; omega))) only [sz_alloc, sz_drew, sz_set, World.cell?_drew, World.frozen?_drew, World.cell?_alloc_at, World.cell?_alloc_past, World.frozen?_alloc_at, World.frozen?_alloc_past, hc2, hf2] at k3_t3 f3_t3)))))
    all_goals go_wp2_with fail
    all_goals go_meet
    all_goals refine ⟨_, _, ca, ma, xa, h1, l1, cb, mb, xb, h2, l2, rfl, rfl, hIa, hIb, ⟨?_, ?_, ?_, ?_, ?_, ?_⟩, ⟨?_, ?_, ?_, ?_, ?_, ?_⟩, ⟨?_, ?_⟩, (by repeat (first | (with_reducible first | exact Below.refl _ _ | assumption | exact Nat.le_refl _ | refine Below.drew ?_ | refine Below.alloc ?_ ?_ _ | refine Below.setCell ?_ ?_ _ | refine le_alloc ?_ | refine le_set ?_ | refine le_drew ?_ | refine below_step (by assumption) ?_ ?_ | refine le_below (by assumption) ?_) | (dsimp only; omega))), ?_, ?_, ?_⟩
    all_goals (first | (simp only [sz_set, sz_drew, sz_alloc]; omega) | (go_simp; done) | (simp (disch := omega) [*, cell_set_far]; done))
  case rest =>
    obtain ⟨p, q, ca, ma, xa, h1, l1, cb, mb, xb, h2, l2, rfl, rfl, hIa, hIb, ⟨p0, p1, p2, p3, p4, p5⟩, ⟨q0, q1, q2, q3, q4, q5⟩, ⟨t0, t1⟩, hbc, zp, zq, zl⟩ := hcut
    have A1 := Lib.hid (readN_all d a)
    have A2 := Lib.hid (readN_all d b)
    have hca : Hid (ca = (readN d a).cls) := hIa.out.1
    have hcb : Hid (cb = (readN d b).cls) := hIb.out.1
    have x1 : -100000 ≤ xa := by have := A1.out; have := hIa.out.2.2.1; omega
    have x2 : xa ≤ 100000 := by have := A1.out; have := hIa.out.2.2.1; omega
    have x3 : -100000 ≤ xb := by have := A2.out; have := hIb.out.2.2.1; omega
    have x4 : xb ≤ 100000 := by have := A2.out; have := hIb.out.2.2.1; omega
    go_wp2_with fail
    refine (noughtAndInfinity_c ca ma xa h1 l1 cb mb xb h2 l2 _).mono ?_
    rintro e w4 ⟨rfl, hb4⟩
    obtain ⟨hc4, hf4⟩ := bcell hb4; have hz4 := hb4.size
    have k4p := fun o => hc4 p o zp; have k4q := fun o => hc4 q o zq; have k4l := fun o => hc4 w1.heap.size o zl
    have zp4 : p < w4.heap.size := by omega
    have zq4 : q < w4.heap.size := by omega
    have zl4 : w1.heap.size < w4.heap.size := by omega
    clear hc4 hf4
    by_cases hni : ca = 0 ∧ cb = 2 ∨ ca = 2 ∧ cb = 0
    · have HT : Hid (mulF d rm (readN d a) (readN d b) = (quietB d, 16)) := by
        show _ = _; unfold mulF; rw [if_pos (by have := hca.out; have := hcb.out; omega)]
      rw [decide_eq_true hni]; clear hni
      go_wp2_with fail
      refine (quiet_c d E F hd.out _).mono ?_
      rintro e w5 ⟨rfl, hb5⟩
      go_wp2_with fail
      go_ret2
      exact retP_mk (by rw [HT.out]) (by rw [HT.out]) (by repeat (first | (with_reducible first | exact Below.refl _ _ | assumption | exact Nat.le_refl _ | refine Below.drew ?_ | refine Below.alloc ?_ ?_ _ | refine Below.setCell ?_ ?_ _ | refine le_alloc ?_ | refine le_set ?_ | refine le_drew ?_ | refine below_step (by assumption) ?_ ?_ | refine le_below (by assumption) ?_) | (dsimp only; omega)))
    · have HT0 : Hid (mulF d rm (readN d a) (readN d b) = if someV (productN (readN d a) (readN d b)).cls 0 then (quietB d, flagV (productN (readN d a) (readN d b)).cls 0) else writeF d rm (productN (readN d a) (readN d b))) := by
        show _ = _; unfold mulF; rw [if_neg (by have := hca.out; have := hcb.out; omega)]
      rw [decide_eq_false hni]; clear hni
      go_wp2_with fail
      refine (product_c ca ma xa h1 l1 _ hIa cb mb xb h2 l2 _ hIb A1.out.1 A2.out.1 x1 x2 x3 x4 _).mono ?_
      rintro e w5 ⟨cp, mp, xp, h5', l5, rfl, hIp, hb5⟩
      obtain ⟨hc5, hf5⟩ := bcell hb5; have hz5 := hb5.size
      have k5l := fun o => hc5 w1.heap.size o zl4
      have zl5 : w1.heap.size < w5.heap.size := by omega
      clear hc5 hf5
      have hcp : Hid (cp = (productN (readN d a) (readN d b)).cls) := hIp.out.1
      have HPF : Hid ((productN (readN d a) (readN d b)).cls ≤ 4 ∧ ((productN (readN d a) (readN d b)).cls = 1 → FinC (productN (readN d a) (readN d b)))) :=
        ⟨productN_cls (readN_cls d a) (readN_cls d b), productN_fin (readN_finB d a) (readN_finB d b) A1.out.1 A2.out.1⟩
      go_wp2_with fail
      refine (noNumbers_1 cp mp xp h5' l5 _ (w5.heap.size + 1) (by simp only [sz_alloc]; omega) (fun o => World.cell?_alloc_at _ _ _ _ (by simp only [sz_alloc]))).mono ?_
      rintro e w6 ⟨rfl, hb6⟩
      obtain ⟨hc6, hf6⟩ := bcell hb6; have hz6 := hb6.size; (try simp only [sz_alloc, sz_drew, sz_set] at hz6 hc6 hf6); have l6_0 : w1.heap.size < w6.heap.size := (by omega); have n6_0 : ¬ w1.heap.size = w6.heap.size := (by omega); have m6_0 : ¬ w6.heap.size = w1.heap.size := (by omega); have k6_0 := fun o => hc6 (w1.heap.size) o (by omega); have f6_0 := fun o => hf6 (w1.heap.size) o (by omega); (try simp (disch := (first | rfl | omega | (simp only [sz_alloc, sz_drew, sz_set]; omega))) only [sz_alloc, sz_drew, sz_set, World.cell?_drew, World.frozen?_drew, World.cell?_alloc_at, World.cell?_alloc_past, World.frozen?_alloc_at, World.frozen?_alloc_past] at k6_0 f6_0); have l6_1 : w5.heap.size < w6.heap.size := (by omega); have n6_1 : ¬ w5.heap.size = w6.heap.size := (by omega); have m6_1 : ¬ w6.heap.size = w5.heap.size := (by omega); have k6_1 := fun o => hc6 (w5.heap.size) o (by omega); have f6_1 := fun o => hf6 (w5.heap.size) o (by omega); (try simp (disch := (first | rfl | omega | (simp only [sz_alloc, sz_drew, sz_set]; omega))) only [sz_alloc, sz_drew, sz_set, World.cell?_drew, World.frozen?_drew, World.cell?_alloc_at, World.cell?_alloc_past, World.frozen?_alloc_at, World.frozen?_alloc_past] at k6_1 f6_1)
      clear hc6 hf6
      by_cases hsv : someV cp 0 = true
      · have HT : Hid (mulF d rm (readN d a) (readN d b) = (quietB d, flagV cp 0)) := by show _ = _; rw [HT0.out, ← hcp.out, if_pos hsv]
        rw [hsv]
        generalize flagV cp 0 = fl at *
        clear hsv
        go_wp2_with fail
        refine (quiet_c d E F hd.out _).mono ?_
        rintro e w7 ⟨rfl, hb7⟩
        go_wp2_with fail
        go_ret2
        exact retP_mk (by rw [HT.out]) (by rw [HT.out]) (by repeat (first | (with_reducible first | exact Below.refl _ _ | assumption | exact Nat.le_refl _ | refine Below.drew ?_ | refine Below.alloc ?_ ?_ _ | refine Below.setCell ?_ ?_ _ | refine le_alloc ?_ | refine le_set ?_ | refine le_drew ?_ | refine below_step (by assumption) ?_ ?_ | refine le_below (by assumption) ?_) | (dsimp only; omega)))
      · have hsv2 : someV cp 0 = false := Bool.eq_false_iff.2 hsv
        have HT : Hid (mulF d rm (readN d a) (readN d b) = writeF d rm (productN (readN d a) (readN d b))) := by show _ = _; rw [HT0.out, ← hcp.out, hsv2]; rfl
        have HFC : Hid ((productN (readN d a) (readN d b)).cls ≠ 0 → (productN (readN d a) (readN d b)).cls ≠ 2 → FinC (productN (readN d a) (readN d b))) := by
          intro k1 k2
          have h1 := of_decide_eq_false hsv2; have h2 := hcp.out; have h3 := HPF.out.1
          exact HPF.out.2 (by omega)
        rw [hsv2]
        generalize flagV cp 0 = fl
        clear hsv hsv2
        go_wp2_with fail
        refine (write_c d E F hd.out rm cp mp xp h5' l5 _ hIp HFC _).mono ?_
        rintro e w7 ⟨rfl, hb7⟩
        generalize hr : writeF d rm (productN (readN d a) (readN d b)) = r
        have HR := Lib.hid hr; clear hr
        go_wp2_with fail
        go_ret2
        exact retP_mk (by rw [HT.out, HR.out]) (by rw [HT.out, HR.out]) (by repeat (first | (with_reducible first | exact Below.refl _ _ | assumption | exact Nat.le_refl _ | refine Below.drew ?_ | refine Below.alloc ?_ ?_ _ | refine Below.setCell ?_ ?_ _ | refine le_alloc ?_ | refine le_set ?_ | refine le_drew ?_ | refine below_step (by assumption) ?_ ?_ | refine le_below (by assumption) ?_) | (dsimp only; omega)))
end Go.Proofs.Ythjdeopfbjmmeaa
